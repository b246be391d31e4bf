package tuples_test

import (
	"math"
	"math/big"
	"math/rand"
	"slices"
	"testing"

	"ogive/api"
	"ogive/tuples"
)

const (
	lowest  = math.MinInt64
	highest = math.MaxInt64
	all     = uint64(math.MaxUint64)
)

// spot is a value, and between which places it stands. No number of a model has a limit.
type spot struct {
	x         int64
	low, high *big.Int
}

// model is a row as its places tell it: a second reading, in which there are neither steps nor slacks.
type model struct {
	spots []spot
	n     *big.Int
}

func number(n uint64) *big.Int { return new(big.Int).SetUint64(n) }

func plus(a, b *big.Int) *big.Int { return new(big.Int).Add(a, b) }

func minus(a, b *big.Int) *big.Int { return new(big.Int).Sub(a, b) }

func one() *big.Int { return big.NewInt(1) }

// of reads a row.
func of(row []tuples.Tuple) model {
	m := model{n: new(big.Int)}
	for _, t := range row {
		m.n = plus(m.n, number(t.Step))
		m.spots = append(m.spots, spot{t.X, m.n, plus(m.n, number(t.Slack))})
	}
	return m
}

// row tells a model as tuples, if all its numbers have at most 64 bits.
func (m model) row(t *testing.T) []tuples.Tuple {
	t.Helper()
	var row []tuples.Tuple
	for i, s := range m.spots {
		step, slack := minus(s.low, m.below(i)), minus(s.high, s.low)
		if !step.IsUint64() || !slack.IsUint64() {
			t.Fatalf("%d: from %s to %s isn't told by 64 bits", s.x, s.low, s.high)
		}
		row = append(row, tuples.Tuple{X: s.x, Step: step.Uint64(), Slack: slack.Uint64()})
	}
	return row
}

// below is the least place of the spot ahead of the i-th one; 0, if there is none.
func (m model) below(i int) *big.Int {
	if i == 0 {
		return new(big.Int)
	}
	return m.spots[i-1].low
}

// good: whether a row can be, by its places.
func (m model) good() bool {
	for i, s := range m.spots {
		if i == 0 && (s.low.Cmp(one()) != 0 || s.high.Cmp(one()) != 0) {
			return false
		}
		if i > 0 && m.spots[i-1].x > s.x || s.low.Cmp(m.below(i)) <= 0 || s.high.Cmp(m.n) > 0 {
			return false
		}
	}
	return m.n.Cmp(big.NewInt(api.MaxCount)) <= 0
}

// after is the index of the first spot whose value is greater; with the same value, too, if same.
func (m model) after(x int64, same bool) int {
	for i, s := range m.spots {
		if s.x > x || same && s.x == x {
			return i
		}
	}
	return len(m.spots)
}

// insert: where the value stands, it may stand at each place from that behind the least one ahead to the greatest one of the spot behind, which itself moves on.
func (m model) insert(x int64) model {
	at := m.after(x, false)
	low := plus(m.below(at), one())
	high := low
	if 0 < at && at < len(m.spots) {
		high = m.spots[at].high
	}
	spots := append(slices.Clone(m.spots[:at]), spot{x, low, high})
	for _, s := range m.spots[at:] {
		spots = append(spots, spot{s.x, plus(s.low, one()), plus(s.high, one())})
	}
	return model{spots, plus(m.n, one())}
}

// squeeze: a spot goes, if all the places from behind the least one ahead of it to the greatest one behind it are no more than the limit.
func (m model) squeeze(limit uint64) model {
	spots := slices.Clone(m.spots)
	for i := len(spots) - 2; i > 0; i-- {
		if minus(spots[i+1].high, spots[i-1].low).Cmp(number(limit)) <= 0 {
			spots = slices.Delete(spots, i, i+1)
		}
	}
	return model{spots, m.n}
}

// merge: to each spot's places come those of the other row: at least those of the spot ahead, at most those up to the spot behind, without it.
func (m model) merge(o model) model {
	both := model{nil, plus(m.n, o.n)}
	i, j := 0, 0
	for i < len(m.spots) || j < len(o.spots) {
		if j == len(o.spots) || i < len(m.spots) && m.spots[i].x <= o.spots[j].x {
			both.spots = append(both.spots, m.spots[i].beside(o, j))
			i++
		} else {
			both.spots = append(both.spots, o.spots[j].beside(m, i))
			j++
		}
	}
	return both
}

// beside is a spot among those of another row, the at-th one of which stands behind it.
func (s spot) beside(o model, at int) spot {
	most := o.n
	if at < len(o.spots) {
		most = minus(o.spots[at].high, one())
	}
	return spot{s.x, plus(s.low, o.below(at)), plus(s.high, most)}
}

// find: the first spot whose farther end lies closest.
func (m model) find(t uint64) (int64, bool) {
	var x int64
	var closest *big.Int
	for _, s := range m.spots {
		far := minus(number(t), s.low)
		if off := minus(s.high, number(t)); off.Cmp(far) > 0 {
			far = off
		}
		if closest == nil || far.Cmp(closest) < 0 {
			x, closest = s.x, far
		}
	}
	return x, closest != nil
}

// rank: the least place of the last spot that isn't greater, and the greatest one of the first that is, less 1.
func (m model) rank(x int64) (*big.Int, *big.Int) {
	least, most := new(big.Int), m.n
	for i := len(m.spots) - 1; i >= 0; i-- {
		if m.spots[i].x > x {
			most = minus(m.spots[i].high, one())
		} else if least.Sign() == 0 {
			least = m.spots[i].low
		}
	}
	return least, most
}

// spare is a row that has room behind it, and what stands there.
func spare(row []tuples.Tuple) []tuples.Tuple {
	room := append(slices.Clone(row), tuples.Tuple{X: 77, Step: 78, Slack: 79}, tuples.Tuple{X: 80, Step: 81, Slack: 82}, tuples.Tuple{X: 83, Step: 84, Slack: 85})
	return room[:len(row)]
}

// mustBe holds a row against what it ought to be.
func mustBe(t *testing.T, what string, from, got, want []tuples.Tuple) {
	t.Helper()
	if !slices.Equal(got, want) {
		t.Fatalf("%s of %v: %v, not %v", what, from, got, want)
	}
}

// mustTell holds what a row tells, at the values and the places that are handed in, against the model; and that the row stays.
func mustTell(t *testing.T, row []tuples.Tuple, xs []int64, places []uint64) {
	t.Helper()
	m, room := of(row), spare(row)
	n, ok := tuples.Total(room)
	if fits := m.n.Cmp(big.NewInt(api.MaxCount)) <= 0; ok != fits || fits && n != m.n.Uint64() || !fits && n != 0 {
		t.Fatalf("Total of %v: %d, %t", row, n, ok)
	}
	if got := tuples.Good(room); got != m.good() {
		t.Fatalf("Good of %v: %t", row, got)
	}
	for _, p := range places {
		x, ok := tuples.Find(room, p)
		if want, some := m.find(p); x != want || ok != some {
			t.Fatalf("Find of %d in %v: %d, %t, not %d, %t", p, row, x, ok, want, some)
		}
	}
	for _, x := range xs {
		least, most := tuples.Rank(room, x)
		if low, high := m.rank(x); number(least).Cmp(low) != 0 || number(most).Cmp(high) != 0 {
			t.Fatalf("Rank of %d in %v: %d, %d, not %s, %s", x, row, least, most, low, high)
		}
	}
	mustBe(t, "asking", row, room[:len(row)+3], spare(row)[:len(row)+3])
}

// mustChange holds what a row becomes against the model, be there room behind it or none.
func mustChange(t *testing.T, row []tuples.Tuple, xs []int64, limits []uint64) {
	t.Helper()
	m := of(row)
	for _, x := range xs {
		want := m.insert(x).row(t)
		mustBe(t, "Insert", row, tuples.Insert(slices.Clip(slices.Clone(row)), x), want)
		mustBe(t, "Insert", row, tuples.Insert(spare(row), x), want)
	}
	for _, limit := range limits {
		want := m.squeeze(limit).row(t)
		mustBe(t, "Squeeze", row, tuples.Squeeze(slices.Clip(slices.Clone(row)), limit), want)
		mustBe(t, "Squeeze", row, tuples.Squeeze(spare(row), limit), want)
	}
}

// mustMerge holds two rows, merged, against the model: in new memory, with both as they were.
func mustMerge(t *testing.T, a, b []tuples.Tuple) {
	t.Helper()
	first, second := spare(a), spare(b)
	both, want := tuples.Merge(first, second), of(a).merge(of(b)).row(t)
	if !slices.Equal(both, want) {
		t.Fatalf("Merge of %v and %v: %v, not %v", a, b, both, want)
	}
	// What is written into the answer isn't seen by the others.
	for i := range both[:cap(both)] {
		both[:cap(both)][i] = tuples.Tuple{X: -9, Step: 9, Slack: 9}
	}
	mustBe(t, "merging", a, first[:len(a)+3], spare(a)[:len(a)+3])
	mustBe(t, "merging", b, second[:len(b)+3], spare(b)[:len(b)+3])
}

// rows are all rows that can be of so many tuples, with values from 0 on, below values, and steps, below steps.
func rows(long, values int, steps uint64) [][]tuples.Tuple {
	list := [][]tuples.Tuple{nil}
	for range long {
		var longer [][]tuples.Tuple
		for _, row := range list {
			for x := range int64(values) {
				for step := range steps {
					for slack := range 2 * steps {
						longer = append(longer, append(slices.Clip(row), tuples.Tuple{X: x, Step: step, Slack: slack}))
					}
				}
			}
		}
		// What falls short ahead of its end can't be mended by what follows.
		list = slices.DeleteFunc(longer, func(row []tuples.Tuple) bool {
			return row[0].Step != 1 || row[0].Slack != 0 || row[len(row)-1].Step == 0 || len(row) > 1 && row[len(row)-2].X > row[len(row)-1].X
		})
	}
	return slices.DeleteFunc(list, func(row []tuples.Tuple) bool { return !of(row).good() })
}

// random is a row that can be, of so many tuples, with steps up to a number.
func random(source *rand.Rand, long int, values int64, steps uint64) []tuples.Tuple {
	var row []tuples.Tuple
	var xs []int64
	for range long {
		xs = append(xs, source.Int63n(values))
	}
	slices.Sort(xs)
	left := uint64(0)
	for i := long - 1; i >= 0; i-- {
		// What is left is how many places there are behind this one.
		t := tuples.Tuple{X: xs[i], Step: 1 + source.Uint64()%steps, Slack: min(left, source.Uint64()%(steps+1))}
		if i == 0 {
			t.Step, t.Slack = 1, 0
		}
		left += t.Step
		row = append(row, t)
	}
	slices.Reverse(row)
	return row
}
