package tuples_test

import (
	"math/big"
	"math/rand"
	"slices"
	"testing"

	"ogive/api"
	"ogive/tuples"
)

// P18.1: the chapter's example.
func TestExample(t *testing.T) {
	var row []tuples.Tuple
	for _, x := range []int64{5, 7, 6} {
		row = tuples.Insert(row, x)
	}
	mustBe(t, "5, 7, 6", nil, row, []tuples.Tuple{{5, 1, 0}, {6, 1, 0}, {7, 1, 0}})
}

// P18.1: Insert by hand: behind all that aren't greater; without slack only as the first and as the last one.
func TestInsert(t *testing.T) {
	row := []tuples.Tuple{{2, 1, 0}, {4, 3, 2}, {4, 1, 1}, {6, 2, 0}}
	for x, want := range map[int64][]tuples.Tuple{
		1: {{1, 1, 0}, {2, 1, 0}, {4, 3, 2}, {4, 1, 1}, {6, 2, 0}},
		2: {{2, 1, 0}, {2, 1, 4}, {4, 3, 2}, {4, 1, 1}, {6, 2, 0}},
		3: {{2, 1, 0}, {3, 1, 4}, {4, 3, 2}, {4, 1, 1}, {6, 2, 0}},
		4: {{2, 1, 0}, {4, 3, 2}, {4, 1, 1}, {4, 1, 1}, {6, 2, 0}},
		5: {{2, 1, 0}, {4, 3, 2}, {4, 1, 1}, {5, 1, 1}, {6, 2, 0}},
		6: {{2, 1, 0}, {4, 3, 2}, {4, 1, 1}, {6, 2, 0}, {6, 1, 0}},
		7: {{2, 1, 0}, {4, 3, 2}, {4, 1, 1}, {6, 2, 0}, {7, 1, 0}},

		lowest:  {{lowest, 1, 0}, {2, 1, 0}, {4, 3, 2}, {4, 1, 1}, {6, 2, 0}},
		highest: {{2, 1, 0}, {4, 3, 2}, {4, 1, 1}, {6, 2, 0}, {highest, 1, 0}},
	} {
		mustBe(t, "Insert", row, tuples.Insert(slices.Clone(row), x), want)
	}
	for _, x := range []int64{lowest, -1, 0, 1, highest} {
		mustBe(t, "Insert", nil, tuples.Insert(nil, x), []tuples.Tuple{{x, 1, 0}})
		mustBe(t, "Insert", nil, tuples.Insert([]tuples.Tuple{}, x), []tuples.Tuple{{x, 1, 0}})
		mustBe(t, "Insert", nil, tuples.Insert(tuples.Insert(nil, x), x), []tuples.Tuple{{x, 1, 0}, {x, 1, 0}})
	}
}

// P18.1: Squeeze by hand: from the end on, with the step of the one behind as it is then; the first and the last one stay.
func TestSqueeze(t *testing.T) {
	row := []tuples.Tuple{{1, 1, 0}, {2, 1, 3}, {3, 2, 1}, {4, 1, 2}, {5, 1, 0}, {6, 2, 0}}
	for limit, want := range map[uint64][]tuples.Tuple{
		0: {{1, 1, 0}, {2, 1, 3}, {3, 2, 1}, {4, 1, 2}, {5, 1, 0}, {6, 2, 0}},
		1: {{1, 1, 0}, {2, 1, 3}, {3, 2, 1}, {4, 1, 2}, {5, 1, 0}, {6, 2, 0}},
		// 4 goes into 5; 5 stays, since it doesn't go into 6, and is asked ahead.
		2: {{1, 1, 0}, {2, 1, 3}, {3, 2, 1}, {5, 2, 0}, {6, 2, 0}},
		// 5 goes into 6, which then is too great for 4; 2 and 3 stay, too.
		3: {{1, 1, 0}, {2, 1, 3}, {3, 2, 1}, {4, 1, 2}, {6, 3, 0}},
		// 4 follows 5; 2 goes into 3.
		4: {{1, 1, 0}, {3, 3, 1}, {6, 4, 0}},
		5: {{1, 1, 0}, {3, 3, 1}, {6, 4, 0}},
		6: {{1, 1, 0}, {2, 1, 3}, {6, 6, 0}},
		7: {{1, 1, 0}, {6, 7, 0}},
		8: {{1, 1, 0}, {6, 7, 0}},

		all: {{1, 1, 0}, {6, 7, 0}},
	} {
		mustBe(t, "Squeeze", row, tuples.Squeeze(slices.Clone(row), limit), want)
	}
	for _, short := range [][]tuples.Tuple{nil, {{4, 1, 0}}, {{4, 1, 0}, {4, 1, 0}}, {{4, 1, 0}, {9, api.MaxCount - 1, 0}}} {
		for _, limit := range []uint64{0, 1, 2, 3, api.MaxCount, all} {
			mustBe(t, "Squeeze", short, tuples.Squeeze(slices.Clone(short), limit), short)
		}
	}
}

// P18.1: Merge by hand: of the same values those of the first row stand ahead, and so those of the second one stand behind them.
func TestMerge(t *testing.T) {
	a := []tuples.Tuple{{1, 1, 0}, {4, 2, 1}, {4, 1, 2}, {9, 2, 0}}
	b := []tuples.Tuple{{0, 1, 0}, {4, 3, 2}, {5, 2, 1}, {9, 1, 0}}
	mustBe(t, "Merge", a, tuples.Merge(a, b), []tuples.Tuple{{0, 1, 0}, {1, 1, 4}, {4, 2, 5}, {4, 1, 6}, {4, 3, 3}, {5, 2, 2}, {9, 2, 0}, {9, 1, 0}})
	mustBe(t, "Merge", b, tuples.Merge(b, a), []tuples.Tuple{{0, 1, 0}, {1, 1, 4}, {4, 3, 4}, {4, 2, 3}, {4, 1, 4}, {5, 2, 2}, {9, 1, 1}, {9, 2, 0}})
	mustBe(t, "Merge", a, tuples.Merge(a, nil), a)
	mustBe(t, "Merge", b, tuples.Merge(nil, b), b)
	mustBe(t, "Merge", nil, tuples.Merge(nil, []tuples.Tuple{}), nil)
	// A row with itself: its memory is read twice, and written nowhere.
	mustBe(t, "Merge", a, tuples.Merge(a, a), []tuples.Tuple{{1, 1, 0}, {1, 1, 2}, {4, 2, 3}, {4, 1, 4}, {4, 2, 2}, {4, 1, 3}, {9, 2, 1}, {9, 2, 0}})
}

// P18.1: Find by hand: the farther end of each one's places plays; of equal ones the first. Rank by hand.
func TestFindRank(t *testing.T) {
	// Places 1; 2 to 4; 5; 6 to 9; 9.
	row := []tuples.Tuple{{10, 1, 0}, {20, 1, 2}, {30, 3, 0}, {30, 1, 3}, {50, 3, 0}}
	for place, want := range []int64{10, 10, 10, 20, 30, 30, 30, 30, 50, 50, 50, 50} {
		if x, ok := tuples.Find(row, uint64(place)); x != want || !ok {
			t.Errorf("Find of %d: %d, %t, not %d", place, x, ok, want)
		}
	}
	if x, ok := tuples.Find(row, all); x != 50 || !ok {
		t.Errorf("Find of %d: %d, %t", all, x, ok)
	}
	for x, want := range map[int64][2]uint64{lowest: {0, 0}, 9: {0, 0}, 10: {1, 3}, 19: {1, 3}, 20: {2, 4}, 29: {2, 4}, 30: {6, 8}, 49: {6, 8}, 50: {9, 9}, 51: {9, 9}, highest: {9, 9}} {
		if least, most := tuples.Rank(row, x); least != want[0] || most != want[1] {
			t.Errorf("Rank of %d: %d, %d, not %v", x, least, most, want)
		}
	}
	for _, none := range [][]tuples.Tuple{nil, {}} {
		for _, n := range []uint64{0, 1, 2, api.MaxCount, all} {
			if x, ok := tuples.Find(none, n); x != 0 || ok {
				t.Errorf("Find of %d in nothing: %d, %t", n, x, ok)
			}
			if least, most := tuples.Rank(none, int64(n)); least != 0 || most != 0 {
				t.Errorf("Rank of %d in nothing: %d, %d", int64(n), least, most)
			}
		}
	}
}

// P18.1: what can't be, one fault each; and what only just can.
func TestGood(t *testing.T) {
	for _, row := range [][]tuples.Tuple{
		nil,
		{},
		{{5, 1, 0}},
		{{lowest, 1, 0}, {highest, 1, 0}},
		{{5, 1, 0}, {5, 1, 0}},
		{{5, 1, 0}, {5, 3, 2}, {6, 2, 0}},
		{{5, 1, 0}, {6, api.MaxCount - 1, 0}},
		{{5, 1, 0}, {6, 1, api.MaxCount - 2}, {7, api.MaxCount - 2, 0}},
	} {
		if !tuples.Good(row) {
			t.Errorf("%v can't be", row)
		}
	}
	for _, row := range [][]tuples.Tuple{
		{{5, 0, 0}},
		{{5, 2, 0}},
		{{5, all, 0}},
		{{5, 1, 1}},
		{{5, 1, all}},
		{{5, 2, 0}, {6, 1, 0}},
		{{5, 0, 1}, {6, 1, 0}},
		{{5, 1, 1}, {6, 1, 0}},
		{{6, 1, 0}, {5, 1, 0}},
		{{highest, 1, 0}, {lowest, 1, 0}},
		{{5, 1, 0}, {7, 1, 0}, {6, 1, 0}},
		{{5, 1, 0}, {6, 0, 0}},
		{{5, 1, 0}, {6, 0, 1}, {7, 1, 0}},
		{{5, 1, 0}, {6, 1, 1}},
		{{5, 1, 0}, {5, 3, 3}, {6, 2, 0}},
		{{5, 1, 0}, {6, 1, all}, {7, 1, 0}},
		{{5, 1, 0}, {6, 2, all - 1}, {7, 1, 0}},
		{{5, 1, 0}, {6, 1, all - 1}, {7, 1, 0}},
		{{5, 1, 0}, {6, api.MaxCount, 0}},
		{{5, 1, 0}, {6, 1 << 63, 0}, {7, 1 << 63, 0}},
		{{5, 1, 0}, {6, all, 0}, {7, 1, 0}},
		{{5, 1, 0}, {6, 1, api.MaxCount - 1}, {7, api.MaxCount - 2, 0}},
	} {
		if tuples.Good(row) {
			t.Errorf("%v can be", row)
		}
	}
}

// P18.1: Total, of rows that can't be, too: what is too much at any place stays so.
func TestTotal(t *testing.T) {
	for _, c := range []struct {
		steps []uint64
		want  uint64
		ok    bool
	}{
		{nil, 0, true},
		{[]uint64{0}, 0, true},
		{[]uint64{0, 3, 0, 4}, 7, true},
		{[]uint64{api.MaxCount}, api.MaxCount, true},
		{[]uint64{api.MaxCount, 0}, api.MaxCount, true},
		{[]uint64{1, api.MaxCount - 1}, api.MaxCount, true},
		{[]uint64{1, api.MaxCount}, 0, false},
		{[]uint64{1 << 63}, 0, false},
		{[]uint64{all}, 0, false},
		{[]uint64{1, all}, 0, false},
		{[]uint64{1, 1 << 63, 1 << 63}, 0, false},
		{[]uint64{api.MaxCount, api.MaxCount, 2, 5}, 0, false},
	} {
		var row []tuples.Tuple
		for i, step := range c.steps {
			row = append(row, tuples.Tuple{X: int64(-i), Step: step, Slack: all})
		}
		if n, ok := tuples.Total(row); n != c.want || ok != c.ok {
			t.Errorf("Total of %v: %d, %t", row, n, ok)
		}
	}
}

// P18.1: Limit, by numbers without limit, over all edges of both numbers and the count.
func TestLimit(t *testing.T) {
	edges := []uint64{0, 1, 2, 3, 7, 99, 100, 101, 1<<31 - 1, 1 << 31, 1<<31 + 1, 1 << 32, 1<<32 + 1, 1<<33 - 1, 1<<62 - 1, 1 << 62, api.MaxCount, 1 << 63, all - 1, all}
	for _, u := range edges[:10] {
		for _, v := range edges {
			for _, n := range edges {
				mustLimit(t, u, v, n)
			}
		}
	}
	source := rand.New(rand.NewSource(181))
	for range 20000 {
		mustLimit(t, source.Uint64()%(1<<source.Intn(32)+1), source.Uint64()>>source.Intn(64), source.Uint64()>>source.Intn(64))
	}
}

func mustLimit(t *testing.T, u, v, n uint64) {
	t.Helper()
	want := n
	if v != 0 {
		whole := new(big.Int).Mul(new(big.Int).Mul(big.NewInt(2), number(u)), number(n))
		whole.Quo(whole, number(v))
		if whole.IsUint64() {
			want = max(whole.Uint64(), 1)
		}
	}
	if got := tuples.Limit(api.Ratio{Num: u, Den: v}, n); got != want {
		t.Fatalf("Limit of %d / %d, of %d: %d, not %d", u, v, n, got, want)
	}
}

// P18.1: all rows of up to three tuples, those that can't be, too: Good and Total.
func TestAllGood(t *testing.T) {
	var list []tuples.Tuple
	for x := range int64(3) {
		for step := range uint64(4) {
			for slack := range uint64(5) {
				list = append(list, tuples.Tuple{X: x - 1, Step: step, Slack: slack})
			}
		}
	}
	can := 0
	hold := func(row ...tuples.Tuple) {
		good := of(row).good()
		if good {
			can++
		}
		if tuples.Good(row) != good {
			t.Fatalf("Good of %v isn't %t", row, good)
		}
	}
	for _, a := range list {
		hold(a)
		for _, b := range list {
			hold(a, b)
			for _, c := range list {
				hold(a, b, c)
			}
		}
	}
	if can < 200 {
		t.Errorf("but %d of them can be", can)
	}
}

// P18.1: all small rows that can be: all calls, at all values and places; and all pairs of them, merged.
func TestAllRows(t *testing.T) {
	xs, places := []int64{lowest, -1, 0, 1, 2, 3, highest}, []uint64{0, 1, 2, 3, 4, 5, 6, 7, 8, 9, 10, api.MaxCount, 1 << 63, all}
	var short [][]tuples.Tuple
	for long, values := range []int{1, 3, 3, 3, 2} {
		for _, row := range rows(long, values, 4) {
			mustTell(t, row, xs, places)
			mustChange(t, row, xs, places)
			if len(row) < 4 {
				short = append(short, row)
			}
		}
	}
	t.Logf("%d short rows", len(short))
	for i, a := range short {
		for j, b := range short {
			// A good part of them all tells as much.
			if (i+j)%5 == 0 {
				mustMerge(t, a, b)
			}
		}
	}
}

// P18.1: long rows that can be, of few values and of many, of small steps and of great ones.
func TestRandomRows(t *testing.T) {
	source := rand.New(rand.NewSource(182))
	for range 1500 {
		long, values, steps := source.Intn(40), 1+source.Int63n(1<<source.Intn(8)), uint64(1)<<source.Intn(55)
		row, other := random(source, long, values, steps), random(source, source.Intn(40), values, uint64(1)<<source.Intn(55))
		n, ok := tuples.Total(row)
		if !ok || !tuples.Good(row) || !tuples.Good(other) {
			t.Fatalf("%v and %v ought to be", row, other)
		}
		xs, places, limits := []int64{-1, values}, []uint64{0, 1, n, n + 1}, []uint64{0, n}
		for range 10 {
			xs, places, limits = append(xs, source.Int63n(values)), append(places, source.Uint64()%(n+1)), append(limits, source.Uint64()%(steps*4))
		}
		mustTell(t, row, xs, places)
		mustChange(t, row, xs, limits)
		mustMerge(t, row, other)
	}
}

// P18.1: rows of MaxCount values: no number goes round, though there is one value more, or as many again.
func TestFull(t *testing.T) {
	full := [][]tuples.Tuple{
		{{lowest, 1, 0}, {highest, api.MaxCount - 1, 0}},
		{{lowest, 1, 0}, {0, 1, api.MaxCount - 2}, {highest, api.MaxCount - 2, 0}},
		{{lowest, 1, 0}, {0, api.MaxCount - 2, 1}, {highest, 1, 0}},
		{{lowest, 1, 0}, {-1, 1, api.MaxCount - 2}, {1, 1 << 62, 1<<62 - 3}, {highest, 1<<62 - 3, 0}},
		{{0, 1, 0}, {0, 1, api.MaxCount - 2}, {0, 1, api.MaxCount - 3}, {0, api.MaxCount - 3, 0}},
	}
	xs := []int64{lowest, lowest + 1, -1, 0, 1, highest - 1, highest}
	places := []uint64{0, 1, 2, 3, 1<<61 - 1, 1 << 61, 1<<62 - 1, 1 << 62, 1<<62 + 1, api.MaxCount - 2, api.MaxCount - 1, api.MaxCount, 1 << 63, all - 1, all}
	for _, row := range full {
		if !tuples.Good(row) {
			t.Fatalf("%v ought to be", row)
		}
		mustTell(t, row, xs, places)
		mustChange(t, row, xs, places)
		for _, other := range full {
			mustMerge(t, row, other)
		}
	}
}

// P18.1, and the rule that no call panics: rows that can't be, of which nothing else is promised.
func TestWrongRows(t *testing.T) {
	var list []tuples.Tuple
	for _, x := range []int64{lowest, 3, highest} {
		for _, step := range []uint64{0, 2, all} {
			for _, slack := range []uint64{0, 5, all} {
				list = append(list, tuples.Tuple{X: x, Step: step, Slack: slack})
			}
		}
	}
	for i, a := range list {
		for j, b := range list {
			for _, c := range list {
				row := []tuples.Tuple{a, b, c, list[(i+j)%len(list)]}
				for _, n := range []uint64{0, 4, all} {
					tuples.Insert(slices.Clone(row), int64(n))
					tuples.Squeeze(slices.Clone(row), n)
					tuples.Find(row, n)
					tuples.Rank(row, int64(n))
				}
				tuples.Merge(row, row[:2])
				tuples.Merge(row[1:], row)
			}
		}
	}
	for _, u := range []uint64{1<<31 + 1, 1 << 63, all} {
		for _, v := range []uint64{0, 1, all} {
			tuples.Limit(api.Ratio{Num: u, Den: v}, all)
		}
	}
}
