package bins_test

import (
	"maps"
	"math"
	"math/big"
	"math/rand"
	"slices"
	"testing"

	"ogive/api"
	"ogive/bins"
	"ogive/cells"
	"ogive/sign"
	"ogive/spans"
)

const (
	least    = math.MinInt64
	greatest = math.MaxInt64
	count    = api.MaxCount
	limit    = api.MaxCells
)

// often is a value, so often.
type often struct {
	x int64
	n uint64
}

// partition is one whose parts' ends, and closeness, are known, too.
type partition interface {
	bins.Partition
	Range(i int) (uint64, uint64)
	Part() api.Ratio
}

// digits are the spans by so many digits.
func digits(t *testing.T, n int) *spans.Span {
	t.Helper()
	s, err := spans.New(n)
	if err != api.OK {
		t.Fatalf("spans by %d: %d", n, err)
	}
	return s
}

// table is the cells of a closeness.
func table(t *testing.T, num, den uint64) *cells.Table {
	t.Helper()
	c, err := cells.New(api.Ratio{Num: num, Den: den})
	if err != api.OK {
		t.Fatalf("cells of %d / %d: %d", num, den, err)
	}
	return c
}

// partitions are those of which the tests go through all.
func partitions(t *testing.T) []partition {
	t.Helper()
	return []partition{table(t, 1, 2), table(t, 1, 10), table(t, 1, 100), table(t, 999, 1000), digits(t, 1), digits(t, 2), digits(t, 3), digits(t, 4)}
}

// half is all that was put on one side of 0, by parts, lost or not; and how many were loaded as lost ones.
type half struct {
	counts map[int]uint64
	lost   uint64
}

// model is all that bins were given: what is kept, and lost, is told from it alone.
type model struct {
	p    partition
	side bins.Side
	most int
	// Those below 0, and those above it.
	halves [2]half
	zero   uint64
}

// modelOf is a model to which some were added.
func modelOf(p partition, side bins.Side, most int, list ...often) *model {
	m := &model{p: p, side: side, most: most, halves: [2]half{{counts: map[int]uint64{}}, {counts: map[int]uint64{}}}}
	for _, o := range list {
		m.add(o.x, o.n)
	}
	return m
}

// joined is a model of all that two have.
func joined(a, b *model) *model {
	m := modelOf(a.p, a.side, a.most)
	for i := range m.halves {
		for _, o := range []*model{a, b} {
			for part, n := range o.halves[i].counts {
				m.halves[i].counts[part] += n
			}
			m.halves[i].lost += o.halves[i].lost
		}
	}
	m.zero = a.zero + b.zero
	return m
}

// total is how many there are, without a limit.
func (m *model) total() *big.Int {
	sum := new(big.Int).SetUint64(m.zero)
	for _, h := range m.halves {
		sum.Add(sum, new(big.Int).SetUint64(h.lost))
		for _, n := range h.counts {
			sum.Add(sum, new(big.Int).SetUint64(n))
		}
	}
	return sum
}

// part is which half a value lies in, and which part its magnitude.
func (m *model) part(x int64) (int, int) {
	magnitude := new(big.Int).Abs(big.NewInt(x))
	i, ok := m.p.Index(magnitude.Uint64())
	if !ok {
		panic("no part for a magnitude")
	}
	if x < 0 {
		return 0, i
	}
	return 1, i
}

// add answers what Add asks for, and has it.
func (m *model) add(x int64, n uint64) api.Errno {
	if n == 0 {
		return api.ErrArg
	}
	if sum := m.total(); !sum.Add(sum, new(big.Int).SetUint64(n)).IsInt64() {
		return api.ErrFull
	}
	if x == 0 {
		m.zero += n
		return api.OK
	}
	side, i := m.part(x)
	m.halves[side].counts[i] += n
	return api.OK
}

// end is the part of a half from which on the parts are kept; 0, if it has none.
func (m *model) end(h half) int {
	end, any := 0, false
	for i := range h.counts {
		if !any || m.side == bins.Great && i > end || m.side == bins.Small && i < end {
			end, any = i, true
		}
	}
	return end
}

// beyond is how far a part lies behind such an end; below 0, or 0, if it doesn't.
func (m *model) beyond(end, i int) int {
	if m.side == bins.Small {
		return i - end
	}
	return end - i
}

// parts are the row that is kept of a half, and how many are lost.
func (m *model) parts(h half) ([]api.Pair, uint64) {
	end := m.end(h)
	var row []api.Pair
	lost := h.lost
	for _, i := range slices.Sorted(maps.Keys(h.counts)) {
		if m.beyond(end, i) < m.most {
			row = append(row, api.Pair{Index: i, Count: h.counts[i]})
		} else {
			lost += h.counts[i]
		}
	}
	return row, lost
}

// upTo is how many of a half lie up to a part, at least and at most, word by word as layers 9 and 10 tell it.
func (m *model) upTo(h half, part int) (uint64, uint64) {
	if len(h.counts) == 0 {
		return 0, 0
	}
	end := m.end(h)
	kept, lost := uint64(0), h.lost
	for i, n := range h.counts {
		if m.beyond(end, i) >= m.most {
			lost += n
		} else if i <= part {
			kept += n
		}
	}
	if m.side == bins.Great && m.beyond(end, part) > m.most {
		return 0, lost
	}
	if m.side == bins.Great {
		return lost + kept, lost + kept
	}
	if m.beyond(end, part) >= m.most {
		return kept, kept + lost
	}
	return kept, kept
}

// rank is what Rank of a value asks for.
func (m *model) rank(x int64) (uint64, uint64) {
	below := m.sum(m.halves[0])
	if x == 0 {
		return below + m.zero, below + m.zero
	}
	side, i := m.part(x)
	h := m.halves[side]
	ahead, _ := m.upTo(h, i-1)
	_, own := m.upTo(h, i)
	if x < 0 {
		return below - own, below - ahead
	}
	return below + m.zero + ahead, below + m.zero + own
}

// sum is how many there are in a half.
func (m *model) sum(h half) uint64 {
	sum := h.lost
	for _, n := range h.counts {
		sum += n
	}
	return sum
}

// value is what stands for a value of a part.
func (m *model) value(side, i int) int64 {
	rep := new(big.Int).SetUint64(m.p.Rep(i))
	if side == 0 {
		return rep.Neg(rep).Int64()
	}
	if !rep.IsInt64() {
		return greatest
	}
	return rep.Int64()
}

// stands is what stands for a value, and true; 0 and false, if it would be lost.
func (m *model) stands(x int64) (int64, bool) {
	if x == 0 {
		return 0, true
	}
	side, i := m.part(x)
	if m.beyond(m.end(m.halves[side]), i) >= m.most {
		return 0, false
	}
	return m.value(side, i), true
}

// run is so many values in a row of which the same is answered.
type run struct {
	n    uint64
	x    int64
	kept bool
}

// order is all values in order: below 0 the parts of greater magnitudes first, then noughts, then those above 0.
func (m *model) order() []run {
	var list []run
	for side := range m.halves {
		row, lost := m.parts(m.halves[side])
		var half []run
		for _, p := range row {
			half = append(half, run{p.Count, m.value(side, p.Index), true})
		}
		if m.side == bins.Great {
			half = slices.Insert(half, 0, run{lost, 0, false})
		} else {
			half = append(half, run{lost, 0, false})
		}
		if side == 0 {
			slices.Reverse(half)
			half = append(half, run{m.zero, 0, true})
		}
		list = append(list, half...)
	}
	return list
}

// around are values to ask for: the ends, those next to 0, and those around the ends of parts, of what is kept, and of what is lost.
func (m *model) around() []int64 {
	list := []int64{least, least + 1, -2, -1, 0, 1, 2, greatest - 1, greatest}
	for _, h := range m.halves {
		indexes := slices.Sorted(maps.Keys(h.counts))
		// All of a long row would take too long.
		step := 1 + len(indexes)/20
		for at := 0; at < len(indexes); at += step {
			for _, by := range []int{-m.most - 1, -m.most, 1 - m.most, 0, m.most - 1, m.most, m.most + 1} {
				low, high := m.p.Range(indexes[at] + by)
				for _, u := range []uint64{low - 1, low, high, high + 1} {
					// What goes round is a value like others.
					list = append(list, int64(u), -int64(u))
				}
			}
		}
	}
	slices.Sort(list)
	return slices.Compact(list)
}

// value is one of any length, or at one of the ends.
func value(random *rand.Rand) int64 {
	switch random.Intn(8) {
	case 0:
		return []int64{least, least + 1, -1, 0, 1, greatest - 1, greatest}[random.Intn(7)]
	case 1, 2:
		return int64(random.Uint64()) >> random.Intn(64)
	case 3, 4:
		return int64(random.Intn(2001)) - 1000
	}
	return int64(random.Intn(81)) - 40
}

// made is bins without values.
func made(t *testing.T, p bins.Partition, side bins.Side, most int) *bins.Bins {
	t.Helper()
	b, err := bins.New(p, side, most)
	if b == nil || err != api.OK {
		t.Fatalf("New of %d, %d: %v, %d", side, most, b, err)
	}
	return b
}

// mustAdd tells, if some, all of which have room, aren't added.
func mustAdd(t *testing.T, b *bins.Bins, list ...often) {
	t.Helper()
	for _, o := range list {
		if err := b.Add(o.x, o.n); err != api.OK {
			t.Fatalf("Add of %d, %d: %d", o.x, o.n, err)
		}
	}
}

// filled is bins to which some were added, all of which have room.
func filled(t *testing.T, p bins.Partition, side bins.Side, most int, list ...often) *bins.Bins {
	t.Helper()
	b := made(t, p, side, most)
	mustAdd(t, b, list...)
	return b
}

// mustHave tells, if bins haven't these rows, and so many lost, and noughts.
func mustHave(t *testing.T, b *bins.Bins, below, above []api.Pair, lost [2]uint64, zero uint64) {
	t.Helper()
	if got, gotAbove := b.Rows(); !slices.Equal(got, below) || !slices.Equal(gotAbove, above) {
		t.Fatalf("Rows: %v, %v, not %v, %v", got, gotAbove, below, above)
	}
	if got, gotAbove := b.Lost(); got != lost[0] || gotAbove != lost[1] {
		t.Fatalf("Lost: %d, %d, not %v", got, gotAbove, lost)
	}
	if got := b.Zero(); got != zero {
		t.Fatalf("Zero: %d, not %d", got, zero)
	}
}

// mustFind tells, if Find doesn't answer a value, and whether there is one.
func mustFind(t *testing.T, b *bins.Bins, at uint64, x int64, ok bool) {
	t.Helper()
	if got, is := b.Find(at); got != x || is != ok {
		below, above := b.Rows()
		t.Fatalf("Find of %d in %v, %d, %v: %d, %t, not %d, %t", at, below, b.Zero(), above, got, is, x, ok)
	}
}

// mustHold tells, if bins don't answer by every call what all that they were given asks for.
func mustHold(t *testing.T, b *bins.Bins, m *model) {
	t.Helper()
	below, lost := m.parts(m.halves[0])
	above, lostAbove := m.parts(m.halves[1])
	mustHave(t, b, below, above, [2]uint64{lost, lostAbove}, m.zero)
	if b.Most() != m.most {
		t.Fatalf("Most: %d, not %d", b.Most(), m.most)
	}
	var sum uint64
	for _, r := range m.order() {
		if r.n > 0 {
			mustFind(t, b, sum+1, r.x, r.kept)
			mustFind(t, b, sum+(r.n+1)/2, r.x, r.kept)
			mustFind(t, b, sum+r.n, r.x, r.kept)
		}
		sum += r.n
	}
	if got := new(big.Int).SetUint64(b.Total()); got.Cmp(m.total()) != 0 {
		t.Fatalf("Total: %d, not %d", got, m.total())
	}
	for _, at := range []uint64{0, sum + 1, sum + 2, 1 << 63, 1<<63 + 1, math.MaxUint64} {
		mustFind(t, b, at, 0, false)
	}
	for _, x := range m.around() {
		want, wantMost := m.rank(x)
		if got, most := b.Rank(x); got != want || most != wantMost {
			t.Fatalf("Rank of %d in %v, %d, %v, %v: %d, %d, not %d, %d", x, below, m.zero, above, m.halves, got, most, want, wantMost)
		}
	}
}

// mustRefuse tells, if an Add isn't refused with an error, or changes what is there.
func mustRefuse(t *testing.T, b *bins.Bins, m *model, x int64, n uint64, want api.Errno) {
	t.Helper()
	if err := b.Add(x, n); err != want {
		t.Fatalf("Add of %d, %d: %d, not %d", x, n, err, want)
	}
	mustHold(t, b, m)
}

// mustLie tells, if what stands for a value isn't so close to it as a partition tells.
func mustLie(t *testing.T, rep, x int64, a api.Ratio) {
	t.Helper()
	if !sign.Within(rep, x, a) {
		t.Fatalf("%d for %d isn't within %v", rep, x, a)
	}
}
