package strip_test

import (
	"maps"
	"math"
	"math/big"
	"math/rand"
	"slices"
	"testing"

	"ogive/api"
	"ogive/runs"
	"ogive/strip"
)

const (
	most  = math.MaxUint64
	low   = math.MinInt
	high  = math.MaxInt
	count = api.MaxCount
	cells = api.MaxCells
)

// pair is one, told shortly.
func pair(index int, count uint64) api.Pair {
	return api.Pair{Index: index, Count: count}
}

// made is an empty strip with room for so many pairs.
func made(t *testing.T, room int) *strip.Strip {
	t.Helper()
	s, err := strip.New(room)
	if s == nil || err != api.OK {
		t.Fatalf("New of %d: %v, %d", room, s, err)
	}
	return s
}

// mustAdd tells, if one of some pairs, each of which has room, isn't added.
func mustAdd(t *testing.T, s *strip.Strip, list ...api.Pair) {
	t.Helper()
	for _, p := range list {
		if err := s.Add(p.Index, p.Count); err != api.OK {
			t.Fatalf("Add of %v to %v: %d", p, s.Pairs(), err)
		}
	}
}

// filled is a strip with room for so many pairs, to which some were added, each of which has room.
func filled(t *testing.T, room int, list ...api.Pair) *strip.Strip {
	t.Helper()
	s := made(t, room)
	mustAdd(t, s, list...)
	return s
}

// listed is a row of counts by indexes.
func listed(counts map[int]uint64) []api.Pair {
	var row []api.Pair
	for _, index := range slices.Sorted(maps.Keys(counts)) {
		row = append(row, pair(index, counts[index]))
	}
	return row
}

// mustHold tells, if a strip doesn't answer by every call that leaves it as it is what a row, whose indexes rise, asks for.
func mustHold(t *testing.T, s *strip.Strip, row []api.Pair) {
	t.Helper()
	if got := s.Pairs(); !slices.Equal(got, row) || !runs.Good(got, cells) {
		t.Fatalf("Pairs: %v, not %v", got, row)
	}
	if got := s.Len(); got != len(row) {
		t.Fatalf("Len of %v: %d", row, got)
	}
	mustEnd(t, s, row)
	var sum uint64
	for _, p := range row {
		mustFind(t, s, sum+1, p.Index, true)
		mustFind(t, s, sum+(p.Count+1)/2, p.Index, true)
		sum += p.Count
		mustFind(t, s, sum, p.Index, true)
	}
	if got := s.Total(); got != sum {
		t.Fatalf("Total of %v: %d, not %d", row, got, sum)
	}
	for _, t0 := range []uint64{0, sum + 1, 1 << 63, most} {
		mustFind(t, s, t0, 0, false)
	}
	for _, index := range around(row) {
		mustTell(t, s, row, index)
	}
}

// around are indexes to ask a strip of a row for: the row's own, their neighbours, and those at the edges.
func around(row []api.Pair) []int {
	list := []int{low, low + 1, -cells, -1, 0, 1, cells, high - 1, high}
	for _, p := range row {
		list = append(list, p.Index-1, p.Index, p.Index+1)
	}
	return list
}

// mustEnd tells, if Ends doesn't answer those of a row.
func mustEnd(t *testing.T, s *strip.Strip, row []api.Pair) {
	t.Helper()
	var first, last int
	if len(row) != 0 {
		first, last = row[0].Index, row[len(row)-1].Index
	}
	if a, b, ok := s.Ends(); a != first || b != last || ok != (len(row) != 0) {
		t.Fatalf("Ends of %v: %d, %d, %t", row, a, b, ok)
	}
}

// mustFind tells, if Find doesn't answer an index, and whether there is one.
func mustFind(t *testing.T, s *strip.Strip, at uint64, index int, ok bool) {
	t.Helper()
	if got, is := s.Find(at); got != index || is != ok {
		t.Fatalf("Find of %d in %v: %d, %t, not %d, %t", at, s.Pairs(), got, is, index, ok)
	}
}

// mustTell tells, if At and Below of an index aren't what a row has there, and up to there.
func mustTell(t *testing.T, s *strip.Strip, row []api.Pair, index int) {
	t.Helper()
	var there, below uint64
	for _, p := range row {
		if p.Index <= index {
			below += p.Count
		}
		if p.Index == index {
			there = p.Count
		}
	}
	if got := s.At(index); got != there {
		t.Fatalf("At of %d in %v: %d, not %d", index, row, got, there)
	}
	if got := s.Below(index); got != below {
		t.Fatalf("Below of %d in %v: %d, not %d", index, row, got, below)
	}
}

// mustRefuse tells, if an Add isn't refused with an error, or changes what is there.
func mustRefuse(t *testing.T, s *strip.Strip, index int, n uint64, want api.Errno) {
	t.Helper()
	row := s.Pairs()
	if err := s.Add(index, n); err != want {
		t.Fatalf("Add of %d, %d to %v: %d, not %d", index, n, row, err, want)
	}
	mustHold(t, s, row)
}

// mustLeave tells, if First, or Last, doesn't answer the pair at that end of a row; what is left of the row.
func mustLeave(t *testing.T, s *strip.Strip, row []api.Pair, first bool) []api.Pair {
	t.Helper()
	got, ok := leave(s, first)
	if len(row) == 0 {
		if ok || got != (api.Pair{}) {
			t.Fatalf("%t, of nothing: %v, %t", first, got, ok)
		}
		return nil
	}
	want, left := row[0], row[1:]
	if !first {
		want, left = row[len(row)-1], row[:len(row)-1]
	}
	if !ok || got != want {
		t.Fatalf("%t, of %v: %v, %t, not %v", first, row, got, ok, want)
	}
	return left
}

// leave is what First, or Last, answers.
func leave(s *strip.Strip, first bool) (api.Pair, bool) {
	if first {
		return s.First()
	}
	return s.Last()
}

// P8.1: the chapter's example.
func TestExample(t *testing.T) {
	s := filled(t, 1, pair(5, 2))
	mustRefuse(t, s, 3, 1, api.ErrFull)
	mustHold(t, s, []api.Pair{pair(5, 2)})
}

// P8.1: New has room for 1 to MaxCells pairs.
func TestNew(t *testing.T) {
	for _, room := range []int{low, low + 1, -cells, -1, 0, cells + 1, cells + 2, high - 1, high} {
		if s, err := strip.New(room); s != nil || err != api.ErrArg {
			t.Errorf("New of %d: %v, %d", room, s, err)
		}
	}
	for room := 1; room <= cells; room++ {
		if s, err := strip.New(room); s == nil || err != api.OK {
			t.Errorf("New of %d: %v, %d", room, s, err)
		}
	}
}

// P8.1: an empty strip has nothing of any index, and nothing leaves it.
func TestEmpty(t *testing.T) {
	s := made(t, 3)
	mustHold(t, s, nil)
	for _, first := range []bool{true, false, true} {
		mustLeave(t, s, nil, first)
		mustHold(t, s, nil)
	}
	mustAdd(t, s, pair(1, 1), pair(2, 2), pair(3, 3))
	mustHold(t, s, []api.Pair{pair(1, 1), pair(2, 2), pair(3, 3)})
}

// P8.1: a nil strip has nothing, and ErrNil stands ahead of all other errors.
func TestNil(t *testing.T) {
	var s *strip.Strip
	for _, index := range []int{low, -1, 0, 1, high} {
		for _, n := range []uint64{0, 1, count, count + 1, most} {
			if err := s.Add(index, n); err != api.ErrNil {
				t.Errorf("Add of %d, %d: %d", index, n, err)
			}
		}
	}
	mustHold(t, s, nil)
	mustLeave(t, s, nil, true)
	mustLeave(t, s, nil, false)
}

// P8.1: Add of none is ErrArg, whether there is room or not.
func TestAddNone(t *testing.T) {
	for _, s := range []*strip.Strip{
		made(t, 1),
		filled(t, 1, pair(7, 1)),
		filled(t, 1, pair(7, count)),
		filled(t, 3, pair(7, 1), pair(-1, 2)),
	} {
		for _, index := range []int{low, -1, 0, 1, 6, 7, 8, high} {
			mustRefuse(t, s, index, 0, api.ErrArg)
		}
	}
}

// P8.1: an index of which none were added takes no room.
func TestAddNoneRoom(t *testing.T) {
	s := made(t, 1)
	mustRefuse(t, s, 4, 0, api.ErrArg)
	mustAdd(t, s, pair(5, 1))
	mustHold(t, s, []api.Pair{pair(5, 1)})
}

// P8.1: together there are at most MaxCount, of one index and of many.
func TestAddTooMany(t *testing.T) {
	s := made(t, 9)
	for _, n := range []uint64{count + 1, count + 2, most - 1, most} {
		mustRefuse(t, s, low, n, api.ErrFull)
	}
	mustAdd(t, s, pair(5, count))
	mustHold(t, s, []api.Pair{pair(5, count)})
	for _, index := range []int{low, 4, 5, 6, high} {
		for _, n := range []uint64{1, 2, count, count + 1, count + 2, most} {
			mustRefuse(t, s, index, n, api.ErrFull)
		}
	}
	s = filled(t, 3, pair(5, count-3), pair(4, 1))
	for _, index := range []int{4, 5, 9} {
		for _, n := range []uint64{3, 4, count, most - count + 3, most} {
			mustRefuse(t, s, index, n, api.ErrFull)
		}
	}
	mustAdd(t, s, pair(9, 1), pair(4, 1))
	mustHold(t, s, []api.Pair{pair(4, 2), pair(5, count-3), pair(9, 1)})
	for _, index := range []int{4, 5, 9} {
		mustRefuse(t, s, index, 1, api.ErrFull)
	}
}

// P8.1: what left the strip makes room for as many others.
func TestCountRoom(t *testing.T) {
	s := filled(t, 4, pair(1, 10), pair(2, count-30), pair(3, 20))
	mustLeave(t, s, s.Pairs(), true)
	mustRefuse(t, s, 2, 11, api.ErrFull)
	mustAdd(t, s, pair(2, 10))
	mustRefuse(t, s, 2, 1, api.ErrFull)
	mustLeave(t, s, s.Pairs(), false)
	mustRefuse(t, s, 9, 21, api.ErrFull)
	mustAdd(t, s, pair(9, 20))
	mustRefuse(t, s, 9, 1, api.ErrFull)
	mustHold(t, s, []api.Pair{pair(2, count-20), pair(9, 20)})
}

// P8.1: there are at most so many pairs as New was told, wherever they lie; those that are there may yet have more.
func TestAddTooManyPairs(t *testing.T) {
	row := []api.Pair{pair(low, 1), pair(low+1, 2), pair(-1, 3), pair(0, 4), pair(1, 5), pair(high-1, 6), pair(high, 7)}
	for room := 1; room <= len(row); room++ {
		s := filled(t, room, row[:room]...)
		mustHold(t, s, row[:room])
		for _, p := range row[room:] {
			mustRefuse(t, s, p.Index, 1, api.ErrFull)
		}
		mustRefuse(t, s, 77, count, api.ErrFull)
		mustRefuse(t, s, 77, most, api.ErrFull)
		want := slices.Clone(row[:room])
		for i := range want {
			mustAdd(t, s, pair(want[i].Index, 100))
			want[i].Count += 100
			mustHold(t, s, want)
		}
	}
}

// P8.1: a pair that left the strip makes room for another one, at either end, or where it was.
func TestPairRoom(t *testing.T) {
	for _, first := range []bool{true, false} {
		for _, index := range []int{low, 1, 2, 3, 4, 5, 6, 7, high} {
			s := filled(t, 3, pair(2, 1), pair(4, 2), pair(6, 3))
			left := mustLeave(t, s, s.Pairs(), first)
			mustHold(t, s, left)
			mustAdd(t, s, pair(index, 5))
			want := runs.Join(left, []api.Pair{pair(index, 5)})
			mustHold(t, s, want)
			if len(want) == 3 {
				mustRefuse(t, s, 99, 1, api.ErrFull)
			}
		}
	}
}

// P8.1: all ways in which both ends leave a row, till none is left, and one time more.
func TestLeave(t *testing.T) {
	row := []api.Pair{pair(low, 8), pair(-3, 1), pair(0, 4), pair(2, count-100), pair(high, 9)}
	for way := range 1 << (len(row) + 1) {
		s := filled(t, len(row), row[2], row[4], row[0], row[1], row[3])
		left := row
		for i := range len(row) + 1 {
			left = mustLeave(t, s, left, way>>i&1 == 0)
			mustHold(t, s, left)
		}
		mustAdd(t, s, row...)
		mustHold(t, s, row)
	}
}

// P8.1: a strip that is quite full, filled from either side, or by turns, and emptied from either side.
func TestFull(t *testing.T) {
	for _, first := range []int{low, -cells / 2, high - cells + 1} {
		var up, turns []api.Pair
		for i := range cells {
			up = append(up, pair(first+i, uint64(i+1)))
		}
		for i := range cells / 2 {
			turns = append(turns, up[cells/2+i], up[cells/2-1-i])
		}
		down := slices.Clone(up)
		slices.Reverse(down)
		for _, list := range [][]api.Pair{up, down, turns} {
			s := filled(t, cells, list...)
			mustBeFull(t, s, up)
			mustEmpty(t, s, up)
		}
	}
}

// mustBeFull tells, if a strip isn't a row of MaxCells pairs side by side.
func mustBeFull(t *testing.T, s *strip.Strip, row []api.Pair) {
	t.Helper()
	for _, index := range []int{row[0].Index - 1, row[cells-1].Index + 1} {
		if err := s.Add(index, 1); err != api.ErrFull {
			t.Fatalf("Add of %d: %d", index, err)
		}
	}
	if got := s.Pairs(); !slices.Equal(got, row) || s.Len() != cells {
		t.Fatalf("%d: %v", s.Len(), got)
	}
	mustEnd(t, s, row)
	var sum uint64
	for _, p := range row {
		mustFind(t, s, sum+1, p.Index, true)
		sum += p.Count
		mustFind(t, s, sum, p.Index, true)
		if at, below := s.At(p.Index), s.Below(p.Index); at != p.Count || below != sum {
			t.Fatalf("%d: %d, %d, not %d, %d", p.Index, at, below, p.Count, sum)
		}
	}
	mustFind(t, s, sum+1, 0, false)
	if s.Total() != sum {
		t.Fatalf("Total: %d, not %d", s.Total(), sum)
	}
}

// mustEmpty tells, if the pairs of a row, which a strip has, don't leave it from both ends by turns.
func mustEmpty(t *testing.T, s *strip.Strip, row []api.Pair) {
	t.Helper()
	left := row
	for i := range row {
		left = mustLeave(t, s, left, i%2 == 0)
		mustEnd(t, s, left)
		sum, _ := runs.Total(left)
		if s.Total() != sum || s.Len() != len(left) {
			t.Fatalf("%d, %d, not %d, %d", s.Total(), s.Len(), sum, len(left))
		}
	}
	mustHold(t, s, nil)
}

// model is what a strip has, by a map, and without a limit.
type model struct {
	room   int
	counts map[int]uint64
}

// total is how many there are.
func (m model) total() *big.Int {
	sum := new(big.Int)
	for _, n := range m.counts {
		sum.Add(sum, new(big.Int).SetUint64(n))
	}
	return sum
}

// add answers what Add asks for, and has it.
func (m model) add(index int, n uint64) api.Errno {
	if n == 0 {
		return api.ErrArg
	}
	sum := m.total()
	if !sum.Add(sum, new(big.Int).SetUint64(n)).IsInt64() {
		return api.ErrFull
	}
	if m.counts[index] == 0 && len(m.counts) == m.room {
		return api.ErrFull
	}
	m.counts[index] += n
	return api.OK
}

// P8.1: many calls in every order, against a map, with every call asked on the way.
func TestMany(t *testing.T) {
	random := rand.New(rand.NewSource(8))
	errs := map[api.Errno]int{}
	gone := 0
	for range 500 {
		m := model{1 + random.Intn(12), map[int]uint64{}}
		s := made(t, m.room)
		near, shift := random.Intn(62), random.Intn(64)
		for range 1 + random.Intn(80) {
			if random.Intn(6) == 0 {
				left := mustLeave(t, s, listed(m.counts), random.Intn(2) == 0)
				gone += len(m.counts) - len(left)
				m.counts = counted(left)
				mustHold(t, s, left)
				continue
			}
			index, n := int(random.Uint64())>>near, random.Uint64()>>shift
			if random.Intn(20) == 0 {
				index = []int{low, low + 1, -1, 0, high - 1, high}[random.Intn(6)]
			}
			if len(m.counts) > 0 && random.Intn(2) == 0 {
				index = listed(m.counts)[random.Intn(len(m.counts))].Index
			}
			if random.Intn(20) == 0 {
				n = 0
			}
			want := m.add(index, n)
			errs[want]++
			if err := s.Add(index, n); err != want {
				t.Fatalf("Add of %d, %d to %v: %d, not %d", index, n, s.Pairs(), err, want)
			}
			mustHold(t, s, listed(m.counts))
		}
	}
	if errs[api.OK] < 1000 || errs[api.ErrArg] < 100 || errs[api.ErrFull] < 500 || gone < 500 {
		t.Errorf("too few of a kind: %v, %d", errs, gone)
	}
}

// counted are a row's counts by indexes.
func counted(row []api.Pair) map[int]uint64 {
	counts := map[int]uint64{}
	for _, p := range row {
		counts[p.Index] = p.Count
	}
	return counts
}

// P8.1: Find, of each one there is; Below counts just those that it finds up to an index.
func TestFindEach(t *testing.T) {
	s := filled(t, 4, pair(4, 3), pair(-2, 1), pair(9, 5), pair(4, 1), pair(0, 2))
	want := []int{-2, 0, 0, 4, 4, 4, 4, 9, 9, 9, 9, 9}
	for i, index := range want {
		mustFind(t, s, uint64(i+1), index, true)
	}
	mustFind(t, s, uint64(len(want)+1), 0, false)
	for index := -5; index < 15; index++ {
		below := 0
		for _, i := range want {
			if i <= index {
				below++
			}
		}
		if got := s.Below(index); got != uint64(below) {
			t.Errorf("Below of %d: %d, not %d", index, got, below)
		}
	}
}

// P8.1: rows are new memory, each time: what is written into one, or behind it, is seen nowhere.
func TestPairsNew(t *testing.T) {
	row := []api.Pair{pair(1, 2), pair(2, 3), pair(6, 4), pair(8, 5)}
	s := filled(t, 9, row...)
	a, b := s.Pairs(), s.Pairs()
	for i := range a {
		a[i] = pair(9, 9)
	}
	_ = append(a, pair(77, 78))
	if !slices.Equal(b, row) {
		t.Errorf("another row: %v", b)
	}
	mustHold(t, s, row)
	mustAdd(t, s, pair(1, 5), pair(7, 1), pair(8, 1))
	mustLeave(t, s, s.Pairs(), true)
	mustLeave(t, s, s.Pairs(), false)
	mustAdd(t, s, pair(2, 5), pair(9, 5))
	if !slices.Equal(b, row) {
		t.Errorf("a row of before: %v", b)
	}
	// What left stood where there is room by now: nothing that is written there is seen.
	c := s.Pairs()
	_ = append(c, pair(77, 78))
	mustHold(t, s, []api.Pair{pair(2, 8), pair(6, 4), pair(7, 1), pair(9, 5)})
}

// P8.1: two strips know nothing of one another.
func TestTwo(t *testing.T) {
	a, b := made(t, 50), made(t, 50)
	for i := range 50 {
		mustAdd(t, a, pair(i, 1))
		mustAdd(t, b, pair(1000-i, 2))
	}
	mustLeave(t, b, b.Pairs(), true)
	if a.Total() != 50 || b.Total() != 98 || a.At(1000) != 0 || b.At(0) != 0 || a.Below(high) != 50 || b.Below(high) != 98 {
		t.Errorf("%v, %v", a.Pairs(), b.Pairs())
	}
}

// P8.1: some orders of many that have room; the counts of one index may come in parts.
func TestOrder(t *testing.T) {
	random := rand.New(rand.NewSource(9))
	for range 100 {
		first, width := int(random.Uint64())>>1-cells, 1+random.Intn(cells)
		var list []api.Pair
		for range 1 + random.Intn(60) {
			list = append(list, pair(first+random.Intn(width), 1+random.Uint64()>>8))
		}
		var want []api.Pair
		for _, p := range list {
			want = runs.Join(want, []api.Pair{p})
		}
		for range 4 {
			random.Shuffle(len(list), func(i, j int) { list[i], list[j] = list[j], list[i] })
			mustHold(t, filled(t, len(want), list...), want)
		}
	}
}
