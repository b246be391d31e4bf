package runs_test

import (
	"encoding/binary"
	"maps"
	"math"
	"math/big"
	"math/rand"
	"slices"
	"strings"
	"testing"

	"ogive/api"
	"ogive/quill"
	"ogive/runs"
)

const (
	most  = math.MaxUint64
	low   = math.MinInt
	high  = math.MaxInt
	count = api.MaxCount
)

// pair is one, told shortly.
func pair(index int, count uint64) api.Pair {
	return api.Pair{Index: index, Count: count}
}

// edges are rows that can be, at the edges of indexes, counts and lengths.
func edges() [][]api.Pair {
	return [][]api.Pair{
		nil,
		{},
		{pair(0, 1)},
		{pair(0, count)},
		{pair(-1, 5), pair(3, 1)},
		{pair(low, 1)},
		{pair(high, 1)},
		{pair(low, count), pair(high, count)},
		{pair(low, 1), pair(low+1, 2), pair(-1, 3), pair(0, 4), pair(1, 5), pair(high-1, 6), pair(high, 7)},
		{pair(low, 1), pair(0, 2)},
		{pair(-1, 1), pair(high, 2)},
		{pair(0, 127), pair(1, 128), pair(129, 129), pair(258, 1<<14)},
	}
}

// some is a row that can be, of indexes that are near to one another, or far, the same in every run.
func some(random *rand.Rand, size int) []api.Pair {
	shift := random.Intn(64)
	row := map[int]uint64{}
	for range size {
		row[int(random.Uint64())>>shift] = 1 + random.Uint64()>>(1+random.Intn(62))
	}
	return listed(row)
}

// listed is a row of counts by indexes.
func listed(counts map[int]uint64) []api.Pair {
	var row []api.Pair
	for _, index := range slices.Sorted(maps.Keys(counts)) {
		row = append(row, pair(index, counts[index]))
	}
	return row
}

// rows are the edges, and others of many lengths.
func rows() [][]api.Pair {
	list := edges()
	random := rand.New(rand.NewSource(6))
	for size := range 60 {
		list = append(list, some(random, size), some(random, size))
	}
	return append(list, some(random, 5000))
}

// same tells whether two rows have the same pairs; nil and empty are the same.
func same(a, b []api.Pair) bool {
	return slices.Equal(a, b)
}

// roomy is a copy of a row, with room behind it that has something.
func roomy(row []api.Pair) []api.Pair {
	list := append(slices.Clone(row), pair(77, 78), pair(79, 80), pair(81, 82))
	return list[:len(row)]
}

// mustBe tells, if a copy made by roomy isn't as its row is, or the room behind it was written into.
func mustBe(t *testing.T, name string, list, row []api.Pair) {
	t.Helper()
	if !same(list, row) {
		t.Fatalf("%s: %v became %v", name, row, list)
	}
	mustKeepRoom(t, name, list)
}

// mustKeepRoom tells, if the room behind a copy made by roomy was written into.
func mustKeepRoom(t *testing.T, name string, list []api.Pair) {
	t.Helper()
	if !same(list[len(list):len(list)+3], []api.Pair{pair(77, 78), pair(79, 80), pair(81, 82)}) {
		t.Fatalf("%s: the room behind was written into: %v", name, list[:len(list)+3])
	}
}

// plain is a number's bytes, by the library.
func plain(n uint64) string {
	return string(binary.AppendUvarint(nil, n))
}

// written is a row's bytes, by the library.
func written(row []api.Pair) string {
	s := plain(uint64(len(row)))
	for i, p := range row {
		if i == 0 {
			s += string(binary.AppendVarint(nil, int64(p.Index)))
		} else {
			behind := new(big.Int).Sub(big.NewInt(int64(p.Index)), big.NewInt(int64(row[i-1].Index)))
			s += plain(behind.Sub(behind, big.NewInt(1)).Uint64())
		}
		s += plain(p.Count)
	}
	return s
}

// number is the one at the beginning of a text, and what is behind it; by the library, which also reads longer ones.
func number(s string) (uint64, string, bool) {
	n, size := binary.Uvarint([]byte(s))
	if size <= 0 || plain(n) != s[:size] {
		return 0, "", false
	}
	return n, s[size:], true
}

// read is the row at the beginning of a text, and what is behind it; indexes are told without a limit.
func read(s string, most int) ([]api.Pair, string, bool) {
	size, s, ok := number(s)
	if !ok || most < 0 || size > uint64(most) {
		return nil, "", false
	}
	var row []api.Pair
	at := new(big.Int)
	for i := uint64(0); i < size; i++ {
		step, behind, fine := number(s)
		if !fine {
			return nil, "", false
		}
		if i == 0 {
			first, _ := binary.Varint([]byte(s))
			at.SetInt64(first)
		} else {
			at.Add(at, new(big.Int).SetUint64(step)).Add(at, big.NewInt(1))
		}
		n, rest, fine := number(behind)
		if !fine || n == 0 || n > 1<<63-1 || !at.IsInt64() {
			return nil, "", false
		}
		row = append(row, pair(int(at.Int64()), n))
		s = rest
	}
	return row, s, true
}

// put is what one row is written as.
func put(row []api.Pair) string {
	var q quill.Quill
	runs.Put(&q, row)
	return q.Text()
}

// mustGet tells, if an eye on a text doesn't get a row, or hasn't so many bytes left then.
func mustGet(t *testing.T, s string, most int, row []api.Pair, left int) {
	t.Helper()
	e := quill.On(s)
	if got := runs.Get(e, most); !same(got, row) || e.Bad() || e.Left() != left {
		t.Fatalf("% x, most %d: %v, bad %t, left %d, not %v, left %d", s, most, got, e.Bad(), e.Left(), row, left)
	}
}

// mustRefuse tells, if an eye on a text gets anything, or isn't bad then.
func mustRefuse(t *testing.T, s string, most int) {
	t.Helper()
	e := quill.On(s)
	if got := runs.Get(e, most); len(got) != 0 || !e.Bad() || e.Left() != 0 || e.Over() {
		t.Fatalf("% x, most %d: %v, bad %t, left %d", s, most, got, e.Bad(), e.Left())
	}
}

// P6.1: Good, of rows that can be, with just enough pairs let, one fewer, and others.
func TestGood(t *testing.T) {
	for _, row := range rows() {
		for _, c := range []int{low, -1, 0, len(row) - 1, len(row), len(row) + 1, high} {
			if ok := runs.Good(row, c); ok != (c >= len(row)) {
				t.Errorf("Good of %d pairs, most %d: %t", len(row), c, ok)
			}
		}
	}
}

// P6.1: Good, of rows that can't be, by name.
func TestGoodWrong(t *testing.T) {
	wrong := [][]api.Pair{
		{pair(0, 0)},
		{pair(0, count+1)},
		{pair(0, most)},
		{pair(1, 1), pair(1, 1)},
		{pair(1, 1), pair(0, 1)},
		{pair(low, 1), pair(low, 1)},
		{pair(high, 1), pair(high, 1)},
		{pair(high, 1), pair(low, 1)},
		{pair(0, 1), pair(low, 1)},
		{pair(1, 1), pair(2, 1), pair(2, 1)},
		{pair(1, 1), pair(3, 1), pair(2, 1)},
		{pair(2, 1), pair(1, 1), pair(3, 1)},
		{pair(1, 0), pair(2, 1), pair(3, 1)},
		{pair(1, 1), pair(2, 0), pair(3, 1)},
		{pair(1, 1), pair(2, 1), pair(3, 0)},
		{pair(1, count+1), pair(2, 1)},
		{pair(1, 1), pair(2, count+1)},
	}
	for _, row := range wrong {
		for _, c := range []int{-1, 0, 1, len(row), 100, high} {
			if runs.Good(row, c) {
				t.Errorf("%v can be, most %d", row, c)
			}
		}
	}
}

// P6.1: Good, of rows that can be with one thing changed, at each place.
func TestGoodChanged(t *testing.T) {
	for _, row := range rows() {
		for i := range min(len(row), 60) {
			for _, c := range []uint64{0, count + 1, count + 2, most} {
				list := slices.Clone(row)
				list[i].Count = c
				if runs.Good(list, high) {
					t.Fatalf("%v can be", list)
				}
			}
			for _, c := range []uint64{1, 2, count - 1, count} {
				list := slices.Clone(row)
				list[i].Count = c
				if !runs.Good(list, len(list)) {
					t.Fatalf("%v can't be", list)
				}
			}
			if i > 0 {
				list := slices.Clone(row)
				list[i].Index = list[i-1].Index
				if runs.Good(list, high) {
					t.Fatalf("%v can be", list)
				}
				list[i-1], list[i] = row[i], row[i-1]
				if runs.Good(list, high) {
					t.Fatalf("%v can be", list)
				}
			}
		}
	}
}

// P6.1: Total, at its edges by name, of rows that can't be, too.
func TestTotal(t *testing.T) {
	cases := []struct {
		row []api.Pair
		sum uint64
		ok  bool
	}{
		{nil, 0, true},
		{[]api.Pair{}, 0, true},
		{[]api.Pair{pair(7, 3)}, 3, true},
		{[]api.Pair{pair(7, 0)}, 0, true},
		{[]api.Pair{pair(7, count)}, count, true},
		{[]api.Pair{pair(7, count+1)}, 0, false},
		{[]api.Pair{pair(7, most)}, 0, false},
		{[]api.Pair{pair(1, count-1), pair(2, 1)}, count, true},
		{[]api.Pair{pair(1, count), pair(2, 1)}, 0, false},
		{[]api.Pair{pair(1, 1), pair(2, count)}, 0, false},
		{[]api.Pair{pair(1, count), pair(2, count)}, 0, false},
		{[]api.Pair{pair(1, count), pair(2, count), pair(3, 2)}, 0, false},
		{[]api.Pair{pair(1, count), pair(2, count), pair(3, 7)}, 0, false},
		{[]api.Pair{pair(1, 5), pair(2, most)}, 0, false},
		{[]api.Pair{pair(1, most), pair(2, 1)}, 0, false},
		{[]api.Pair{pair(1, count), pair(2, 0)}, count, true},
		{[]api.Pair{pair(9, 1), pair(3, 2), pair(3, 4), pair(low, 8)}, 15, true},
	}
	for _, c := range cases {
		if sum, ok := runs.Total(c.row); sum != c.sum || ok != c.ok {
			t.Errorf("Total of %v: %d, %t, not %d, %t", c.row, sum, ok, c.sum, c.ok)
		}
	}
}

// P6.1: Total, of many rows, against numbers without a limit.
func TestTotalMany(t *testing.T) {
	above := 0
	for _, row := range rows() {
		sum := new(big.Int)
		for _, p := range row {
			sum.Add(sum, new(big.Int).SetUint64(p.Count))
		}
		want := uint64(0)
		if sum.IsInt64() {
			want = sum.Uint64()
		} else {
			above++
		}
		if got, ok := runs.Total(row); got != want || ok != sum.IsInt64() {
			t.Fatalf("Total of %v: %d, %t, not %d", row, got, ok, want)
		}
	}
	if above == 0 {
		t.Error("none was above")
	}
}

// P6.1: Find, of each index of a row, its neighbours, and both ends.
func TestFind(t *testing.T) {
	for _, row := range rows() {
		list := []int{low, low + 1, -1, 0, 1, high - 1, high}
		for _, p := range row[:min(len(row), 300)] {
			list = append(list, p.Index-1, p.Index, p.Index+1)
		}
		for _, index := range list {
			want := 0
			for want < len(row) && row[want].Index < index {
				want++
			}
			there := want < len(row) && row[want].Index == index
			if at, ok := runs.Find(row, index); at != want || ok != there {
				t.Fatalf("Find of %d in %v: %d, %t, not %d, %t", index, row, at, ok, want, there)
			}
		}
	}
}

// P6.1: Add, by name.
func TestAdd(t *testing.T) {
	cases := []struct {
		row   []api.Pair
		index int
		count uint64
		want  []api.Pair
	}{
		{nil, 5, 2, []api.Pair{pair(5, 2)}},
		{nil, 5, 0, nil},
		{nil, low, count, []api.Pair{pair(low, count)}},
		{[]api.Pair{pair(5, 2)}, 5, 0, []api.Pair{pair(5, 2)}},
		{[]api.Pair{pair(5, 2)}, 4, 0, []api.Pair{pair(5, 2)}},
		{[]api.Pair{pair(5, 2)}, 5, 1, []api.Pair{pair(5, 3)}},
		{[]api.Pair{pair(5, 2)}, 4, 1, []api.Pair{pair(4, 1), pair(5, 2)}},
		{[]api.Pair{pair(5, 2)}, 6, 1, []api.Pair{pair(5, 2), pair(6, 1)}},
		{[]api.Pair{pair(5, 2), pair(7, 3)}, 6, 1, []api.Pair{pair(5, 2), pair(6, 1), pair(7, 3)}},
		{[]api.Pair{pair(5, 2), pair(7, 3)}, low, 1, []api.Pair{pair(low, 1), pair(5, 2), pair(7, 3)}},
		{[]api.Pair{pair(5, 2), pair(7, 3)}, high, 1, []api.Pair{pair(5, 2), pair(7, 3), pair(high, 1)}},
		{[]api.Pair{pair(0, 1), pair(1, count)}, 1, 1, []api.Pair{pair(0, 1), pair(1, count+1)}},
		{[]api.Pair{pair(0, 1), pair(1, 2)}, 1, most, []api.Pair{pair(0, 1), pair(1, 1)}},
		{[]api.Pair{pair(0, 1), pair(1, 2)}, 1, most - 1, []api.Pair{pair(0, 1), pair(1, 0)}},
	}
	for _, c := range cases {
		was := slices.Clone(c.row)
		if got := runs.Add(c.row, c.index, c.count); !same(got, c.want) {
			t.Errorf("Add of %d, %d to %v: %v, not %v", c.index, c.count, was, got, c.want)
		}
	}
}

// P6.1: Add, of many, one behind the other, is what counts by indexes are; what stands behind a row isn't written into.
func TestAddMany(t *testing.T) {
	random := rand.New(rand.NewSource(7))
	for _, width := range []int{1, 2, 5, 40, 1000} {
		var row []api.Pair
		counts := map[int]uint64{}
		for range 400 {
			index, n := random.Intn(width)-width/2, uint64(random.Intn(5))
			if n > 0 {
				counts[index] += n
			}
			list := roomy(row)
			row = runs.Add(list, index, n)
			mustKeepRoom(t, "Add", list)
			if want := listed(counts); !same(row, want) {
				t.Fatalf("Add of %d, %d: %v, not %v", index, n, row, want)
			}
		}
		if !runs.Good(row, width) {
			t.Fatalf("%v can't be", row)
		}
	}
}

// P6.1: Add, to rows of all kinds, at each place.
func TestAddPlaces(t *testing.T) {
	for _, row := range rows() {
		counts := map[int]uint64{}
		for _, p := range row {
			counts[p.Index] = p.Count
		}
		list := []int{low, -1, 0, 1, high}
		for _, p := range row[:min(len(row), 30)] {
			list = append(list, p.Index-1, p.Index, p.Index+1)
		}
		for _, index := range list {
			was := counts[index]
			counts[index] += 3
			if got, want := runs.Add(slices.Clone(row), index, 3), listed(counts); !same(got, want) {
				t.Fatalf("Add of %d to %v: %v", index, row, got)
			}
			counts[index] = was
			if was == 0 {
				delete(counts, index)
			}
		}
	}
}

// joined is what rows joined are, by a map.
func joined(list [][]api.Pair) []api.Pair {
	counts := map[int]uint64{}
	for _, row := range list {
		for _, p := range row {
			counts[p.Index] += p.Count
		}
	}
	return listed(counts)
}

// mustJoin tells, if Join doesn't answer what rows joined are, or changes one of these.
func mustJoin(t *testing.T, list ...[]api.Pair) {
	t.Helper()
	var copies [][]api.Pair
	for _, row := range list {
		copies = append(copies, roomy(row))
	}
	got, want := runs.Join(copies...), joined(list)
	if !same(got, want) {
		t.Fatalf("Join of %v: %v, not %v", list, got, want)
	}
	// An answer is new memory, so what is written into it is seen in none of the rows.
	for i := range got {
		got[i] = pair(1000+i, 9)
	}
	for i, row := range list {
		mustBe(t, "Join", copies[i], row)
	}
}

// P6.1: Join, by name.
func TestJoinKnown(t *testing.T) {
	cases := []struct {
		list [][]api.Pair
		want []api.Pair
	}{
		{nil, nil},
		{[][]api.Pair{nil}, nil},
		{[][]api.Pair{nil, {}, nil}, nil},
		{[][]api.Pair{{pair(3, 4)}}, []api.Pair{pair(3, 4)}},
		{[][]api.Pair{{pair(3, 4)}, {pair(3, 4)}}, []api.Pair{pair(3, 8)}},
		{[][]api.Pair{{pair(3, 4)}, {pair(2, 1)}}, []api.Pair{pair(2, 1), pair(3, 4)}},
		{[][]api.Pair{{pair(high, 1)}, {pair(low, 2)}, {pair(0, 3)}}, []api.Pair{pair(low, 2), pair(0, 3), pair(high, 1)}},
		{[][]api.Pair{{pair(1, 1), pair(3, 3)}, {pair(2, 2), pair(4, 4)}, {pair(3, 1), pair(4, 1)}}, []api.Pair{pair(1, 1), pair(2, 2), pair(3, 4), pair(4, 5)}},
		{[][]api.Pair{{pair(1, count)}, {pair(1, 1)}}, []api.Pair{pair(1, count+1)}},
		{[][]api.Pair{{pair(1, count)}, {pair(1, count)}, {pair(1, 1)}}, []api.Pair{pair(1, most)}},
		{[][]api.Pair{{pair(1, count)}, {pair(1, count)}, {pair(1, 2)}}, []api.Pair{pair(1, 0)}},
		{[][]api.Pair{{pair(1, count)}, {pair(1, count)}, {pair(1, 5)}}, []api.Pair{pair(1, 3)}},
	}
	for _, c := range cases {
		if got := runs.Join(c.list...); !same(got, c.want) {
			t.Errorf("Join of %v: %v, not %v", c.list, got, c.want)
		}
	}
}

// P6.1: Join, of no, one, two and many rows; what is handed in stays, and isn't the answer.
func TestJoin(t *testing.T) {
	mustJoin(t)
	list := rows()
	for _, a := range list {
		mustJoin(t, a)
		mustJoin(t, a, a)
		mustJoin(t, nil, a, nil)
	}
	for _, a := range edges() {
		for _, b := range edges() {
			mustJoin(t, a, b)
		}
	}
	random := rand.New(rand.NewSource(8))
	for range 300 {
		var some [][]api.Pair
		for range 2 + random.Intn(6) {
			some = append(some, list[random.Intn(len(list)-1)])
		}
		mustJoin(t, some...)
	}
	mustJoin(t, list...)
}

// P6.2: the order in which rows are joined plays no part, nor do the steps in which they are.
func TestJoinOrder(t *testing.T) {
	random := rand.New(rand.NewSource(9))
	for range 300 {
		var list [][]api.Pair
		for range 1 + random.Intn(6) {
			// Small counts, so that no step's row has one above the greatest one.
			counts := map[int]uint64{}
			for range random.Intn(30) {
				counts[random.Intn(50)-25] = 1 + random.Uint64()>>8
			}
			list = append(list, listed(counts))
		}
		want := runs.Join(list...)
		random.Shuffle(len(list), func(i, j int) { list[i], list[j] = list[j], list[i] })
		if got := runs.Join(list...); !same(got, want) {
			t.Fatalf("%v joined: %v, not %v", list, got, want)
		}
		cut := random.Intn(len(list) + 1)
		if got := runs.Join(runs.Join(list[:cut]...), runs.Join(list[cut:]...)); !same(got, want) {
			t.Fatalf("%v joined in steps: %v, not %v", list, got, want)
		}
		var one []api.Pair
		for _, row := range list {
			one = runs.Join(row, one)
		}
		if !same(one, want) {
			t.Fatalf("%v joined one by one: %v, not %v", list, one, want)
		}
	}
}

// P6.1: a row's bytes, at the example and at the edges by name; they are got again.
func TestPutBytes(t *testing.T) {
	cases := []struct {
		row []api.Pair
		s   string
	}{
		{[]api.Pair{pair(-1, 5), pair(3, 1)}, "\x02\x01\x05\x03\x01"},
		{nil, "\x00"},
		{[]api.Pair{pair(0, 1)}, "\x01\x00\x01"},
		{[]api.Pair{pair(-1, 127)}, "\x01\x01\x7f"},
		{[]api.Pair{pair(1, 128)}, "\x01\x02\x80\x01"},
		{[]api.Pair{pair(64, 300)}, "\x01\x80\x01\xac\x02"},
		{[]api.Pair{pair(0, 1), pair(1, 1)}, "\x02\x00\x01\x00\x01"},
		{[]api.Pair{pair(0, 1), pair(128, 1), pair(257, 2)}, "\x03\x00\x01\x7f\x01\x80\x01\x02"},
		{[]api.Pair{pair(low, count)}, "\x01" + strings.Repeat("\xff", 9) + "\x01" + strings.Repeat("\xff", 8) + "\x7f"},
		{[]api.Pair{pair(high, 1)}, "\x01\xfe" + strings.Repeat("\xff", 8) + "\x01\x01"},
		{[]api.Pair{pair(low, 1), pair(high, 1)}, "\x02" + strings.Repeat("\xff", 9) + "\x01\x01\xfe" + strings.Repeat("\xff", 8) + "\x01\x01"},
		{[]api.Pair{pair(-1, 1), pair(high, 1)}, "\x02\x01\x01" + strings.Repeat("\xff", 8) + "\x7f\x01"},
	}
	for _, c := range cases {
		if s := put(c.row); s != c.s {
			t.Errorf("%v: % x, not % x", c.row, s, c.s)
		}
		mustGet(t, c.s, len(c.row), c.row, 0)
	}
}

// P6.1 and P6.2: rows are put, and got again, one behind the other; they stay as they were.
func TestPutGet(t *testing.T) {
	var q quill.Quill
	all := ""
	for _, row := range rows() {
		s := put(row)
		if want := written(row); s != want {
			t.Fatalf("%v: % x, not % x", row, s, want)
		}
		mustGet(t, s, len(row), row, 0)
		mustGet(t, s, high, row, 0)
		mustGet(t, s+"\x00\x80", len(row), row, 2)
		mustRefuse(t, s, len(row)-1)
		mustRefuse(t, s, low)
		list := roomy(row)
		runs.Put(&q, list)
		mustBe(t, "Put", list, row)
		all += s
	}
	if q.Text() != all {
		t.Fatal("rows aren't put one behind the other")
	}
	e := quill.On(all)
	for _, row := range rows() {
		if got := runs.Get(e, 5000); !same(got, row) || e.Bad() {
			t.Fatalf("%v, not %v, bad %t", got, row, e.Bad())
		}
	}
	if !e.Over() {
		t.Errorf("%d bytes are left", e.Left())
	}
}

// P6.1: what is got is new, each time.
func TestGetNew(t *testing.T) {
	s := put([]api.Pair{pair(1, 2), pair(3, 4)})
	a := runs.Get(quill.On(s), 2)
	a[0], a[1] = pair(9, 9), pair(9, 9)
	mustGet(t, s, 2, []api.Pair{pair(1, 2), pair(3, 4)}, 0)
}

// P6.1: what is cut isn't got.
func TestGetCut(t *testing.T) {
	for _, row := range rows() {
		s := put(row)
		for at := range min(len(s), 500) {
			mustRefuse(t, s[:at], len(row))
			mustRefuse(t, s[:at], high)
		}
	}
}

// P6.1: texts that tell no row that can be, by name.
func TestGetWrong(t *testing.T) {
	far := "\xff\xff\xff\xff\xff\xff\xff\xff\xff\x01"
	wrong := []string{
		"", "\x80", "\x80\x00", "\x81\x00\x00\x01", "\x01", "\x01\x00", "\x01\x80", "\x01\x80\x00\x01", "\x01\x00\x81\x00",
		"\x01\x00\x00", "\x02\x00\x00\x00\x01", "\x02\x00\x01\x00\x00",
		"\x01\x00\x80\x80\x80\x80\x80\x80\x80\x80\x80\x01", "\x01\x00" + far,
		"\x02\x00\x01\x00\x80\x80\x80\x80\x80\x80\x80\x80\x80\x01", "\x02\x00\x01\x00" + far,
		"\x02\x00\x01", "\x02\x00\x01\x00", "\x02\x00\x01\x80\x00\x01", "\x02\x00\x01\x00\x80",
		"\x01\xff\xff\xff\xff\xff\xff\xff\xff\xff\x02\x01",
		// The greatest index, and then any other one.
		"\x02\xfe\xff\xff\xff\xff\xff\xff\xff\xff\x01\x01\x00\x01",
		"\x02\xfe\xff\xff\xff\xff\xff\xff\xff\xff\x01\x01" + far + "\x01",
		// One further than the greatest index, from 0, from the least one, and from the one below the greatest.
		"\x02\x00\x01\xff\xff\xff\xff\xff\xff\xff\xff\x7f\x01",
		"\x02" + far + "\x01" + far + "\x01",
		"\x02\xfc\xff\xff\xff\xff\xff\xff\xff\xff\x01\x01\x01\x01",
		// As far as all goes round: to the same index, and to the one ahead.
		"\x02\x00\x01" + far + "\x01",
		"\x02\x00\x01\xfe\xff\xff\xff\xff\xff\xff\xff\xff\x01\x01",
		// Many that are told, few that there are.
		far, "\xff\xff\xff\xff\xff\xff\xff\xff\x7f", "\xff\xff\xff\xff\xff\xff\xff\xff\x7f\x00\x01\x00\x01", "\x80\x80\x80\x80\x10\x00\x01",
	}
	for _, s := range wrong {
		for _, most := range []int{low, -1, 0, 1, 2, 1 << 40, high} {
			mustRefuse(t, s, most)
		}
	}
	// Their neighbours, that can be.
	mustGet(t, "\x02\x00\x01\xfe\xff\xff\xff\xff\xff\xff\xff\x7f\x01", 2, []api.Pair{pair(0, 1), pair(high, 1)}, 0)
	mustGet(t, "\x02\xfc\xff\xff\xff\xff\xff\xff\xff\xff\x01\x01\x00\x01", 2, []api.Pair{pair(high-1, 1), pair(high, 1)}, 0)
	mustGet(t, "\x01\x00\xff\xff\xff\xff\xff\xff\xff\xff\x7f", 1, []api.Pair{pair(0, count)}, 0)
}

// P6.1: an empty row is one of at most no pairs, and no row has fewer.
func TestGetMost(t *testing.T) {
	mustGet(t, "\x00", 0, nil, 0)
	mustGet(t, "\x00\x05", 0, nil, 1)
	mustRefuse(t, "\x00", -1)
	mustRefuse(t, "\x00", low)
	mustRefuse(t, "\x01\x00\x01", 0)
	mustRefuse(t, "\x01\x00\x01", -1)
	mustGet(t, "\x01\x00\x01", 1, []api.Pair{pair(0, 1)}, 0)
}

// P6.1: a bad eye, and a nil one, tell no row; a nil quill is written nothing into.
func TestBadEye(t *testing.T) {
	e := quill.On("\x00\x00\x01\x00\x01")
	e.Shut()
	if row := runs.Get(e, 5); len(row) != 0 || !e.Bad() {
		t.Errorf("a bad eye: %v", row)
	}
	if row := runs.Get(nil, 5); len(row) != 0 {
		t.Errorf("a nil eye: %v", row)
	}
	e = quill.On("\x01\x00\x00" + "\x00")
	if row := runs.Get(e, 5); len(row) != 0 || !e.Bad() {
		t.Errorf("no count: %v", row)
	}
	if row := runs.Get(e, 5); len(row) != 0 || !e.Bad() {
		t.Errorf("an eye that got bad: %v", row)
	}
	runs.Put(nil, []api.Pair{pair(1, 1)})
}

// mustAgree tells, if what is got of a text isn't what is read of it by the library; true: there was a row.
func mustAgree(t *testing.T, s string, most int) bool {
	t.Helper()
	row, behind, ok := read(s, most)
	if !ok {
		mustRefuse(t, s, most)
		return false
	}
	mustGet(t, s, most, row, len(behind))
	if put(row)+behind != s {
		t.Fatalf("% x: put again % x, then % x", s, put(row), behind)
	}
	return true
}

// P6.1 and P6.2: Get, of all texts of up to two bytes, and of all of up to seven bytes that tell.
func TestGetTexts(t *testing.T) {
	for a := range 256 {
		mustAgree(t, string([]byte{byte(a)}), 3)
		for b := range 256 {
			mustAgree(t, string([]byte{byte(a), byte(b)}), 3)
		}
	}
	letters := "\x00\x01\x02\x7f\x80\xff"
	texts := []string{""}
	got := 0
	for range 7 {
		var longer []string
		for _, s := range texts {
			for i := range len(letters) {
				longer = append(longer, s+letters[i:i+1])
			}
		}
		texts = longer
		for _, s := range texts {
			if mustAgree(t, s, 2) {
				got++
			}
		}
	}
	if got < 1000 {
		t.Errorf("only %d were got", got)
	}
}

// P6.2: Get, of rows' bytes with some of them changed: what is got has just those bytes.
func TestGetChanged(t *testing.T) {
	random := rand.New(rand.NewSource(10))
	got, refused := 0, 0
	for range 100000 {
		s := []byte(put(some(random, random.Intn(6))))
		for range random.Intn(3) {
			s[random.Intn(len(s))] ^= 1 << random.Intn(8)
		}
		if mustAgree(t, string(s), random.Intn(8)) {
			got++
		} else {
			refused++
		}
	}
	if got < 1000 || refused < 1000 {
		t.Errorf("%d were got, %d refused", got, refused)
	}
}
