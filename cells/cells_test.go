package cells_test

import (
	"math"
	"math/big"
	"math/rand"
	"testing"

	"ogive/api"
	"ogive/cells"
	"ogive/sign"
)

const (
	most  = cells.Most
	above = math.MaxUint64
	last  = 1 << 63
)

// part is a closeness, told shortly.
func part(num, den uint64) api.Ratio {
	return api.Ratio{Num: num, Den: den}
}

func number(u uint64) *big.Int {
	return new(big.Int).SetUint64(u)
}

// cell is one, as it should be.
type cell struct{ low, end, rep uint64 }

// told is the cell from a magnitude on, by numbers without a limit, word by word as the chapter tells it.
func told(low uint64, a api.Ratio) cell {
	u, v := number(a.Num), number(a.Den)
	r := new(big.Int).Mul(number(low), new(big.Int).Add(v, u))
	r.Div(r, v)
	end := new(big.Int).Mul(r, v)
	end.Div(end, new(big.Int).Sub(v, u))
	if r.Cmp(number(last)) > 0 || end.Cmp(number(last)) > 0 {
		end = number(last)
	}
	if r.Cmp(number(last-1)) > 0 {
		r = number(last - 1)
	}
	return cell{low, end.Uint64(), r.Uint64()}
}

// allTold are all cells of a closeness; of one that has too many, the first ones of these, one more than there may be.
func allTold(a api.Ratio) []cell {
	var list []cell
	for low := uint64(1); low <= last && len(list) <= api.MaxCells; {
		c := told(low, a)
		list = append(list, c)
		low = c.end + 1
	}
	return list
}

// can is whether a closeness can be, word by word.
func can(a api.Ratio) bool {
	u, v := number(a.Num), number(a.Den)
	return u.Sign() != 0 && u.Cmp(v) < 0 && v.Cmp(number(1<<31)) <= 0
}

// mustClose tells, if a number doesn't stand for a magnitude so closely as it should, by numbers without a limit.
func mustClose(t *testing.T, rep, m uint64, a api.Ratio) {
	t.Helper()
	far := new(big.Int).Sub(number(rep), number(m))
	far.Abs(far).Mul(far, number(a.Den))
	if far.Cmp(new(big.Int).Mul(number(a.Num), number(m))) > 0 {
		t.Fatalf("%v: %d for %d", a, rep, m)
	}
}

// mustLie tells, if a magnitude isn't found in a cell, or what stands there isn't close to it.
func mustLie(t *testing.T, b *cells.Table, m uint64, want int) {
	t.Helper()
	i, ok := b.Index(m)
	if i != want || !ok {
		t.Fatalf("%v: Index of %d: %d, %t, not %d", b.Part(), m, i, ok, want)
	}
	mustClose(t, b.Rep(i), m, b.Part())
}

// mustHave tells, if a table hasn't just some cells.
func mustHave(t *testing.T, b *cells.Table, list []cell) {
	t.Helper()
	if b.Len() != len(list) {
		t.Fatalf("%v: Len: %d, not %d", b.Part(), b.Len(), len(list))
	}
	for i, c := range list {
		low, end := b.Range(i)
		if got := (cell{low, end, b.Rep(i)}); got != c {
			t.Fatalf("%v: cell %d: %v, not %v", b.Part(), i, got, c)
		}
		for _, m := range []uint64{c.low, c.low + (c.end-c.low)/3, c.low + (c.end-c.low)/2, c.end} {
			mustLie(t, b, m, i)
		}
		// What stands for a cell may lie outside, where the last one begins at 2^63.
		if c.low <= c.rep && c.rep <= c.end {
			mustLie(t, b, c.rep, i)
		}
	}
	mustEnd(t, b)
}

// mustEnd tells, if a table, or a nil one, has anything beyond its ends.
func mustEnd(t *testing.T, b *cells.Table) {
	t.Helper()
	for _, m := range []uint64{0, last + 1, last + 2, above - 1, above} {
		if i, ok := b.Index(m); i != 0 || ok {
			t.Fatalf("%v: Index of %d: %d, %t", b.Part(), m, i, ok)
		}
	}
	n := b.Len()
	for _, i := range []int{math.MinInt, math.MinInt + 1, -n - 1, -2, -1, n, n + 1, api.MaxCells, 1 << 32, math.MaxInt} {
		if 0 <= i && i < n {
			continue
		}
		low, end := b.Range(i)
		if rep := b.Rep(i); low != 0 || end != 0 || rep != 0 {
			t.Fatalf("%v: cell %d: %d, %d, %d", b.Part(), i, low, end, rep)
		}
	}
}

// made is the table of a closeness.
func made(t *testing.T, a api.Ratio) *cells.Table {
	t.Helper()
	b, err := cells.New(a)
	if b == nil || err != api.OK {
		t.Fatalf("New of %v: %v, %d", a, b, err)
	}
	if b.Part() != a {
		t.Fatalf("Part of %v: %v", a, b.Part())
	}
	return b
}

// mustRefuse tells, if New isn't refused with an error, and nothing beside it.
func mustRefuse(t *testing.T, a api.Ratio, want api.Errno) {
	t.Helper()
	if b, err := cells.New(a); b != nil || err != want {
		t.Errorf("New of %v: %v, %d, not %d", a, b, err, want)
	}
}

// closenesses are such as can be, at all edges, with few cells and with many.
func closenesses() []api.Ratio {
	return []api.Ratio{
		part(1, 2), part(1, 3), part(2, 3), part(1, 10), part(2, 20), part(9, 10), part(1, 20), part(1, 100), part(99, 100),
		part(3, 7), part(7, 8), part(15, 16), part(63, 64), part(1, 128), part(1, 200), part(1, 203),
		part(5, 1016), part(6, 1219), part(9, 1829), part(19, 3861),
		part(most-1, most), part(most-2, most), part(most-2, most-1), part(most/2, most), part(most/2+1, most-1), part(most/100, most),
		part(10566206, most), part(1000003, 99999989), part(65535, 65536), part(65536, 65537), part(999999999, 1000000000),
	}
}

// P11.1: the greatest denominator.
func TestMost(t *testing.T) {
	if cells.Most != 2147483648 {
		t.Errorf("Most: %d", cells.Most)
	}
}

// P11.1: the chapter's example.
func TestExample(t *testing.T) {
	b := made(t, part(1, 10))
	if i, ok := b.Index(1); i != 0 || !ok {
		t.Errorf("1: %d, %t", i, ok)
	}
	i, ok := b.Index(100)
	if rep := b.Rep(i); !ok || rep < 90 || rep > 110 {
		t.Errorf("100: %d, %t, %d", i, ok, rep)
	}
	if low, end := b.Range(i); low > 100 || end < 100 {
		t.Errorf("100: from %d to %d", low, end)
	}
}

// P11.1: Good, at the edges by name.
func TestGood(t *testing.T) {
	cases := []struct {
		a    api.Ratio
		want bool
	}{
		{part(0, 0), false}, {part(0, 1), false}, {part(0, 10), false}, {part(0, most), false}, {part(0, above), false},
		{part(1, 0), false}, {part(above, 0), false}, {part(1, 1), false}, {part(10, 10), false}, {part(11, 10), false},
		{part(1, 2), true}, {part(9, 10), true}, {part(2, 20), true}, {part(20, 40), true},
		{part(1, most-1), true}, {part(1, most), true}, {part(1, most+1), false}, {part(2, 2*most), false},
		{part(most-2, most-1), true}, {part(most-1, most), true}, {part(most, most), false}, {part(most, most+1), false},
		{part(most+1, most), false}, {part(1, 1<<32), false}, {part(1<<32+1, 1<<32+2), false}, {part(1<<32+1, 2), false},
		{part(1, 1<<63), false}, {part(1<<63, 1<<63+1), false}, {part(above-1, above), false}, {part(above, above), false}, {part(above, 1), false},
	}
	for _, c := range cases {
		if got := cells.Good(c.a); got != c.want {
			t.Errorf("Good of %v: %t", c.a, got)
		}
	}
}

// P11.1: Good, of many; New refuses just those, and ErrArg stands ahead of ErrFull.
func TestGoodMany(t *testing.T) {
	random := rand.New(rand.NewSource(11))
	good := 0
	for range 20000 {
		shift := random.Intn(64)
		a := part(random.Uint64()>>shift, random.Uint64()>>min(63, shift+random.Intn(3)))
		if got := cells.Good(a); got != can(a) {
			t.Fatalf("Good of %v: %t", a, got)
		}
		if can(a) {
			good++
			continue
		}
		mustRefuse(t, a, api.ErrArg)
	}
	if good < 1000 {
		t.Errorf("too few that can be: %d", good)
	}
}

// P11.1: New of such as can't be.
func TestNewBad(t *testing.T) {
	for _, a := range []api.Ratio{
		part(0, 0), part(0, 1), part(0, 10), part(1, 0), part(1, 1), part(10, 10), part(11, 10), part(most, most), part(most+1, most),
		part(1, most+1), part(most, most+1), part(most/2, most+1), part(above, above), part(above-1, above), part(1, above), part(above, 1),
	} {
		mustRefuse(t, a, api.ErrArg)
	}
}

// P11.1: just MaxCells cells are not too many, and one more is.
func TestNewFull(t *testing.T) {
	for _, a := range []api.Ratio{part(5, 1016), part(9, 1829), part(10, 2032), part(10566206, most)} {
		if b := made(t, a); b.Len() != api.MaxCells {
			t.Errorf("%v: Len: %d", a, b.Len())
		}
	}
	for _, a := range []api.Ratio{
		part(4, 813), part(7, 1423), part(8, 1626), part(10566205, most), part(1, 204), part(1, 1000), part(1, 4096), part(1, 1000000),
		part(1, most), part(2, most), part(1, most-1), part(most/1000, most),
	} {
		mustRefuse(t, a, api.ErrFull)
	}
	if b := made(t, part(1, 203)); b.Len() != 4091 {
		t.Errorf("1 / 203: Len: %d", b.Len())
	}
}

// P11.1: cells worked out by hand: the first ones, or all that there are.
func TestByHand(t *testing.T) {
	cases := []struct {
		a    api.Ratio
		n    int
		list []cell
	}{
		{part(1, 10), 215, []cell{{1, 1, 1}, {2, 2, 2}, {3, 3, 3}, {4, 4, 4}, {5, 5, 5}, {6, 6, 6}, {7, 7, 7}, {8, 8, 8}, {9, 10, 9}, {11, 13, 12}, {14, 16, 15}, {17, 20, 18}}},
		{part(1, 2), 40, []cell{{1, 2, 1}, {3, 8, 4}, {9, 26, 13}, {27, 80, 40}}},
		{part(9, 10), 16, []cell{{1, 10, 1}, {11, 200, 20}, {201, 3810, 381}}},
		{part(99, 100), 9, []cell{{1, 100, 1}, {101, 20000, 200}, {20001, 3980100, 39801}}},
		// The last cell ends at 2^63 by itself; of the next closeness it is cut there, and so is what stands for it.
		{part(most-1, most), 2, []cell{{1, most, 1}, {most + 1, last, 1 << 32}}},
		{part(most-2, most-1), 3, []cell{{1, most - 1, 1}, {most, 9223372028264841218, 1<<32 - 2}, {9223372028264841219, last, last - 1}}},
	}
	for _, c := range cases {
		b := made(t, c.a)
		if b.Len() != c.n {
			t.Errorf("%v: Len: %d, not %d", c.a, b.Len(), c.n)
		}
		for i, want := range c.list {
			low, end := b.Range(i)
			if got := (cell{low, end, b.Rep(i)}); got != want {
				t.Errorf("%v: cell %d: %v, not %v", c.a, i, got, want)
			}
		}
	}
}

// P11.1: the last cell ends at 2^63, where it is cut there at its end, and where what stands for it is cut, too.
func TestLast(t *testing.T) {
	cases := []struct {
		a    api.Ratio
		last cell
	}{
		{part(1, 2), cell{4052555153018976267, last, 6078832729528464400}},
		{part(1, 10), cell{8270806773061238932, last, 9097887450367362825}},
		{part(9, 10), cell{8433959461041554611, last, last - 1}},
	}
	for _, c := range cases {
		b := made(t, c.a)
		i, ok := b.Index(last)
		if i != b.Len()-1 || !ok {
			t.Errorf("%v: Index of 2^63: %d, %t", c.a, i, ok)
		}
		low, end := b.Range(i)
		if got := (cell{low, end, b.Rep(i)}); got != c.last {
			t.Errorf("%v: %v, not %v", c.a, got, c.last)
		}
	}
}

// P11.1, P11.2: all cells at all edges, against the chapter's words.
func TestEdges(t *testing.T) {
	for _, a := range closenesses() {
		mustHave(t, made(t, a), allTold(a))
	}
}

// P11.1, P11.2: all cells of many closenesses; those that would have too many are refused.
func TestMany(t *testing.T) {
	random := rand.New(rand.NewSource(12))
	full, cut := 0, 0
	for range 3000 {
		v := 2 + random.Uint64()%(most-1)>>random.Intn(31)
		u := 1 + random.Uint64()%(v-1)
		if random.Intn(3) == 0 {
			u = 1 + u>>random.Intn(10)%(v-1)
		}
		a := part(u, v)
		list := allTold(a)
		if len(list) > api.MaxCells {
			mustRefuse(t, a, api.ErrFull)
			full++
			continue
		}
		mustHave(t, made(t, a), list)
		if list[len(list)-1].rep == last-1 {
			cut++
		}
	}
	if full < 20 || cut < 100 || cut > 2900 {
		t.Errorf("too few of a kind: %d, %d", full, cut)
	}
}

// P11.1, P11.2: a cell from each magnitude on, as it were: at the upper edge what stands for it, and its end, are cut.
func TestFrom(t *testing.T) {
	random := rand.New(rand.NewSource(13))
	for _, a := range append(closenesses(), part(1, most), part(1, most-1), part(2, most), part(1, 1000)) {
		lows := []uint64{1, 2, most - 1, most, most + 1, 1<<62 - 1, 1 << 62, 1<<62 + 1, last - 1<<32, last - 2, last - 1, last}
		// From about here on what stands for a cell is cut: its magnitude by (v + u) / v is 2^63.
		edge := new(big.Int).Mul(number(last), number(a.Den))
		at := edge.Div(edge, number(a.Den+a.Num)).Uint64()
		for m := at - 4; m <= at+4; m++ {
			lows = append(lows, m)
		}
		for range 200 {
			lows = append(lows, 1+random.Uint64()>>1>>random.Intn(63))
		}
		for _, low := range lows {
			end, rep := cells.From(low, a)
			if got := (cell{low, end, rep}); got != told(low, a) {
				t.Fatalf("%v: %v, not %v", a, got, told(low, a))
			}
			for _, m := range []uint64{low, low + (end-low)/2, end} {
				mustClose(t, rep, m, a)
			}
		}
	}
	// What would stand for the first one of these is 2^63 - 1, for the second one just 2^63, ahead of the cut.
	for _, low := range []uint64{8384883669867978007, 8384883669867978008} {
		if end, rep := cells.From(low, part(1, 10)); end != last || rep != last-1 {
			t.Errorf("%d: %d, %d", low, end, rep)
		}
	}
	if end, rep := cells.From(last, part(1, most)); end != last || rep != last-1 {
		t.Errorf("%d, %d", end, rep)
	}
}

// P11.2: small magnitudes, each one, and many of all lengths; as layer 2 tells it, too.
func TestClose(t *testing.T) {
	random := rand.New(rand.NewSource(14))
	for _, a := range closenesses() {
		b := made(t, a)
		var list []uint64
		for m := range uint64(3000) {
			list = append(list, m+1)
		}
		for range 3000 {
			list = append(list, 1+random.Uint64()>>1>>random.Intn(63))
		}
		for _, m := range list {
			i, ok := b.Index(m)
			low, end := b.Range(i)
			if !ok || m < low || m > end {
				t.Fatalf("%v: %d: %d, %t, from %d to %d", a, m, i, ok, low, end)
			}
			mustClose(t, b.Rep(i), m, a)
			x, there := sign.Value(m, false)
			if there && !sign.Within(int64(b.Rep(i)), x, a) {
				t.Fatalf("%v: %d isn't within of %d", a, b.Rep(i), x)
			}
		}
	}
}

// P11.2: here what stands for the greatest magnitude is just as close as it must be.
func TestJustClose(t *testing.T) {
	b := made(t, part(most-1, most))
	i, _ := b.Index(last)
	if far := last - b.Rep(i); far != last-1<<32 {
		t.Fatalf("%d", far)
	}
	mustClose(t, b.Rep(i), last, b.Part())
}

// P11.1: what stands for a cell rises with the cells, also where it is cut.
func TestRising(t *testing.T) {
	for _, a := range closenesses() {
		b := made(t, a)
		for i := 1; i < b.Len(); i++ {
			if b.Rep(i-1) >= b.Rep(i) {
				t.Fatalf("%v: cell %d: %d, then %d", a, i, b.Rep(i-1), b.Rep(i))
			}
		}
	}
}

// P11.1: the closeness is the one that was asked for, not in least numbers, though the cells are the same.
func TestPart(t *testing.T) {
	list := allTold(part(1, 10))
	for _, by := range []uint64{1, 2, 3, 1000, most / 10} {
		mustHave(t, made(t, part(by, 10*by)), list)
	}
}

// P11.1: a nil table has nothing.
func TestNil(t *testing.T) {
	var b *cells.Table
	if b.Len() != 0 || b.Part() != part(0, 0) {
		t.Errorf("%d, %v", b.Len(), b.Part())
	}
	for _, m := range []uint64{0, 1, 2, 100, last - 1, last, last + 1, above} {
		if i, ok := b.Index(m); i != 0 || ok {
			t.Errorf("Index of %d: %d, %t", m, i, ok)
		}
	}
	mustEnd(t, b)
}

// P11.1: tables know nothing of one another, and asking changes nothing.
func TestTwo(t *testing.T) {
	a, b, c := made(t, part(1, 3)), made(t, part(1, 50)), made(t, part(1, 3))
	if a == c {
		t.Error("two tables are the same one")
	}
	for range 2 {
		mustHave(t, a, allTold(part(1, 3)))
		mustHave(t, b, allTold(part(1, 50)))
		mustHave(t, c, allTold(part(1, 3)))
	}
}
