package req_test

import (
	"math"
	"math/rand"
	"slices"
	"testing"

	"ogive/api"
	"ogive/req"
)

// mustNotLoad tells, if a Load isn't refused.
func mustNotLoad(t *testing.T, c req.Config, rows [][]int64, used int, low, high int64) {
	t.Helper()
	if r, err := req.Load(c, rows, used, low, high); r != nil || err != api.ErrArg {
		t.Fatalf("Load of %v, %v, %d, %d to %d: %v, %d", c, rows, used, low, high, r, err)
	}
}

// tall is so many rows, of which just the highest one has values, so many.
func tall(rows, values int) [][]int64 {
	list := make([][]int64, rows)
	list[rows-1] = make([]int64, values)
	return list
}

// P21.1: from 1 to 16 rows; the highest one has values, unless it is the lowest, too; there aren't too many in all.
func TestLoadRows(t *testing.T) {
	for width := 4; width <= 64; width += 4 {
		c := config(width, 77)
		mustNotLoad(t, c, nil, 0, 0, 0)
		mustNotLoad(t, c, [][]int64{}, 0, 0, 0)
		mustNotLoad(t, c, [][]int64{}, 0, 0, 1)
		for rows := 1; rows < 20; rows++ {
			for values := range min(width, 5) {
				list := tall(rows, values)
				if rows > 16 || values == 0 && rows > 1 || values<<(rows-1) > width<<10 {
					mustNotLoad(t, c, list, 5, 0, 0)
					continue
				}
				mustHold(t, loaded(t, c, list, 5, 0, 0), modelOfRows(c, list, 5, 0, 0))
			}
			list := tall(rows, 0)
			list[0] = []int64{3}
			if rows > 1 {
				mustNotLoad(t, c, list, 5, 3, 3)
			}
		}
	}
	c := config(4, 0)
	for _, rows := range [][][]int64{{{3}, nil}, {{}, {}}, {{3}, {4}, {}}, {nil, {4}, nil}} {
		mustNotLoad(t, c, rows, 0, 0, 9)
		mustNotLoad(t, c, rows, 0, 0, 0)
	}
	for _, rows := range [][][]int64{{nil, {3}}, {{}, nil, {4, 4, 4}}, {{1, 9, 2}, nil, {3, 3}, {}, {5}}} {
		mustHold(t, loaded(t, c, rows, 0, 0, 9), modelOfRows(c, rows, 0, 0, 9))
	}
}

// P21.1: as many in all as may be, and 1 more, wherever that one stands.
func TestLoadMost(t *testing.T) {
	for _, x := range []struct{ width, top, values int }{{4, 12, 1}, {4, 11, 2}, {8, 13, 1}, {8, 10, 7}, {16, 14, 1}, {32, 15, 1}, {32, 14, 2}, {64, 15, 2}, {64, 10, 63}} {
		c, rows := config(x.width, 9), tall(x.top+1, x.values)
		left := x.width<<10 - x.values<<x.top
		for h := x.top - 1; h >= 0 && left > 0; h-- {
			n := min(x.width-1, left>>h)
			rows[h] = make([]int64, n)
			left -= n << h
		}
		if left != 0 {
			t.Fatalf("%v: %d", x, left)
		}
		r, m := loaded(t, c, rows, 0, -1, 1), modelOfRows(c, rows, 0, -1, 1)
		mustHold(t, r, m)
		mustRefuse(t, r, m, 0, 1, api.ErrFull)
		if err := mustJoin(t, r, filled(t, c, often{5, 1}), m, modelOf(c, often{5, 1})); err != api.ErrFull {
			t.Errorf("%v: %d", x, err)
		}
		for h := range rows {
			if len(rows[h]) < x.width-1 {
				more := slices.Clone(rows)
				more[h] = append(slices.Clone(more[h]), 0)
				mustNotLoad(t, c, more, 0, -1, 1)
			}
		}
		for h, row := range rows {
			if len(row) == 0 || h == x.top {
				continue
			}
			fewer := slices.Clone(rows)
			fewer[h] = row[1:]
			r, m := loaded(t, c, fewer, 0, -1, 1), modelOfRows(c, fewer, 0, -1, 1)
			for range min(4, 1<<h) {
				mustPutBoth(t, r, m, often{-5, 1})
			}
			mustHold(t, r, m)
		}
	}
}

// P21.1: each row has fewer values than the width, whichever it is.
func TestLoadWide(t *testing.T) {
	for width := 4; width <= 64; width += 4 {
		c := config(width, 0xF0)
		for h := range 4 {
			for _, more := range []int{-1, 0, 1, width} {
				rows := [][]int64{{1, 2}, {3}, {}, {7, 4, 5}}
				rows[h] = slices.Repeat([]int64{6}, width+more)
				if more < 0 {
					mustHold(t, loaded(t, c, rows, 3, 1, 7), modelOfRows(c, rows, 3, 1, 7))
				} else {
					mustNotLoad(t, c, rows, 3, 1, 7)
				}
			}
		}
	}
	rows := slices.Repeat([][]int64{make([]int64, 63)}, 16)
	mustNotLoad(t, config(64, 0), rows, 0, 0, 0)
	mustNotLoad(t, config(64, 0), slices.Repeat(rows, 10), 0, 0, 0)
}

// P21.1: used isn't below 0; the coins go on from there, and come again.
func TestLoadUsed(t *testing.T) {
	c := config(4, 0xC4ED70A5619B23F8)
	for _, used := range []int{-1, -2, -64, -1 << 32, math.MinInt, math.MinInt + 1} {
		mustNotLoad(t, c, [][]int64{{1, 2}}, used, 1, 2)
		mustNotLoad(t, c, [][]int64{nil}, used, 0, 0)
	}
	list := []int{1 << 32, 1<<32 + 7, 1 << 62, math.MaxInt - 64, math.MaxInt - 63, math.MaxInt - 1, math.MaxInt}
	for used := range 130 {
		list = append(list, used)
	}
	for _, used := range list {
		for _, rows := range [][][]int64{{nil}, {{4, 5, 1}, {2, 3, 9}}} {
			high := int64(len(rows)-1) * 9
			r, m := loaded(t, c, rows, used, 0, high), modelOfRows(c, rows, used, 0, high)
			mustHold(t, r, m)
			mustPutBoth(t, r, m, often{7, 3}, often{1, 2}, often{6, 4}, often{9, 1}, often{8, 3})
			mustHold(t, r, m)
		}
	}
}

// P21.1: the ends are in order; of no values both are 0. What else they are isn't held against the rows: they grow with what comes.
func TestLoadEnds(t *testing.T) {
	c := config(4, 0b101)
	for _, empty := range [][][]int64{{nil}, {{}}} {
		mustHold(t, loaded(t, c, empty, 9, 0, 0), modelOfRows(c, empty, 9, 0, 0))
		for _, x := range [][2]int64{{1, 1}, {0, 1}, {-1, 0}, {-1, -1}, {-1, 1}, {1, 0}, {0, -1}, {lowest, highest}, {lowest, 0}, {0, highest}, {lowest, lowest}, {highest, highest}} {
			mustNotLoad(t, c, empty, 9, x[0], x[1])
		}
	}
	rows := [][]int64{{5, 2}, {4}}
	for _, x := range [][2]int64{{1, 0}, {0, -1}, {6, 5}, {5, 2}, {highest, lowest}, {0, lowest}, {highest, 0}, {highest, highest - 1}, {lowest + 1, lowest}} {
		mustNotLoad(t, c, rows, 9, x[0], x[1])
	}
	for _, x := range [][2]int64{{2, 5}, {0, 0}, {1, 6}, {3, 4}, {9, 9}, {-9, -9}, {lowest, highest}, {lowest, lowest}, {highest, highest}, {-1, 0}, {0, 1}} {
		r, m := loaded(t, c, rows, 9, x[0], x[1]), modelOfRows(c, rows, 9, x[0], x[1])
		mustHold(t, r, m)
		for _, y := range []int64{4, 0, 6, -20, 20} {
			mustPutBoth(t, r, m, often{y, 1})
			mustHold(t, r, m)
		}
	}
	// A tower without values has no ends, so those of the first value that comes are its own.
	for _, y := range []int64{-3, 3} {
		r, m := loaded(t, c, [][]int64{nil}, 0, 0, 0), modelOf(c)
		mustPutBoth(t, r, m, often{y, 1})
		mustHold(t, r, m)
	}
}

// P21.1: one that is loaded goes on, as the one it came from does, and knows nothing of it.
func TestLoadGoesOn(t *testing.T) {
	random := rand.New(rand.NewSource(216))
	for _, c := range configs() {
		for range 4 {
			r, m := made(t, c), modelOf(c)
			for range random.Intn(60) {
				mustPutBoth(t, r, m, some(random))
			}
			back, more := again(t, r), m.same()
			for range 20 {
				mustPutBoth(t, back, more, some(random))
				mustTell(t, back, more)
				mustTell(t, r, m)
			}
			mustJoin(t, back, r, more, m)
			mustJoin(t, r, back, m, more)
		}
	}
}

// P21.1: rows that lie anywhere, and whatever comes then.
func TestLoadAny(t *testing.T) {
	random := rand.New(rand.NewSource(217))
	for range 1500 {
		c := config(4+4*random.Intn(4), random.Uint64())
		rows, others := anyRows(random, c.Width), anyRows(random, c.Width)
		used := random.Intn(200)
		r, m := loaded(t, c, rows, used, lowest, highest), modelOfRows(c, rows, used, lowest, highest)
		o, om := loaded(t, c, others, 3, lowest, highest), modelOfRows(c, others, 3, lowest, highest)
		mustJoin(t, r, o, m, om)
		mustPutBoth(t, r, m, some(random))
		mustHold(t, r, m)
	}
}

// anyRows are some that have values, and room for as many more, and for others.
func anyRows(random *rand.Rand, width int) [][]int64 {
	rows := make([][]int64, 1+random.Intn(9))
	for h := range rows {
		for range random.Intn(width) {
			rows[h] = append(rows[h], value(random))
		}
	}
	top := &rows[len(rows)-1]
	*top = append((*top)[:min(len(*top), width-2)], value(random))
	return rows
}

// P21.1: what is handed in isn't changed, its spare room too, nor kept.
func TestLoadApart(t *testing.T) {
	c := config(4, 0b1101)
	room := []int64{9, 4, 7, 70, 71, 72}
	rows := [][]int64{slices.Clone(room)[:3], slices.Clone(room)[:2], slices.Clone(room)[:1], {1000}}[:3]
	as := func() bool {
		for _, row := range rows {
			if !slices.Equal(row[:6], room) {
				return false
			}
		}
		return len(rows[0]) == 3 && len(rows[1]) == 2 && len(rows[2]) == 1 && slices.Equal(rows[:4][3], []int64{1000})
	}
	r, m := loaded(t, c, rows, 0, 4, 9), modelOfRows(c, rows, 0, 4, 9)
	mustPutBoth(t, r, m, often{5, 2}, often{3, 40})
	mustHold(t, r, m)
	if !as() {
		t.Errorf("what was handed in: %v", rows)
	}
	r, m = loaded(t, c, rows, 0, 4, 9), modelOfRows(c, rows, 0, 4, 9)
	for _, row := range rows {
		spoil(row)
	}
	mustHold(t, r, m)
	clear(rows)
	mustHold(t, r, m)
	// One row handed in twice is two rows.
	row := []int64{1, 2}
	twice := [][]int64{row, row}
	r, m = loaded(t, c, twice, 0, 1, 2), modelOfRows(c, twice, 0, 1, 2)
	mustPutBoth(t, r, m, often{0, 5})
	mustHold(t, r, m)
}
