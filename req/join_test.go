package req_test

import (
	"math/rand"
	"slices"
	"testing"

	"ogive/api"
	"ogive/req"
)

// mustJoin tells, if one doesn't have all of another one behind Join, or that one isn't as it was.
func mustJoin(t *testing.T, r, o *req.Tower, m, om *model) api.Errno {
	t.Helper()
	want := m.join(om)
	if err := r.Join(o); err != want {
		t.Fatalf("Join: %d, not %d", err, want)
	}
	mustHold(t, r, m)
	mustHold(t, o, om)
	return want
}

// P21.1, P21.2: what was put to many, joined by any tree, each with a word of its own.
func TestJoinTree(t *testing.T) {
	random := rand.New(rand.NewSource(215))
	for _, width := range []int{4, 8, 16, 64} {
		for range 20 {
			var towers []*req.Tower
			var models []*model
			for range 1 + random.Intn(6) {
				c := config(width, random.Uint64())
				r, m := made(t, c), modelOf(c)
				for range random.Intn(1 + random.Intn(40)) {
					mustPutBoth(t, r, m, some(random))
				}
				towers, models = append(towers, r), append(models, m)
			}
			for len(towers) > 1 {
				random.Shuffle(len(towers), func(i, j int) {
					towers[i], towers[j] = towers[j], towers[i]
					models[i], models[j] = models[j], models[i]
				})
				mustJoin(t, towers[0], towers[1], models[0], models[1])
				towers, models = slices.Delete(towers, 1, 2), slices.Delete(models, 1, 2)
			}
		}
	}
}

// P21.1: by hand: rows stand behind rows, there are as many as the higher tower has, each that has too many is settled but once, and its own coins go on.
func TestJoinByHand(t *testing.T) {
	for _, x := range []struct {
		word       uint64
		used       int
		rows, more [][]int64
		want       [][]int64
		coins      int
	}{
		{0, 0, [][]int64{{9}}, [][]int64{{5, 1}}, [][]int64{{9, 5, 1}}, 0},
		{0, 3, [][]int64{{9, 2}, {4}}, [][]int64{{7}, {3, 6}, {}, {8, 1}}, [][]int64{{9, 2, 7}, {4, 3, 6}, {}, {8, 1}}, 3},
		{0, 3, [][]int64{{7}, {3, 6}, {}, {8, 1}}, [][]int64{{9, 2}, {4}}, [][]int64{{7, 9, 2}, {3, 6, 4}, {}, {8, 1}}, 3},
		{0b10, 0, [][]int64{{9, 2}, {4}}, [][]int64{{7, 3}, {5, 6}}, [][]int64{{2, 3}, {4, 5}, {7}}, 2},
		{0b10, 1, [][]int64{{9, 2}, {4}}, [][]int64{{7, 3}, {5, 6}}, [][]int64{{2, 3}, {4, 5}, {6}}, 3},
		{0b01, 64, [][]int64{{9, 2}, {4}}, [][]int64{{7, 3}, {5, 6}}, [][]int64{{2, 3}, {4, 5}, {6}}, 66},
		// The lowest row stays as it is; the one above it goes up, and then the one above that has four, too.
		{0b11, 0, [][]int64{{0}, {9, 2, 5}, {4, 1}}, [][]int64{{}, {7}, {3}}, [][]int64{{0}, {2, 5}, {1, 3}, {9}}, 2},
	} {
		// The other tower's coins are all unlike its own, and none of them is used.
		r, o := loaded(t, config(4, x.word), x.rows, x.used, 0, 9), loaded(t, config(4, ^x.word), x.more, 7, 0, 9)
		m, om := modelOfRows(config(4, x.word), x.rows, x.used, 0, 9), modelOfRows(config(4, ^x.word), x.more, 7, 0, 9)
		mustJoin(t, r, o, m, om)
		if !same(r.Rows(), x.want) || r.Used() != x.coins || o.Used() != 7 {
			t.Errorf("%v and %v: %v, %d coins, not %v, %d", x.rows, x.more, r.Rows(), r.Used(), x.want, x.coins)
		}
	}
}

// P21.1: both ways round, of empty ones too: the ends are those of both; the word stays its own.
func TestJoinEnds(t *testing.T) {
	lists := [][]often{nil, {{0, 2}}, {{4, 1}}, {{7, 3}}, {{-4, 1}, {5, 2}}, {{6, 1}, {1, 2}}, {{-9, 1}}, {{-9, 1}, {-7, 1}}, {{lowest, 1}, {highest, 1}}, {{1, 1}, {2, 1}, {3, 1}, {4, 1}}, {{9, 4}, {2, 3}, {11, 1}, {5, 6}}}
	for _, width := range []int{4, 8, 64} {
		for _, a := range lists {
			for _, b := range lists {
				c, d := config(width, 0b0110), config(width, 0b1011)
				mustJoin(t, filled(t, c, a...), filled(t, d, b...), modelOf(c, a...), modelOf(d, b...))
			}
		}
	}
}

// P21.1, P21.2: one joined into itself has all twice, again and again, till there would be too many.
func TestJoinItself(t *testing.T) {
	for _, c := range configs() {
		for _, list := range [][]often{nil, {{3, 1}}, {{5, 1}, {lowest, 1}, {9, 2}, {highest, 1}, {2, 3}}, {{8, 30}, {7, 41}}} {
			r, m := filled(t, c, list...), modelOf(c, list...)
			last := api.OK
			for i := range 18 {
				last = mustJoin(t, r, r, m, m)
				if o := (often{int64(i), 1}); i%5 == 0 && m.put(o.x, o.n) == api.OK {
					mustPut(t, r, o)
				}
			}
			if list != nil && last != api.ErrFull {
				t.Errorf("%v: %d values still go into themselves", c, r.Total())
			}
		}
	}
}

// P21.1: two know nothing of one another behind a Join.
func TestJoinApart(t *testing.T) {
	for _, first := range [][]often{nil, {{5, 1}}, {{7, 1}, {3, 2}}, {{4, 20}}} {
		for _, second := range [][]often{nil, {{2, 1}}, {{8, 3}}, {{1, 2}, {9, 17}}} {
			c, d := config(8, 0b1010011), config(8, 0b0011101)
			r, o := filled(t, c, first...), filled(t, d, second...)
			m, om := modelOf(c, first...), modelOf(d, second...)
			mustJoin(t, r, o, m, om)
			for i := range int64(12) {
				mustPutBoth(t, o, om, often{i * 5 % 7, 1})
				mustTell(t, r, m)
				mustPutBoth(t, r, m, often{i * 3 % 11, 1})
				mustTell(t, o, om)
			}
			mustHold(t, r, m)
			mustHold(t, o, om)
		}
	}
}

// P21.1: another width is ErrMatch, also of one without values, and ahead of ErrFull; another word is none. Nothing changes.
func TestJoinMatch(t *testing.T) {
	for _, c := range configs() {
		for _, other := range configs() {
			for _, list := range [][]often{nil, {{1, 1}}, {{2, 7}, {1, 9}}} {
				r, m := filled(t, c, often{5, 6}), modelOf(c, often{5, 6})
				o, om := filled(t, other, list...), modelOf(other, list...)
				if err := mustJoin(t, r, o, m, om); (c.Width != other.Width) != (err == api.ErrMatch) {
					t.Fatalf("%v and %v: %d", c, other, err)
				}
			}
		}
	}
	r, m := brimming(t, config(4, 1), 0)
	o, om := brimming(t, config(8, 1), 0)
	if err := mustJoin(t, r, o, m, om); err != api.ErrMatch {
		t.Errorf("%d", err)
	}
	if err := mustJoin(t, o, r, om, m); err != api.ErrMatch {
		t.Errorf("%d", err)
	}
}

// P21.1: together they are at most as many as may be: 1 more is ErrFull, and nothing changes; none at all has room still.
func TestJoinTooMany(t *testing.T) {
	for _, width := range []int{4, 16, 64} {
		for _, x := range []struct {
			but, more uint64
			err       api.Errno
		}{{0, 0, api.OK}, {0, 1, api.ErrFull}, {1, 1, api.OK}, {1, 2, api.ErrFull}, {700, 700, api.OK}, {700, 701, api.ErrFull}, {1024, 1024, api.OK}, {1023, 1024, api.ErrFull}} {
			c, d := config(width, 0b1011001), config(width, 0b11)
			var list []often
			if x.more > 0 {
				list = []often{{-77, x.more}}
			}
			r, m := brimming(t, c, x.but)
			if err := mustJoin(t, r, filled(t, d, list...), m, modelOf(d, list...)); err != x.err {
				t.Errorf("%d and %d: %d", x.but, x.more, err)
			}
			r, m = brimming(t, c, x.but)
			o, om := filled(t, d, list...), modelOf(d, list...)
			if err := mustJoin(t, o, r, om, m); err != x.err {
				t.Errorf("%d and %d: %d", x.more, x.but, err)
			}
		}
		r, m := brimming(t, config(width, 5), 0)
		if err := mustJoin(t, r, r, m, m); err != api.ErrFull {
			t.Errorf("into itself: %d", err)
		}
	}
}
