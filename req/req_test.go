package req_test

import (
	"math"
	"math/rand"
	"slices"
	"testing"

	"ogive/api"
	"ogive/req"
)

// P21.1: the constant.
func TestConstants(t *testing.T) {
	if req.Times != 1024 {
		t.Errorf("%d", req.Times)
	}
}

// P21.1: the chapter's example, by both coins.
func TestExample(t *testing.T) {
	for word, third := range []int64{3, 4} {
		r := filled(t, config(4, uint64(word)), often{4, 1}, often{3, 1}, often{2, 1})
		if !same(r.Rows(), [][]int64{{4, 3, 2}}) || r.Used() != 0 {
			t.Errorf("%v, %d coins", r.Rows(), r.Used())
		}
		mustPut(t, r, often{1, 1})
		if !same(r.Rows(), [][]int64{{1, 2}, {third}}) || r.Used() != 1 {
			t.Errorf("%v, %d coins", r.Rows(), r.Used())
		}
	}
}

// P21.2: the document's example: by a width of 64 ranks up to 32 are exact, in whatever order values come, and however the coins fall.
func TestExact(t *testing.T) {
	random := rand.New(rand.NewSource(211))
	for range 50 {
		r := made(t, config(64, random.Uint64()))
		for _, i := range random.Perm(1000) {
			mustPut(t, r, often{int64(i) + 1, 1})
		}
		for x := range uint64(33) {
			if n := r.Rank(int64(x)); n != x {
				t.Errorf("Rank of %d: %d", x, n)
			}
			if y, err := r.Quantile(of(x, 1000)); y != max(1, int64(x)) || err != api.OK {
				t.Errorf("Quantile of %d / 1000: %d, %d", x, y, err)
			}
		}
	}
}

// P21.1: by hand: what goes up, by which coin, and in which order it stands there.
func TestByHand(t *testing.T) {
	r := made(t, config(4, 0b10))
	must := func(used int, want ...[]int64) {
		t.Helper()
		if rows := r.Rows(); !same(rows, want) || r.Used() != used {
			t.Errorf("%v, %d coins, not %v, %d", rows, r.Used(), want, used)
		}
	}
	must(0, nil)
	mustPut(t, r, often{4, 1}, often{3, 1}, often{2, 1})
	must(0, []int64{4, 3, 2})
	mustPut(t, r, often{1, 1})
	must(1, []int64{1, 2}, []int64{3})
	mustPut(t, r, often{9, 1})
	must(1, []int64{1, 2, 9}, []int64{3})
	mustPut(t, r, often{0, 1})
	must(2, []int64{0, 1}, []int64{3, 9})
	mustPut(t, r, often{6, 1}, often{5, 1})
	must(3, []int64{0, 1}, []int64{3, 9, 5})
	// Two rows have too many, one behind the other: 7 of 7 and 8 stands behind the row above, and of what is left there 7 goes further up.
	mustPut(t, r, often{8, 1}, often{7, 1})
	must(5, []int64{0, 1}, []int64{3, 5}, []int64{7})
	for x, want := range []uint64{1, 2, 2, 4, 4, 6, 6, 10, 10, 10} {
		if n := r.Rank(int64(x)); n != want {
			t.Errorf("Rank of %d: %d, not %d", x, n, want)
		}
	}
	for at, want := range []int64{0, 0, 1, 3, 3, 5, 5, 7, 7, 7, 7} {
		if x, err := r.Quantile(of(uint64(at), 10)); x != want || err != api.OK {
			t.Errorf("Quantile of %d / 10: %d, %d, not %d", at, x, err, want)
		}
	}
	// The greatest value isn't kept, and yet it is known.
	if low, high, some := r.Ends(); low != 0 || high != 9 || !some {
		t.Errorf("%d to %d, %t", low, high, some)
	}
	if r.Total() != 10 || r.Most() != 4096 || r.Config() != config(4, 0b10) {
		t.Errorf("%d of %d, %v", r.Total(), r.Most(), r.Config())
	}
}

// P21.1: of an odd number that is left one more stays.
func TestOdd(t *testing.T) {
	r, o := filled(t, config(4, 0b1), often{5, 1}, often{9, 1}, often{1, 1}), filled(t, config(4, 0), often{3, 1}, often{7, 1})
	if err := r.Join(o); err != api.OK || !same(r.Rows(), [][]int64{{1, 3, 5}, {9}}) || r.Used() != 1 {
		t.Errorf("%d: %v, %d coins", err, r.Rows(), r.Used())
	}
	r, o = filled(t, config(8, 0b0), often{5, 1}, often{9, 1}, often{1, 5}), filled(t, config(8, 0), often{3, 1}, often{7, 5})
	// Of 13 four stay, and one more; of 3, 5, 7, 7, 7, 7, 7, 9 four go up.
	if err := r.Join(o); err != api.OK || !same(r.Rows(), [][]int64{{1, 1, 1, 1, 1}, {3, 7, 7, 7}}) || r.Used() != 1 {
		t.Errorf("%d: %v, %d coins", err, r.Rows(), r.Used())
	}
}

// P21.1: New and Load by all low widths, and at the edges; of what can't be it is ErrArg, and nothing beside it.
func TestWidths(t *testing.T) {
	widths := []int{math.MinInt, math.MinInt + 4, -1 << 32, math.MaxInt, math.MaxInt - 3, 1 << 32, 1<<32 + 4, 1<<32 + 64, 1 << 62, 1 << 31, 1 << 16, 1<<8 + 4, 1024}
	for width := -130; width < 400; width++ {
		widths = append(widths, width)
	}
	can := map[int]bool{4: true, 8: true, 12: true, 16: true, 20: true, 24: true, 28: true, 32: true, 36: true, 40: true, 44: true, 48: true, 52: true, 56: true, 60: true, 64: true}
	for _, width := range widths {
		for _, word := range []uint64{0, 1, all} {
			c := config(width, word)
			if can[width] {
				mustHold(t, made(t, c), modelOf(c))
				continue
			}
			if r, err := req.New(c); r != nil || err != api.ErrArg {
				t.Fatalf("New of %v: %v, %d", c, r, err)
			}
			mustNotLoad(t, c, [][]int64{nil}, 0, 0, 0)
			mustNotLoad(t, c, [][]int64{{1}}, 0, 1, 1)
			mustNotLoad(t, c, nil, -1, 1, 0)
		}
	}
}

// P21.1: a nil tower has nothing, does nothing, and ErrNil stands ahead of all other errors.
func TestNil(t *testing.T) {
	var none *req.Tower
	r := filled(t, config(4, 5), often{7, 9})
	for _, n := range []uint64{0, 1, 1024, 1025, all} {
		if err := none.Put(int64(n), n); err != api.ErrNil {
			t.Errorf("Put of %d, %d: %d", int64(n), n, err)
		}
		if m := none.Rank(int64(n)); m != 0 {
			t.Errorf("Rank of %d: %d", int64(n), m)
		}
	}
	for _, p := range []api.Ratio{{}, of(1, 2), of(3, 2), of(1, 1)} {
		if x, err := none.Quantile(p); x != 0 || err != api.ErrNil {
			t.Errorf("Quantile of %v: %d, %d", p, x, err)
		}
	}
	for _, err := range []api.Errno{none.Join(none), none.Join(nil), none.Join(r), r.Join(none), r.Join(nil)} {
		if err != api.ErrNil {
			t.Errorf("Join: %d", err)
		}
	}
	low, high, some := none.Ends()
	if none.Total() != 0 || none.Most() != 0 || low != 0 || high != 0 || some || len(none.Rows()) != 0 || none.Config() != (req.Config{}) || none.Used() != 0 {
		t.Error("a nil tower has something")
	}
	mustHold(t, r, modelOf(config(4, 5), often{7, 9}))
}

// P21.1: without values: no error of a part is left out, and nothing is found.
func TestEmpty(t *testing.T) {
	for _, c := range configs() {
		r := made(t, c)
		for _, p := range []api.Ratio{{}, of(1, 0), of(2, 1), of(all, all-1)} {
			if x, err := r.Quantile(p); x != 0 || err != api.ErrArg {
				t.Errorf("Quantile of %v: %d, %d", p, x, err)
			}
		}
		for _, p := range []api.Ratio{of(0, 1), of(1, 2), of(1, 1)} {
			if x, err := r.Quantile(p); x != 0 || err != api.ErrNone {
				t.Errorf("Quantile of %v: %d, %d", p, x, err)
			}
		}
		if len(r.Rows()) != 1 || r.Most() != uint64(c.Width)<<10 {
			t.Errorf("%v: %v, %d", c, r.Rows(), r.Most())
		}
		mustHold(t, r, modelOf(c))
	}
}

// P21.1: a value that comes often comes that often, one behind the other.
func TestOften(t *testing.T) {
	for _, c := range configs() {
		for _, n := range []uint64{1, 2, 3, 4, 5, 7, 8, 63, 64, 65, 500, 1023, 1024} {
			list := []often{{3, 5}, {9, n}, {4, 2}}
			r, single := filled(t, c, list...), made(t, c)
			for _, o := range list {
				for range o.n {
					mustPut(t, single, often{o.x, 1})
				}
			}
			if !same(r.Rows(), single.Rows()) || r.Used() != single.Used() {
				t.Fatalf("%v: %v, %d coins, not %v, %d", c, r.Rows(), r.Used(), single.Rows(), single.Used())
			}
			mustHold(t, r, modelOf(c, list...))
		}
	}
}

// P21.1, P21.2: all towers that a few calls come to.
func TestFew(t *testing.T) {
	for _, c := range []req.Config{config(4, 0b0110100110), config(4, all), config(8, 0b101)} {
		others := []*req.Tower{made(t, c), filled(t, config(c.Width, 0), often{2, 3}), filled(t, config(c.Width, 1), often{5, 9}, often{0, 1})}
		models := []*model{modelOf(c), modelOf(config(c.Width, 0), often{2, 3}), modelOf(config(c.Width, 1), often{5, 9}, often{0, 1})}
		puts := []often{{0, 1}, {2, 1}, {1, 3}, {4, 4}}
		call := func(i int, r *req.Tower, m *model) (api.Errno, api.Errno) {
			switch {
			case i < 4:
				return r.Put(puts[i].x, puts[i].n), m.put(puts[i].x, puts[i].n)
			case i < 7:
				return r.Join(others[i-4]), m.join(models[i-4])
			}
			return r.Join(r), m.join(m)
		}
		for code := range 8 * 8 * 8 * 8 {
			r, m := made(t, c), modelOf(c)
			for range 4 {
				if got, want := call(code%8, r, m); got != want {
					t.Fatalf("%d, not %d", got, want)
				}
				code /= 8
			}
			mustHold(t, r, m)
		}
		for i, o := range others {
			mustHold(t, o, models[i])
		}
	}
}

// P21.1, P21.2: whatever is put, in whatever order, behind each Put.
func TestPuts(t *testing.T) {
	random := rand.New(rand.NewSource(212))
	for _, c := range configs() {
		for range 2 {
			r, m := made(t, c), modelOf(c)
			for i := range 80 {
				mustPutBoth(t, r, m, some(random))
				if i%8 == 5 {
					mustHold(t, r, m)
				} else {
					mustTell(t, r, m)
				}
			}
			mustHold(t, r, m)
		}
	}
}

// P21.1, P21.2: some towers of one width, each with a word of its own, and all calls, in any order.
func TestPlay(t *testing.T) {
	random := rand.New(rand.NewSource(213))
	for range 100 {
		width := 4 + 4*random.Intn(4)
		var towers []*req.Tower
		var models []*model
		for range 3 {
			c := config(width, random.Uint64())
			towers, models = append(towers, made(t, c)), append(models, modelOf(c))
		}
		for range 60 {
			i, j := random.Intn(3), random.Intn(3)
			r, m := towers[i], models[i]
			switch random.Intn(8) {
			case 0:
				mustJoin(t, r, towers[j], m, models[j])
			case 1:
				towers[i] = again(t, r)
			case 2:
				mustRefuse(t, r, m, value(random), 1025+random.Uint64()>>1, api.ErrLong)
			case 3:
				mustAsk(t, r, m)
			default:
				mustPutBoth(t, r, m, some(random))
			}
			for k := range towers {
				mustTell(t, towers[k], models[k])
			}
		}
	}
}

// P21.1: what isn't put is refused: no time, then too often, then too many; and nothing changes.
func TestPutBad(t *testing.T) {
	for _, width := range []int{4, 32, 64} {
		c := config(width, 0b1100101)
		empty, m := made(t, c), modelOf(c)
		full, fm := brimming(t, c, 0)
		for _, x := range []int64{lowest, 0, 5, highest} {
			for _, n := range []uint64{1025, 1026, 2048, 4096, 4097, 1 << 16, 1 << 32, 1<<32 + 1, 1 << 62, api.MaxCount, 1 << 63, 1<<63 + 1, all, all - 1023} {
				mustRefuse(t, empty, m, x, n, api.ErrLong)
				mustRefuse(t, full, fm, x, n, api.ErrLong)
			}
			mustRefuse(t, empty, m, x, 0, api.ErrArg)
			mustRefuse(t, full, fm, x, 0, api.ErrArg)
			for _, n := range []uint64{1, 2, 1023, 1024} {
				mustRefuse(t, full, fm, x, n, api.ErrFull)
			}
		}
		mustPutBoth(t, empty, m, often{5, 1024})
		mustHold(t, empty, m)
		mustHold(t, full, fm)
	}
}

// brimming is a tower that has as many values as may be, but for some.
func brimming(t *testing.T, c req.Config, but uint64) (*req.Tower, *model) {
	t.Helper()
	r, m := made(t, c), modelOf(c)
	for left := uint64(c.Width)<<10 - but; left > 0; {
		o := often{int64(left * 7919 % 1009), min(left, 1+left%1024)}
		mustPutBoth(t, r, m, o)
		left -= o.n
	}
	return r, m
}

// P21.1, P21.2: as many values as may be, and 1 more; few rows are enough for them.
func TestFull(t *testing.T) {
	for _, width := range []int{4, 8, 36, 64} {
		for _, but := range []uint64{0, 1, 2, 1024} {
			c := config(width, 0x9E3779B97F4A7C15)
			r, m := brimming(t, c, but)
			mustRefuse(t, r, m, 3, 0, api.ErrArg)
			if but < 1024 {
				mustRefuse(t, r, m, 3, but+1, api.ErrFull)
			}
			if but > 0 {
				mustPutBoth(t, r, m, often{-3, but})
			}
			mustHold(t, r, m)
			mustRefuse(t, r, m, -9, 1, api.ErrFull)
			if len(r.Rows()) > 12 || r.Total() != r.Most() {
				t.Errorf("%d rows, %d of %d", len(r.Rows()), r.Total(), r.Most())
			}
		}
	}
}

// P21.1: more coins are used than a tape has: they come again, and the number that were used goes on.
func TestCoinsAgain(t *testing.T) {
	for _, word := range []uint64{0b1, 1 << 63, 0xC4ED70A5619B23F8} {
		r, m := made(t, config(4, word)), modelOf(config(4, word))
		for i := range int64(700) {
			mustPutBoth(t, r, m, often{i * 269 % 701, 1})
			mustTell(t, r, m)
		}
		if r.Used() < 5*round {
			t.Errorf("%d coins", r.Used())
		}
		mustHold(t, r, m)
	}
}

// P21.1: the ends are those of all that was put, whether these are kept or not.
func TestEnds(t *testing.T) {
	for _, list := range [][]often{
		{{0, 1}}, {{-5, 1}}, {{5, 1}}, {{lowest, 1}, {highest, 1}}, {{highest, 1}, {lowest, 1}}, {{lowest, 3}}, {{highest, 3}}, {{3, 1}, {2, 1}}, {{2, 1}, {3, 1}}, {{-3, 1}, {-2, 1}}, {{-2, 1}, {-3, 1}},
		{{9, 1}, {1, 40}}, {{8, 1}, {9, 1}, {1, 40}}, {{1, 40}, {9, 1}, {1, 40}}, {{1, 40}, {-9, 1}, {1, 40}}, {{0, 1}, {1, 3}, {2, 3}, {3, 3}, {4, 3}, {highest, 1}, {5, 3}}, {{highest, 50}, {lowest, 50}},
	} {
		for _, word := range []uint64{0, 0b10, all} {
			r := filled(t, config(4, word), list...)
			values := make([]int64, len(list))
			for i, o := range list {
				values[i] = o.x
			}
			if low, high, some := r.Ends(); low != slices.Min(values) || high != slices.Max(values) || !some {
				t.Errorf("%v: %d to %d, %t", list, low, high, some)
			}
			mustHold(t, r, modelOf(config(4, word), list...))
		}
	}
}

// P21.2: many values, rising, falling, few, in any order, and joined by any tree.
func TestMany(t *testing.T) {
	random := rand.New(rand.NewSource(214))
	for _, width := range []int{4, 8, 20, 64} {
		for _, way := range []func(i int) int64{
			func(i int) int64 { return int64(i) },
			func(i int) int64 { return int64(-i) },
			func(int) int64 { return random.Int63n(5000) },
			func(int) int64 { return random.Int63n(5) },
			func(i int) int64 { return int64(i % 2 * (10000 - i)) },
		} {
			for _, word := range []uint64{0, all, random.Uint64()} {
				towers, truth := []*req.Tower{}, modelOf(config(width, 0))
				for range 4 {
					towers = append(towers, made(t, config(width, word)))
				}
				for i := range 3000 {
					x := way(i)
					mustPut(t, towers[random.Intn(random.Intn(4)+1)], often{x, 1})
					truth.all[x]++
				}
				for len(towers) > 1 {
					random.Shuffle(len(towers), func(i, j int) { towers[i], towers[j] = towers[j], towers[i] })
					if err := towers[0].Join(towers[1]); err != api.OK {
						t.Fatal(err)
					}
					towers = slices.Delete(towers, 1, 2)
				}
				mustLieClose(t, towers[0], truth)
			}
		}
	}
}
