package logsk_test

import (
	"math"
	"math/rand"
	"reflect"
	"slices"
	"testing"

	"ogive/api"
	"ogive/bins"
	"ogive/cells"
	"ogive/logsk"
)

// P14.1, P14.2: the chapter's example; of all of 1 to 1000 each place's answer is as close.
func TestExample(t *testing.T) {
	c := config(1, 100, bins.Great, limit)
	s := made(t, c)
	for x := range int64(1000) {
		mustPut(t, s, often{x + 1, 1})
	}
	if x, err := s.Quantile(api.Ratio{Num: 1, Den: 2}); err != api.OK || x < 495 || x > 505 {
		t.Errorf("a half: %d, %d", x, err)
	}
	for x := range int64(1000) {
		r, err := s.Quantile(api.Ratio{Num: uint64(x + 1), Den: 1000})
		if err != api.OK {
			t.Fatalf("place %d: %d", x+1, err)
		}
		mustLie(t, r, x+1, c.Part)
	}
	mustEnd(t, s, 1, 1000, true)
}

// P14.1: New of all configs that the tests go through, of the coarsest closeness, and of fine ones whose cells just have room: an empty sketch.
func TestNew(t *testing.T) {
	for _, c := range append(configs(), config(1<<31-1, 1<<31, bins.Small, 17), config(1, 203, bins.Great, 1), config(5, 1016, bins.Great, limit), config(10566206, 1<<31, bins.Small, limit)) {
		mustHold(t, made(t, c), modelOf(t, c))
	}
}

// P14.1: New of what can't be: the table's errors stand ahead of the bins' ones, and nothing stands beside an error.
func TestNewBad(t *testing.T) {
	for _, x := range []struct {
		c    logsk.Config
		want api.Errno
	}{
		{logsk.Config{}, api.ErrArg},
		{config(0, 10, bins.Great, 5), api.ErrArg}, {config(10, 10, bins.Great, 5), api.ErrArg}, {config(11, 10, bins.Small, 5), api.ErrArg},
		{config(1, 0, bins.Small, 5), api.ErrArg}, {config(1<<31, 1<<31+1, bins.Great, 5), api.ErrArg}, {config(math.MaxUint64, 2, bins.Great, 5), api.ErrArg},
		{config(1, math.MaxUint64, bins.Great, 5), api.ErrArg}, {config(0, 0, bins.Great, limit+1), api.ErrArg},
		{config(1, 1<<31, bins.Great, 5), api.ErrFull}, {config(10566205, 1<<31, bins.Small, 5), api.ErrFull}, {config(1, 1000, bins.Small, limit), api.ErrFull},
		{config(1, 1000, 2, 5), api.ErrFull}, {config(1, 1000, bins.Great, 0), api.ErrFull}, {config(1, 1<<31, -1, -1), api.ErrFull},
		{config(1, 10, 2, 5), api.ErrArg}, {config(1, 10, -1, 5), api.ErrArg}, {config(1, 10, 1<<32, 5), api.ErrArg},
		{config(1, 10, bins.Great, 0), api.ErrArg}, {config(1, 10, bins.Small, -1), api.ErrArg}, {config(1, 10, bins.Great, limit+1), api.ErrArg},
		{config(1, 10, bins.Small, math.MinInt), api.ErrArg}, {config(1, 10, bins.Great, math.MaxInt), api.ErrArg}, {config(1, 10, bins.Great, 1<<32+1), api.ErrArg},
	} {
		if s, err := logsk.New(x.c); s != nil || err != x.want {
			t.Errorf("New of %v: %v, %d, not %d", x.c, s, err, x.want)
		}
	}
}

// P14.1: a nil sketch has nothing, does nothing, and ErrNil stands ahead of all other errors.
func TestNil(t *testing.T) {
	var none *logsk.Sketch
	o := filled(t, config(1, 10, bins.Great, 5), often{7, count})
	for _, x := range []int64{least, -1, 0, 1, greatest} {
		for _, n := range []uint64{0, 1, count, count + 1, math.MaxUint64} {
			if err := none.Put(x, n); err != api.ErrNil {
				t.Errorf("Put of %d, %d: %d", x, n, err)
			}
		}
		if none.Set(x, x) || none.Set(x, greatest) || none.Set(0, x) {
			t.Errorf("Set with %d", x)
		}
	}
	for _, p := range []api.Ratio{{}, {Num: 1, Den: 2}, {Num: 3, Den: 2}, {Num: 1, Den: 1}} {
		if x, err := none.Quantile(p); x != 0 || err != api.ErrNil {
			t.Errorf("Quantile of %v: %d, %d", p, x, err)
		}
	}
	for _, err := range []api.Errno{none.Join(none), none.Join(nil), none.Join(o), o.Join(none), o.Join(nil)} {
		if err != api.ErrNil {
			t.Errorf("Join: %d", err)
		}
	}
	none.Reset()
	if none.Bins() != nil || none.Config() != (logsk.Config{}) {
		t.Error("a nil sketch has something")
	}
	mustEnd(t, none, 0, 0, false)
	mustHold(t, o, modelOf(t, o.Config(), often{7, count}))
}

// P14.1: Config answers the closeness as it was handed in, not in its least numbers.
func TestConfig(t *testing.T) {
	for _, c := range []logsk.Config{config(2, 20, bins.Small, 3), config(50, 100, bins.Great, limit), config(1, 10, bins.Great, 1)} {
		s := made(t, c)
		mustPut(t, s, often{5, 1})
		if s.Config() != c {
			t.Errorf("Config: %v, not %v", s.Config(), c)
		}
		s.Reset()
		if s.Config() != c {
			t.Errorf("Config behind Reset: %v, not %v", s.Config(), c)
		}
	}
}

// P14.1: by hand, with two cells kept that hold one magnitude each: what is lost, what is answered, and that the ends know lost ones too.
func TestByHand(t *testing.T) {
	list := []often{{-4, 1}, {-3, 1}, {-1, 2}, {0, 1}, {1, 1}, {2, 1}, {4, 2}, {5, 1}}
	for _, x := range []struct {
		side bins.Side
		want []int64
		errs []int
	}{
		{bins.Great, []int64{-4, -3, 0, 0, 0, 0, 0, 4, 4, 5}, []int{3, 4, 6, 7}},
		{bins.Small, []int64{0, 0, -1, -1, 0, 1, 2, 0, 0, 0}, []int{1, 2, 8, 9, 10}},
	} {
		s := filled(t, config(1, 100, x.side, 2), list...)
		for i, want := range x.want {
			wantErr := api.OK
			if slices.Contains(x.errs, i+1) {
				wantErr = api.ErrCells
			}
			mustAsk(t, s, api.Ratio{Num: uint64(i + 1), Den: 10}, want, wantErr)
			mustAsk(t, s, api.Ratio{Num: uint64(i)*10 + 1, Den: 100}, want, wantErr)
		}
		mustEnd(t, s, -4, 5, true)
	}
}

// P14.1: what stands for a cell is cut to the least and the greatest value, where these lie in the same cell.
func TestCut(t *testing.T) {
	half := api.Ratio{Num: 1, Den: 2}
	wide := config(1, 2, bins.Great, limit)
	table, err := cells.New(wide.Part)
	if err != api.OK {
		t.Fatal(err)
	}
	for _, m := range []uint64{100, 1000, 1 << 40, 1<<63 - 1} {
		i, _ := table.Index(m)
		low, high := table.Range(i)
		rep := int64(table.Rep(i))
		top := int64(min(high, greatest))
		for _, x := range []int64{int64(low), rep - 1, rep, rep + 1, top} {
			if x < int64(low) || x > top {
				continue
			}
			// Alone it is least and greatest.
			mustAsk(t, filled(t, wide, often{x, 3}), half, x, api.OK)
			mustAsk(t, filled(t, wide, often{-x, 3}), half, -x, api.OK)
			mustAsk(t, filled(t, wide, often{x, 3}, often{-x, 2}), half, max(-x, min(x, rep)), api.OK)
			mustAsk(t, filled(t, wide, often{x, 3}, often{0, 2}), half, min(x, rep), api.OK)
			mustAsk(t, filled(t, wide, often{-x, 3}, often{0, 2}), half, max(-x, -rep), api.OK)
			if x < greatest {
				mustAsk(t, filled(t, wide, often{x, 3}, often{greatest, 2}), half, max(x, rep), api.OK)
				mustAsk(t, filled(t, wide, often{-x, 3}, often{least, 2}), half, min(-x, -rep), api.OK)
			}
		}
	}
	mustAsk(t, filled(t, wide, often{least, 3}), half, least, api.OK)
	mustAsk(t, filled(t, wide, often{least, 3}, often{0, 1}), half, -int64(table.Rep(table.Len()-1)), api.OK)
}

// P14.1: the least and the greatest value of all configs, in either order, kept or lost; noughts alone are values, too.
func TestEnds(t *testing.T) {
	lists := [][]often{
		{{0, 3}}, {{5, 1}}, {{-5, 1}}, {{5, 1}, {0, 1}}, {{-5, 1}, {0, 1}}, {{least, 1}}, {{greatest, 1}}, {{least, 1}, {greatest, 2}},
		{{1, 1}, {1000, 2}, {1000000, 3}}, {{-1, 1}, {-1000, 2}, {-1000000, 3}}, {{100, 1}, {101, 1}, {99, 1}}, {{-100, 1}, {-101, 1}, {-99, 1}},
	}
	for _, c := range configs() {
		for _, list := range lists {
			mustHold(t, filled(t, c, list...), modelOf(t, c, list...))
			back := slices.Clone(list)
			slices.Reverse(back)
			mustHold(t, filled(t, c, back...), modelOf(t, c, list...))
		}
	}
}

// P14.1: Put of none is ErrArg, whether there is room or not; too many are ErrFull; neither changes anything, the ends least of all.
func TestPutBad(t *testing.T) {
	for _, side := range []bins.Side{bins.Great, bins.Small} {
		c := config(1, 10, side, 2)
		for _, list := range [][]often{nil, {{5, 1}}, {{-5, count}}, {{0, count}}, {{5, count}}, {{-5, 1 << 61}, {0, 1 << 62}, {5, 1<<61 - 1}}, {{1, 3}, {1000, count - 3}}, {{7, count - 9}, {-7, 8}}} {
			s, m := filled(t, c, list...), modelOf(t, c, list...)
			for _, x := range []int64{least, -5, -1, 0, 1, 5, greatest} {
				mustRefuse(t, s, m, x, 0, api.ErrArg)
				for _, n := range []uint64{count + 1, 1<<63 + 1, math.MaxUint64} {
					mustRefuse(t, s, m, x, n, api.ErrFull)
				}
				if m.total().Uint64() == count {
					mustRefuse(t, s, m, x, 1, api.ErrFull)
				}
			}
		}
	}
}

// P14.1: just MaxCount have room, and not 1 more, wherever the value lies.
func TestPutJust(t *testing.T) {
	for _, side := range []bins.Side{bins.Great, bins.Small} {
		c := config(1, 10, side, 2)
		list := []often{{-5, 1 << 60}, {0, 1 << 61}, {2, 1 << 60}, {9, count - 1<<61 - 2<<60 - 10}}
		for _, x := range []int64{least, -9, -5, 0, 2, 9, greatest} {
			s, m := filled(t, c, list...), modelOf(t, c, list...)
			mustRefuse(t, s, m, x, 11, api.ErrFull)
			mustPut(t, s, often{x, 10})
			m.put(x, 10)
			mustHold(t, s, m)
			mustRefuse(t, s, m, x, 1, api.ErrFull)
		}
	}
}

// P14.1: Quantile's errors: a part that can't be stands ahead of no values, that ahead of a lost one.
func TestQuantileBad(t *testing.T) {
	bad := []api.Ratio{{Num: 0, Den: 0}, {Num: 1, Den: 0}, {Num: 3, Den: 2}, {Num: math.MaxUint64, Den: math.MaxUint64 - 1}}
	for _, c := range configs() {
		empty, some := made(t, c), filled(t, c, often{1, 2}, often{1 << 62, 1}, often{-1, 3}, often{-1 << 62, 1})
		for _, p := range bad {
			mustAsk(t, empty, p, 0, api.ErrArg)
			mustAsk(t, some, p, 0, api.ErrArg)
		}
		for _, p := range []api.Ratio{{Num: 0, Den: 1}, {Num: 1, Den: 2}, {Num: 1, Den: 1}} {
			mustAsk(t, empty, p, 0, api.ErrNone)
		}
	}
}

// P14.1: Bins are the sketch's own ones, at all times, not a copy: what is put stands in those that were asked for ahead of it, and Reset empties them.
func TestBins(t *testing.T) {
	s, o := made(t, config(1, 10, bins.Great, 5)), filled(t, config(1, 10, bins.Great, 5), often{3, 4})
	b := s.Bins()
	mustPut(t, s, often{7, 2}, often{0, 3})
	if b.Total() != 5 || b.Zero() != 3 || s.Bins() != b {
		t.Errorf("behind Put: %d, %d", b.Total(), b.Zero())
	}
	if err := s.Join(o); err != api.OK || b.Total() != 9 || s.Bins() != b || o.Bins() == b {
		t.Errorf("behind Join: %d, %d", err, b.Total())
	}
	if low, high := b.Rank(3); low != 3 || high != 7 {
		t.Errorf("Rank of 3: %d, %d", low, high)
	}
	s.Reset()
	if b.Total() != 0 || s.Bins() != b || o.Bins().Total() != 4 {
		t.Errorf("behind Reset: %d", b.Total())
	}
	mustPut(t, s, often{7, 2})
	if b.Total() != 2 {
		t.Errorf("behind Reset and Put: %d", b.Total())
	}
}

// P14.1: behind Reset it is as New answered it, whatever it had; what is put then is all it has.
func TestReset(t *testing.T) {
	lists := [][]often{nil, {{5, 1}}, {{-5, 1}}, {{0, 1}}, {{least, 1}, {greatest, count - 1}}, {{1, 1}, {1000, 2}, {-7, 3}}}
	for _, c := range configs() {
		for _, list := range lists {
			s := filled(t, c, list...)
			s.Reset()
			if !reflect.DeepEqual(s, made(t, c)) {
				t.Fatalf("Reset of %v by %v isn't as New", list, c)
			}
			mustHold(t, s, modelOf(t, c))
			for _, next := range lists {
				mustPut(t, s, next...)
				mustHold(t, s, modelOf(t, c, next...))
				s.Reset()
			}
		}
	}
}

// P14.1: many calls in every order, against all that was put, with every call asked on the way.
func TestMany(t *testing.T) {
	random := rand.New(rand.NewSource(14))
	errs, lost := map[api.Errno]int{}, 0
	for _, c := range configs() {
		for range 12 {
			s, m := made(t, c), modelOf(t, c)
			shift := random.Intn(64)
			for range 1 + random.Intn(25) {
				x, n := value(random), random.Uint64()>>shift
				switch random.Intn(30) {
				case 0:
					n = 0
				case 1:
					s.Reset()
					clear(m.all)
				}
				want := m.put(x, n)
				errs[want]++
				if err := s.Put(x, n); err != want {
					t.Fatalf("Put of %d, %d: %d, not %d", x, n, err, want)
				}
				mustHold(t, s, m)
			}
			if below, above := s.Bins().Lost(); below != 0 && above != 0 {
				lost++
			}
		}
	}
	if errs[api.OK] < 1000 || errs[api.ErrArg] < 50 || errs[api.ErrFull] < 50 || lost < 50 {
		t.Errorf("too few of a kind: %v, %d", errs, lost)
	}
}

// P14.2: what is answered of each place lies so close to the very value there, unless its part is lost, which just ErrCells tells.
func TestClose(t *testing.T) {
	random := rand.New(rand.NewSource(142))
	kept, lost := 0, 0
	for _, c := range configs() {
		for range 10 {
			s, m := made(t, c), modelOf(t, c)
			var all []int64
			for range 1 + random.Intn(60) {
				x, n := value(random), 1+random.Intn(4)
				mustPut(t, s, often{x, uint64(n)})
				m.put(x, uint64(n))
				all = append(all, slices.Repeat([]int64{x}, n)...)
			}
			slices.Sort(all)
			for i, x := range all {
				r, err := s.Quantile(api.Ratio{Num: uint64(i + 1), Den: uint64(len(all))})
				if !m.kept(x) {
					lost++
					if r != 0 || err != api.ErrCells {
						t.Fatalf("place %d is lost: %d, %d", i+1, r, err)
					}
					continue
				}
				kept++
				if err != api.OK || r < all[0] || r > all[len(all)-1] {
					t.Fatalf("place %d: %d, %d", i+1, r, err)
				}
				mustLie(t, r, x, c.Part)
			}
		}
	}
	if kept < 1000 || lost < 1000 {
		t.Errorf("too few of a kind: %d, %d", kept, lost)
	}
}
