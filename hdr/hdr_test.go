package hdr_test

import (
	"math"
	"math/rand"
	"reflect"
	"slices"
	"testing"

	"ogive/api"
	"ogive/hdr"
)

// P15.1, P15.2: the chapter's example; of all of 1 to 1000 each place's answer is as close, by any number of digits.
func TestExample(t *testing.T) {
	for digits := 1; digits <= 4; digits++ {
		s := made(t, config(digits, 0))
		for x := range int64(1000) {
			mustPut(t, s, often{x + 1, 1})
		}
		if x, err := s.Quantile(api.Ratio{Num: 1, Den: 2}); digits == 2 && (err != api.OK || x < 495 || x > 505) {
			t.Errorf("a half: %d, %d", x, err)
		}
		for x := range int64(1000) {
			r, err := s.Quantile(api.Ratio{Num: uint64(x + 1), Den: 1000})
			if err != api.OK {
				t.Fatalf("place %d: %d", x+1, err)
			}
			mustLie(t, r, x+1, digits)
		}
		mustEnd(t, s, 1, 1000, true)
	}
}

// P15.1: New of all configs that can be: an empty sketch.
func TestNew(t *testing.T) {
	for _, c := range configs() {
		mustHold(t, made(t, c), modelOf(c))
	}
}

// P15.1: New of what can't be is ErrArg, and nothing beside it; so is Load.
func TestNewBad(t *testing.T) {
	for _, c := range []hdr.Config{
		{}, config(0, 5), config(-1, 0), config(5, 0), config(5, 5), config(math.MaxInt, 0), config(math.MinInt, 0), config(1<<32+1, 0), config(-1<<63+2, 7),
		config(1, most+1), config(2, most+1), config(4, math.MaxUint64), config(0, math.MaxUint64), config(5, most+1),
	} {
		if s, err := hdr.New(c); s != nil || err != api.ErrArg {
			t.Errorf("New of %v: %v, %d", c, s, err)
		}
		if s, err := hdr.Load(c, nil, []api.Pair{{Index: 1, Count: 1}}, 0, 1, 1); s != nil || err != api.ErrArg {
			t.Errorf("Load of %v: %v, %d", c, s, err)
		}
	}
}

// P15.1: a nil sketch has nothing, does nothing, and ErrNil stands ahead of all other errors; Like answers the value itself.
func TestNil(t *testing.T) {
	var none *hdr.Sketch
	o := filled(t, config(1, 10), often{7, count})
	for _, x := range []int64{least, -40, -1, 0, 1, 40, greatest} {
		for _, n := range []uint64{0, 1, count, count + 1, math.MaxUint64} {
			if err := none.Put(x, n); err != api.ErrNil {
				t.Errorf("Put of %d, %d: %d", x, n, err)
			}
		}
		if low, high := none.Like(x); low != x || high != x {
			t.Errorf("Like of %d: %d, %d", x, low, high)
		}
		if low, high := none.Rank(x); low != 0 || high != 0 {
			t.Errorf("Rank of %d: %d, %d", x, low, high)
		}
	}
	for _, p := range []api.Ratio{{}, {Num: 1, Den: 2}, {Num: 3, Den: 2}, {Num: 1, Den: 1}} {
		if x, err := none.Quantile(p); x != 0 || err != api.ErrNil {
			t.Errorf("Quantile of %v: %d, %d", p, x, err)
		}
	}
	for _, err := range []api.Errno{none.Join(none), none.Join(nil), none.Join(o), o.Join(none), o.Join(nil)} {
		if err != api.ErrNil {
			t.Errorf("Join: %d", err)
		}
	}
	minus, plus := none.Rows()
	if none.Total() != 0 || none.Zero() != 0 || len(minus) != 0 || len(plus) != 0 || none.Config() != (hdr.Config{}) {
		t.Error("a nil sketch has something")
	}
	mustEnd(t, none, 0, 0, false)
	mustHold(t, o, modelOf(o.Config(), often{7, count}))
}

// P15.1: by hand, one digit: up to 31 each magnitude is a span, 32 and 33 are one, and 34 and 35.
func TestByHand(t *testing.T) {
	s := filled(t, config(1, 0), often{-35, 1}, often{-33, 1}, often{-32, 1}, often{-31, 1}, often{0, 2}, often{31, 1}, often{33, 1}, often{34, 2})
	minus, plus := s.Rows()
	if !slices.Equal(minus, []api.Pair{{Index: 31, Count: 1}, {Index: 32, Count: 2}, {Index: 33, Count: 1}}) || !slices.Equal(plus, []api.Pair{{Index: 31, Count: 1}, {Index: 32, Count: 1}, {Index: 33, Count: 2}}) {
		t.Errorf("Rows: %v, %v", minus, plus)
	}
	for i, want := range []int64{-34, -32, -32, -31, 0, 0, 31, 32, 34, 34} {
		mustAsk(t, s, api.Ratio{Num: uint64(i + 1), Den: 10}, want, api.OK)
		mustAsk(t, s, api.Ratio{Num: uint64(i)*10 + 1, Den: 100}, want, api.OK)
	}
	for _, x := range []struct {
		x         int64
		low, high uint64
	}{{-36, 0, 0}, {-35, 0, 1}, {-34, 0, 1}, {-33, 1, 3}, {-32, 1, 3}, {-31, 3, 4}, {-30, 4, 4}, {-1, 4, 4}, {0, 6, 6}, {1, 6, 6}, {30, 6, 6}, {31, 6, 7}, {32, 7, 8}, {33, 7, 8}, {34, 8, 10}, {35, 8, 10}, {36, 10, 10}} {
		mustRank(t, s, x.x, x.low, x.high)
	}
	mustLike(t, s, -33, -33, -32)
	mustLike(t, s, -31, -31, -31)
	mustLike(t, s, 0, 0, 0)
	mustLike(t, s, 32, 32, 33)
	mustLike(t, s, 64, 64, 67)
	mustLike(t, s, -64, -67, -64)
	mustEnd(t, s, -35, 34, true)
}

// P15.1: the spans at both ends of all values: that of the least value is its alone, above 0 the last one ends with the greatest value.
func TestLikeEdges(t *testing.T) {
	for digits, width := range map[int]int64{1: 1 << 58, 2: 1 << 55, 3: 1 << 52, 4: 1 << 48} {
		s := made(t, config(digits, 7))
		mustLike(t, s, least, least, least)
		for _, x := range []int64{greatest, greatest - 1, greatest - width + 1} {
			mustLike(t, s, x, greatest-width+1, greatest)
			mustLike(t, s, -x, -greatest, -(greatest - width + 1))
		}
		mustLike(t, s, greatest-width, greatest-2*width+1, greatest-width)
	}
}

// P15.1: what stands for a span is cut to the least and the greatest value, where these lie in the same span.
func TestCut(t *testing.T) {
	half := api.Ratio{Num: 1, Den: 2}
	c := config(1, 0)
	for _, x := range []struct{ low, rep, high int64 }{{32, 32, 33}, {1024, 1055, 1087}, {greatest - 1<<58 + 1, greatest - 1<<57, greatest}} {
		for _, v := range []int64{x.low, x.rep - 1, x.rep, x.rep + 1, x.high} {
			if v < x.low || v > x.high {
				continue
			}
			// Alone it is least and greatest.
			mustAsk(t, filled(t, c, often{v, 3}), half, v, api.OK)
			mustAsk(t, filled(t, c, often{-v, 3}), half, -v, api.OK)
			mustAsk(t, filled(t, c, often{v, 3}, often{-v, 2}), half, min(v, x.rep), api.OK)
			mustAsk(t, filled(t, c, often{-v, 3}, often{v, 2}), half, max(-v, -x.rep), api.OK)
			mustAsk(t, filled(t, c, often{v, 3}, often{0, 2}), half, min(v, x.rep), api.OK)
			mustAsk(t, filled(t, c, often{-v, 3}, often{0, 2}), half, max(-v, -x.rep), api.OK)
			mustAsk(t, filled(t, c, often{v, 3}, often{x.high, 2}), half, max(v, x.rep), api.OK)
			mustAsk(t, filled(t, c, often{-v, 3}, often{-x.high, 2}), half, min(-v, -x.rep), api.OK)
		}
	}
	mustAsk(t, filled(t, c, often{least, 3}, often{greatest, 2}), half, least, api.OK)
}

// P15.1: the least and the greatest value, in either order; noughts alone are values, too.
func TestEnds(t *testing.T) {
	lists := [][]often{
		{{0, 3}}, {{1, 1}}, {{-1, 1}}, {{1, 1}, {0, 1}}, {{-1, 1}, {0, 1}}, {{5, 1}, {-3, 1}, {9, 2}}, {{32, 1}, {33, 1}}, {{-32, 1}, {-33, 1}},
		{{least, 1}}, {{greatest, 1}}, {{least, 1}, {greatest, 2}}, {{1, 1}, {1000, 2}, {1000000, 3}}, {{-1, 1}, {-1000, 2}, {-1000000, 3}},
	}
	for digits := 1; digits <= 4; digits++ {
		for _, limit := range []uint64{0, most} {
			c := config(digits, limit)
			for _, list := range lists {
				mustHold(t, filled(t, c, list...), modelOf(c, list...))
				back := slices.Clone(list)
				slices.Reverse(back)
				mustHold(t, filled(t, c, back...), modelOf(c, list...))
			}
		}
	}
}

// P15.1: a value whose magnitude is the limit is taken, and 1 more is ErrRange, whatever its span; 0 is no limit.
func TestLimit(t *testing.T) {
	for digits := 1; digits <= 4; digits++ {
		for _, high := range []int64{1, 2, 31, 32, 33, 40, 1000, 1 << 40, 1<<62 + 5, greatest - 1} {
			c := config(digits, uint64(high))
			s, m := filled(t, c, often{high, 1}, often{-high, 2}, often{0, 3}), modelOf(c, often{high, 1}, often{-high, 2}, often{0, 3})
			mustHold(t, s, m)
			for _, x := range []int64{high + 1, -high - 1, greatest, -greatest, least} {
				mustRefuse(t, s, m, x, 1, api.ErrRange)
				mustRefuse(t, made(t, c), modelOf(c), x, count, api.ErrRange)
			}
		}
		tight, m := filled(t, config(digits, greatest), often{greatest, 1}, often{-greatest, 1}), modelOf(config(digits, greatest), often{greatest, 1}, often{-greatest, 1})
		mustRefuse(t, tight, m, least, 1, api.ErrRange)
		for _, limit := range []uint64{0, most} {
			c := config(digits, limit)
			mustHold(t, filled(t, c, often{greatest, 1}, often{least, 2}), modelOf(c, often{greatest, 1}, often{least, 2}))
		}
	}
}

// P15.1: Put's errors: none at all stands ahead of a value that is too great, that ahead of too many; none changes anything, the ends least of all.
func TestPutBad(t *testing.T) {
	for _, c := range []hdr.Config{config(1, 0), config(2, 100), config(4, most)} {
		for _, list := range [][]often{nil, {{5, 1}}, {{-5, count}}, {{0, count}}, {{5, count}}, {{-5, 1 << 61}, {0, 1 << 62}, {5, 1<<61 - 1}}, {{1, 3}, {100, count - 3}}, {{7, count - 9}, {-7, 8}}} {
			s, m := filled(t, c, list...), modelOf(c, list...)
			for _, x := range []int64{least, -101, -100, -5, -1, 0, 1, 5, 100, 101, greatest} {
				mustRefuse(t, s, m, x, 0, api.ErrArg)
				full := api.ErrFull
				if !m.takes(x) {
					full = api.ErrRange
				}
				for _, n := range []uint64{count + 1, 1<<63 + 1, math.MaxUint64} {
					mustRefuse(t, s, m, x, n, full)
				}
				if m.total().Uint64() == count {
					mustRefuse(t, s, m, x, 1, full)
				}
			}
		}
	}
}

// P15.1: just MaxCount have room, and not 1 more, wherever the value lies.
func TestPutJust(t *testing.T) {
	c := config(1, 0)
	list := []often{{-5, 1 << 60}, {0, 1 << 61}, {2, 1 << 60}, {9, count - 1<<61 - 2<<60 - 10}}
	for _, x := range []int64{least, -9, -5, 0, 2, 9, greatest} {
		s, m := filled(t, c, list...), modelOf(c, list...)
		mustRefuse(t, s, m, x, 11, api.ErrFull)
		mustPut(t, s, often{x, 10})
		m.put(x, 10)
		mustHold(t, s, m)
		mustRefuse(t, s, m, x, 1, api.ErrFull)
	}
}

// P15.1: just MaxCells spans have room on each side, and not 1 more; in those that are there, on the other side, and among noughts there is room still.
func TestPutSpans(t *testing.T) {
	for digits := 2; digits <= 4; digits++ {
		for _, sign := range []int64{1, -1} {
			c := config(digits, 0)
			s, m := made(t, c), modelOf(c)
			x := int64(1)
			for range limit {
				mustPut(t, s, often{sign * x, 2})
				m.all[sign*x] += 2
				x = int64(m.span(x).high) + 1
			}
			mustTell(t, s, m)
			for _, y := range []int64{x, x + 1, x + x/2, greatest} {
				if err := s.Put(sign*y, 1); err != api.ErrFull {
					t.Fatalf("Put of %d: %d", sign*y, err)
				}
				mustTell(t, s, m)
			}
			for _, o := range []often{{sign, 3}, {sign * (x - 1), 1}, {0, 4}, {-sign * x, 5}, {-sign, 1}} {
				mustPut(t, s, o)
				m.all[o.x] += o.n
				mustTell(t, s, m)
			}
			mustTell(t, again(t, s), m)
		}
	}
}

// P15.1: one digit has fewer spans than MaxCells: all of them have room, on both sides, and each one is asked for.
func TestAllSpans(t *testing.T) {
	c := config(1, 0)
	s, m := made(t, c), modelOf(c)
	all := []int64{least, 0}
	for x := uint64(1); x < most; x = m.span(int64(x)).high + 1 {
		all = append(all, int64(x), -int64(x))
	}
	for _, x := range all {
		mustPut(t, s, often{x, 1})
		m.all[x]++
	}
	mustTell(t, s, m)
	slices.Sort(all)
	for i, x := range all {
		low, high := m.like(x)
		want := int64(0)
		if x != 0 {
			want = low + (high-low)/2
			if x < 0 {
				want = high - (high-low)/2
			}
		}
		// The last span above 0 has its least value alone, and so that one is the greatest.
		mustAsk(t, s, api.Ratio{Num: uint64(i + 1), Den: uint64(len(all))}, min(want, all[len(all)-1]), api.OK)
		mustLike(t, s, x, low, high)
		if x != 0 {
			mustRank(t, s, x, uint64(i), uint64(i+1))
		}
	}
}

// P15.1: Quantile's errors: a part that can't be stands ahead of no values.
func TestQuantileBad(t *testing.T) {
	bad := []api.Ratio{{Num: 0, Den: 0}, {Num: 1, Den: 0}, {Num: 3, Den: 2}, {Num: math.MaxUint64, Den: math.MaxUint64 - 1}}
	for _, c := range configs() {
		empty, some := made(t, c), filled(t, c, often{1, 2}, often{-1, 3})
		for _, p := range bad {
			mustAsk(t, empty, p, 0, api.ErrArg)
			mustAsk(t, some, p, 0, api.ErrArg)
		}
		for _, p := range []api.Ratio{{Num: 0, Den: 1}, {Num: 1, Den: 2}, {Num: 1, Den: 1}} {
			mustAsk(t, empty, p, 0, api.ErrNone)
		}
	}
}

// P15.1: what is written into a row that was answered isn't seen, and what is put later isn't seen in it.
func TestRowsApart(t *testing.T) {
	c := config(2, 0)
	s, m := filled(t, c, often{5, 1}, often{-7, 2}, often{9, 3}), modelOf(c, often{5, 1}, often{-7, 2}, often{9, 3})
	minus, plus := s.Rows()
	want := [2][]api.Pair{slices.Clone(minus), slices.Clone(plus)}
	mustPut(t, s, often{5, 1}, often{-7, 1}, often{2, 1}, often{-2, 1})
	if !slices.Equal(minus, want[0]) || !slices.Equal(plus, want[1]) {
		t.Errorf("Put is seen in an earlier answer: %v, %v", minus, plus)
	}
	for _, o := range []often{{5, 1}, {-7, 1}, {2, 1}, {-2, 1}} {
		m.put(o.x, o.n)
	}
	minus, plus = s.Rows()
	clear(minus)
	clear(plus)
	_ = append(plus[:1], api.Pair{Index: 1, Count: 1})
	mustHold(t, s, m)
}

// P15.1: many calls in every order, against all that was put, with every call asked on the way.
func TestMany(t *testing.T) {
	random := rand.New(rand.NewSource(15))
	errs := map[api.Errno]int{}
	for _, c := range configs() {
		for range 10 {
			s, m := made(t, c), modelOf(c)
			shift := random.Intn(64)
			for range 1 + random.Intn(25) {
				x, n := value(random), random.Uint64()>>shift
				if random.Intn(30) == 0 {
					n = 0
				}
				want := m.put(x, n)
				errs[want]++
				if err := s.Put(x, n); err != want {
					t.Fatalf("Put of %d, %d: %d, not %d", x, n, err, want)
				}
				mustHold(t, s, m)
			}
		}
	}
	if errs[api.OK] < 1000 || errs[api.ErrArg] < 50 || errs[api.ErrRange] < 200 || errs[api.ErrFull] < 50 {
		t.Errorf("too few of a kind: %v", errs)
	}
}

// P15.1: in which order values are put plays no part.
func TestOrder(t *testing.T) {
	random := rand.New(rand.NewSource(151))
	for digits := 1; digits <= 4; digits++ {
		c := config(digits, 0)
		var list []often
		for range 40 {
			list = append(list, often{value(random), 1 + uint64(random.Intn(9))})
		}
		first := filled(t, c, list...)
		for range 10 {
			random.Shuffle(len(list), func(i, j int) { list[i], list[j] = list[j], list[i] })
			if next := filled(t, c, list...); !reflect.DeepEqual(next, first) {
				t.Fatalf("%v: %v, not %v", list, next, first)
			}
		}
	}
}

// P15.2: what is answered of each place lies so close to the very value there; there is always an answer, from the least to the greatest value.
func TestClose(t *testing.T) {
	random := rand.New(rand.NewSource(152))
	for digits := 1; digits <= 4; digits++ {
		for range 60 {
			s := made(t, config(digits, 0))
			var all []int64
			for range 1 + random.Intn(60) {
				x, n := value(random), 1+random.Intn(4)
				mustPut(t, s, often{x, uint64(n)})
				all = append(all, slices.Repeat([]int64{x}, n)...)
			}
			slices.Sort(all)
			for i, x := range all {
				r, err := s.Quantile(api.Ratio{Num: uint64(i + 1), Den: uint64(len(all))})
				if err != api.OK || r < all[0] || r > all[len(all)-1] {
					t.Fatalf("place %d: %d, %d", i+1, r, err)
				}
				mustLie(t, r, x, digits)
			}
		}
	}
}
