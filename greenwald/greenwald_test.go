package greenwald_test

import (
	"math/big"
	"math/rand"
	"slices"
	"testing"

	"ogive/api"
	"ogive/greenwald"
	"ogive/tuples"
)

// P19.1: the constants.
func TestConstants(t *testing.T) {
	if greenwald.Buffer != 16 || greenwald.Times != 1024 {
		t.Errorf("%d, %d", greenwald.Buffer, greenwald.Times)
	}
}

// P19.2: the chapter's example, and the document's: 1 to 1000, in whatever order they come.
func TestExample(t *testing.T) {
	s, m := made(t, of(1, 10)), modelOf(of(1, 10))
	for x := range int64(100) {
		mustPut(t, s, often{x + 1, 1})
		m.put(x+1, 1)
	}
	if x, err := s.Quantile(of(1, 2)); x < 40 || x > 60 || err != api.OK {
		t.Errorf("a half of 1 to 100: %d, %d", x, err)
	}
	m.flush()
	mustAsk(t, s, m)
	random := rand.New(rand.NewSource(191))
	for range 50 {
		s := made(t, of(1, 10))
		for _, i := range random.Perm(1000) {
			mustPut(t, s, often{int64(i) + 1, 1})
		}
		if x, err := s.Quantile(of(1, 2)); x < 400 || x > 600 || err != api.OK {
			t.Errorf("a half of 1 to 1000: %d, %d", x, err)
		}
	}
}

// P19.1: by hand: what waits, when it is flushed, in which order, and what stays.
func TestByHand(t *testing.T) {
	s := made(t, of(1, 4))
	must := func(what string, want steps, waits ...int64) {
		t.Helper()
		if got, wait := s.Row(); !slices.Equal(got, want.row()) || !slices.Equal(wait, waits) {
			t.Errorf("%s: %v, %v, not %v, %v", what, got, wait, want, waits)
		}
	}
	for x := int64(16); x > 1; x-- {
		mustPut(t, s, often{x, 1})
	}
	must("15 values", nil, 16, 15, 14, 13, 12, 11, 10, 9, 8, 7, 6, 5, 4, 3, 2)
	mustPut(t, s, often{1, 1})
	// Of 16 values, step and slack may be 8 together.
	must("16 values", steps{{1, 1, 0}, {8, 7, 0}, {16, 8, 0}})
	mustPut(t, s, often{5, 1})
	must("5", steps{{1, 1, 0}, {8, 7, 0}, {16, 8, 0}}, 5)
	if low, high := s.Rank(8); low != 9 || high != 16 {
		t.Errorf("Rank of 8: %d, %d", low, high)
	}
	// 5 has a slack of 6, and 8 has 8 with it.
	must("5, flushed", steps{{1, 1, 0}, {8, 8, 0}, {16, 8, 0}})
	mustPut(t, s, often{9, 1}, often{20, 1}, often{9, 1}, often{-3, 1})
	must("four values", steps{{1, 1, 0}, {8, 8, 0}, {16, 8, 0}}, 9, 20, 9, -3)
	// Of 21 values there may be 10: 16 and one 9 go into 20, which then has 10; the other 9 stays, with a slack of 7; 1 goes into 8.
	if x, err := s.Quantile(of(1, 2)); x != 8 || err != api.OK {
		t.Errorf("a half: %d, %d", x, err)
	}
	must("four values, flushed", steps{{-3, 1, 0}, {8, 9, 0}, {9, 1, 7}, {20, 10, 0}})
	s.Flush()
	must("flushed again", steps{{-3, 1, 0}, {8, 9, 0}, {9, 1, 7}, {20, 10, 0}})
}

// P19.1: a value that comes often waits that often, one behind the other.
func TestOften(t *testing.T) {
	s, single := made(t, of(1, 2)), made(t, of(1, 2))
	mustPut(t, s, often{7, 40})
	for range 40 {
		mustPut(t, single, often{7, 1})
	}
	row, waits := s.Row()
	want := steps{{7, 1, 0}, {7, 31, 0}}.row()
	if !slices.Equal(row, want) || !slices.Equal(waits, slices.Repeat([]int64{7}, 8)) || s.Total() != 40 {
		t.Errorf("%v, %v, %d values", row, waits, s.Total())
	}
	for _, a := range closes() {
		for _, n := range []uint64{1, 2, 15, 16, 17, 31, 32, 33, 100, 1023, 1024} {
			if a.Den > 1<<30 && n > 100 {
				continue
			}
			list := []often{{3, 5}, {9, n}, {4, 2}}
			mustHold(t, filled(t, a, list...), modelOf(a, list...))
		}
	}
}

// closeness is whether one can be, by numbers without a limit.
func closeness(a api.Ratio) bool {
	twice := new(big.Int).Mul(big.NewInt(2), whole(a.Num))
	return a.Num > 0 && twice.Cmp(whole(a.Den)) <= 0 && whole(a.Den).Cmp(big.NewInt(1<<31)) <= 0
}

// P19.1: Good, New and Load by all closenesses of low numbers, and at the edges; of what can't be it is ErrArg, and nothing beside it.
func TestCloseness(t *testing.T) {
	var list []api.Ratio
	for num := range uint64(30) {
		for den := range uint64(60) {
			list = append(list, of(num, den))
		}
	}
	edges := []uint64{0, 1, 2, 1<<30 - 1, 1 << 30, 1<<30 + 1, 1<<31 - 2, 1<<31 - 1, 1 << 31, 1<<31 + 1, 1 << 32, 1<<32 + 2, 1<<33 - 1, 1 << 62, 1<<63 - 1, 1 << 63, 1<<63 + 1, all - 1, all}
	for _, num := range edges {
		for _, den := range edges {
			list = append(list, of(num, den))
		}
	}
	for _, a := range list {
		want := closeness(a)
		if greenwald.Good(a) != want {
			t.Fatalf("Good of %v: %t", a, !want)
		}
		if !want {
			mustNotLoad(t, a, nil, nil)
			mustNotLoad(t, a, steps{{1, 1, 0}}.row(), []int64{2})
			if s, err := greenwald.New(a); s != nil || err != api.ErrArg {
				t.Fatalf("New of %v: %v, %d", a, s, err)
			}
			continue
		}
		mustHold(t, made(t, a), modelOf(a))
	}
}

// P19.1: a nil sketch has nothing, does nothing, and ErrNil stands ahead of all other errors.
func TestNil(t *testing.T) {
	var none *greenwald.Sketch
	o := filled(t, of(1, 4), often{7, 20})
	for _, n := range []uint64{0, 1, 1024, 1025, count, count + 1, all} {
		if err := none.Put(int64(n), n); err != api.ErrNil {
			t.Errorf("Put of %d, %d: %d", int64(n), n, err)
		}
		if low, high := none.Rank(int64(n)); low != 0 || high != 0 {
			t.Errorf("Rank of %d: %d, %d", int64(n), low, high)
		}
	}
	for _, p := range []api.Ratio{{}, of(1, 2), of(3, 2), of(1, 1)} {
		if x, err := none.Quantile(p); x != 0 || err != api.ErrNil {
			t.Errorf("Quantile of %v: %d, %d", p, x, err)
		}
	}
	for _, err := range []api.Errno{none.Join(none), none.Join(nil), none.Join(o), o.Join(none), o.Join(nil)} {
		if err != api.ErrNil {
			t.Errorf("Join: %d", err)
		}
	}
	none.Flush()
	row, waits := none.Row()
	low, high, some := none.Ends()
	if none.Total() != 0 || none.Part() != (api.Ratio{}) || len(row) != 0 || len(waits) != 0 || low != 0 || high != 0 || some {
		t.Error("a nil sketch has something")
	}
	// The one beside it still has what waits.
	mustHold(t, o, modelOf(of(1, 4), often{7, 20}))
}

// P19.1: without values: no error of a part is left out, and nothing is found.
func TestEmpty(t *testing.T) {
	for _, a := range closes() {
		s := made(t, a)
		for _, p := range []api.Ratio{{}, of(1, 0), of(2, 1), of(all, all-1)} {
			if x, err := s.Quantile(p); x != 0 || err != api.ErrArg {
				t.Errorf("Quantile of %v: %d, %d", p, x, err)
			}
		}
		for _, p := range []api.Ratio{of(0, 1), of(1, 2), of(1, 1)} {
			if x, err := s.Quantile(p); x != 0 || err != api.ErrNone {
				t.Errorf("Quantile of %v: %d, %d", p, x, err)
			}
		}
		mustHold(t, s, modelOf(a))
	}
}

// P19.1: all sketches that a few calls come to, the flushing ones of which differ in when they flush.
func TestFew(t *testing.T) {
	calls := []func(s *greenwald.Sketch, m *model) (api.Errno, api.Errno){
		func(s *greenwald.Sketch, m *model) (api.Errno, api.Errno) { return s.Put(0, 1), m.put(0, 1) },
		func(s *greenwald.Sketch, m *model) (api.Errno, api.Errno) { return s.Put(2, 3), m.put(2, 3) },
		func(s *greenwald.Sketch, m *model) (api.Errno, api.Errno) { return s.Put(1, 7), m.put(1, 7) },
		func(s *greenwald.Sketch, m *model) (api.Errno, api.Errno) { return s.Put(3, 15), m.put(3, 15) },
		func(s *greenwald.Sketch, m *model) (api.Errno, api.Errno) {
			s.Flush()
			m.flush()
			return api.OK, api.OK
		},
		func(s *greenwald.Sketch, m *model) (api.Errno, api.Errno) { return s.Join(s), m.join(m) },
	}
	for _, a := range []api.Ratio{of(1, 2), of(1, 7), of(1, 40)} {
		for code := range 6 * 6 * 6 * 6 * 6 {
			s, m := made(t, a), modelOf(a)
			for range 5 {
				if got, want := calls[code%6](s, m); got != want {
					t.Fatalf("%d, not %d", got, want)
				}
				code /= 6
			}
			mustTell(t, s, m)
		}
	}
}

// P19.1, P19.2: whatever is put, in whatever order, behind each Put.
func TestPuts(t *testing.T) {
	random := rand.New(rand.NewSource(192))
	for _, a := range closes() {
		for range 3 {
			s, m := made(t, a), modelOf(a)
			for i := range 60 {
				o := often{value(random), 1 + uint64(random.Intn(1<<random.Intn(4)))}
				mustPut(t, s, o)
				m.put(o.x, o.n)
				if i%12 == 5 {
					mustHold(t, s, m)
				} else {
					mustTell(t, s, m)
				}
			}
			mustAsk(t, s, m)
		}
	}
}

// P19.1, P19.2: some sketches of one closeness, and all calls, in any order: also such as flush.
func TestPlay(t *testing.T) {
	random := rand.New(rand.NewSource(193))
	for range 150 {
		a := of(uint64(1+random.Intn(3)), uint64(6+random.Intn(60)))
		sketches, models := []*greenwald.Sketch{made(t, a), made(t, a), made(t, a)}, []*model{modelOf(a), modelOf(a), modelOf(a)}
		for range 60 {
			i, j := random.Intn(3), random.Intn(3)
			s, m := sketches[i], models[i]
			switch random.Intn(9) {
			case 0:
				if len(m.spots)+len(models[j].spots) < 100 {
					mustJoin(t, s, sketches[j], m, models[j])
				}
			case 1:
				mustFlush(t, s, m)
			case 2:
				mustFind(t, s, m)
			case 3:
				mustRank(t, s, m)
			case 4:
				sketches[i] = again(t, s)
			case 5:
				mustRefuse(t, s, m, value(random), 1025+random.Uint64()>>1, api.ErrLong)
			default:
				o := often{value(random), 1 + uint64(random.Intn(1<<random.Intn(6)))}
				mustPut(t, s, o)
				m.put(o.x, o.n)
			}
			for k := range sketches {
				mustTell(t, sketches[k], models[k])
			}
		}
	}
}

// P19.2: many values, rising, falling, few, in any order, and joined by any tree: each place's answer stands closely, and few tuples stay.
func TestMany(t *testing.T) {
	random := rand.New(rand.NewSource(194))
	for _, a := range []api.Ratio{of(1, 2), of(1, 10), of(3, 40), of(1, 100)} {
		for _, way := range []func(i int) int64{
			func(i int) int64 { return int64(i) },
			func(i int) int64 { return int64(-i) },
			func(int) int64 { return random.Int63n(5000) },
			func(int) int64 { return random.Int63n(5) },
			func(i int) int64 { return int64(i % 2 * (10000 - i)) },
		} {
			sketches := []*greenwald.Sketch{made(t, a), made(t, a), made(t, a), made(t, a)}
			m := modelOf(a)
			for i := range 3000 {
				x := way(i)
				mustPut(t, sketches[random.Intn(random.Intn(4)+1)], often{x, 1})
				m.know(x, one())
			}
			for len(sketches) > 1 {
				random.Shuffle(len(sketches), func(i, j int) { sketches[i], sketches[j] = sketches[j], sketches[i] })
				if err := sketches[0].Join(sketches[1]); err != api.OK {
					t.Fatal(err)
				}
				sketches = slices.Delete(sketches, 1, 2)
			}
			mustStandAll(t, sketches[0], m)
		}
	}
}

// mustStandAll holds every place's answer, and every value's rank, against all values.
func mustStandAll(t *testing.T, s *greenwald.Sketch, m *model) {
	t.Helper()
	told := m.truth()
	m.n = told.sums[len(told.sums)-1]
	n := m.n.Uint64()
	if s.Total() != n {
		t.Fatalf("%d values, not %d", s.Total(), n)
	}
	for place := uint64(1); place <= n; place++ {
		x, err := s.Quantile(of(place, n))
		if err != api.OK {
			t.Fatalf("place %d: %d", place, err)
		}
		mustStand(t, m, told, x, whole(place))
	}
	for _, x := range told.values {
		for _, y := range []int64{x - 1, x, x + 1} {
			low, high := s.Rank(y)
			if up, _ := told.upTo(y); up.Cmp(whole(low)) < 0 || up.Cmp(whole(high)) > 0 {
				t.Fatalf("Rank of %d by %v: %d, %d, but there are %s", y, m.a, low, high, up)
			}
		}
	}
	low, high, some := s.Ends()
	if low != told.values[0] || high != told.values[len(told.values)-1] || !some {
		t.Fatalf("Ends by %v: %d, %d, %t", m.a, low, high, some)
	}
	if row, _ := s.Row(); uint64(len(row)) > 12*(m.a.Den/m.a.Num) {
		t.Fatalf("%v: %d tuples", m.a, len(row))
	}
}

// P19.1: what isn't put is refused: no time, then too often, then too many; and nothing changes, nor is anything flushed.
func TestPutBad(t *testing.T) {
	full := steps{{4, 1, 0}, {5, 1 << 62, 0}, {6, 1<<62 - 2, 0}}.row()
	for _, waits := range [][]int64{nil, {9, 2}, {3, 3, 3, 3, 3, 3, 3, 3, 3, 3, 3, 3, 3, 3, 3}} {
		for _, s := range []struct {
			row  []tuples.Tuple
			full bool
		}{{nil, false}, {steps{{4, 1, 0}, {6, 3, 0}}.row(), false}, {full, true}} {
			if s.full {
				// Just one more has room.
				s.row = slices.Clone(s.row)
				s.row[2].Step -= uint64(len(waits)) + 1
			}
			one, m := loaded(t, of(1, 2), s.row, waits), modelOfRow(of(1, 2), s.row, waits)
			for _, x := range []int64{lowest, 0, 5, highest} {
				mustRefuse(t, one, m, x, 0, api.ErrArg)
				for _, n := range []uint64{1025, 1026, 2048, 1 << 32, 1<<32 + 1, count, count + 1, all, all - 1023} {
					mustRefuse(t, one, m, x, n, api.ErrLong)
				}
				if !s.full {
					continue
				}
				for _, n := range []uint64{1024, 17, 2} {
					mustRefuse(t, one, m, x, n, api.ErrFull)
				}
			}
			if s.full {
				mustPut(t, one, often{5, 1})
				m.put(5, 1)
				mustRefuse(t, one, m, 5, 1, api.ErrFull)
			} else {
				mustPut(t, one, often{5, 1024})
				m.put(5, 1024)
			}
			mustHold(t, one, m)
		}
	}
}

// P19.1: as many values as may be: all calls still answer, and no number goes round.
func TestFull(t *testing.T) {
	random := rand.New(rand.NewSource(199))
	for _, a := range []api.Ratio{of(1, 2), of(1<<30, 1<<31), of(2, 5), of(1, 3), of(1, 10), of(3, 100)} {
		for _, n := range []uint64{count, count - 1, count - 15, count - 16, count - 70, 1 << 62, 1<<62 - 1, 1<<62 - 9} {
			s, m := loaded(t, a, fitting(a, n), nil), modelOfRow(a, fitting(a, n), nil)
			for range min(count-n, 70) {
				x := []int64{value(random), lowest, highest}[random.Intn(3)]
				mustPut(t, s, often{x, 1})
				m.put(x, 1)
			}
			mustHold(t, s, m)
			if n > 1<<62 {
				mustRefuse(t, s, m, 3, 1, api.ErrFull)
			}
			mustJoin(t, s, made(t, a), m, modelOf(a))
			mustJoin(t, s, s, m, m)
			mustJoin(t, s, loaded(t, a, fitting(a, 1<<62-71), nil), m, modelOfRow(a, fitting(a, 1<<62-71), nil))
			mustJoin(t, s, filled(t, a, often{3, 1}), m, modelOf(a, often{3, 1}))
			mustAsk(t, s, m)
		}
	}
}

// fitting is a row that has so many values, in as few tuples as may be, and between these some with as much slack as may be.
func fitting(a api.Ratio, n uint64) []tuples.Tuple {
	limit := tuples.Limit(a, n)
	row := steps{{1, 1, 0}}
	for left := n - 1; left > 0; {
		x, step := int64(len(row)), min(limit, left)
		if len(row)%2 == 0 {
			step = 1
		}
		left -= step
		row = append(row, steps{{x, step, min(limit-step, left)}}...)
	}
	return row.row()
}

// P19.1: one that is joined into itself again and again has each value so much more often, till there would be too many.
func TestDoubled(t *testing.T) {
	for _, a := range []api.Ratio{of(1, 2), of(1<<30, 1<<31), of(1, 10)} {
		s, m := made(t, a), modelOf(a)
		for _, x := range []int64{5, lowest, 9, highest, 2, 2, 2, -7} {
			mustPut(t, s, often{x, 1})
			m.put(x, 1)
		}
		for i := range 64 {
			// By a finer closeness there are more tuples each time.
			if a.Den == 10 && i == 8 {
				break
			}
			mustJoin(t, s, s, m, m)
			if i%3 == 0 && m.put(int64(i), 1) == api.OK {
				mustPut(t, s, often{int64(i), 1})
			}
		}
		mustHold(t, s, m)
	}
}

// P19.1: the least and the greatest value, wherever they are: in the row, among those that wait, or in both.
func TestEnds(t *testing.T) {
	random := rand.New(rand.NewSource(195))
	for _, list := range [][]often{
		{{0, 1}}, {{-5, 1}}, {{lowest, 1}, {highest, 1}}, {{3, 1}, {2, 1}}, {{3, 16}}, {{3, 16}, {2, 1}}, {{3, 16}, {4, 1}}, {{3, 16}, {4, 1}, {2, 1}}, {{3, 1}, {5, 15}, {4, 3}}, {{-1, 17}}, {{1, 17}}, {{highest, 31}, {lowest, 1}, {4, 3}},
	} {
		mustHold(t, filled(t, of(1, 2), list...), modelOf(of(1, 2), list...))
	}
	for range 3000 {
		var list []often
		for range random.Intn(8) {
			list = append(list, often{value(random), 1 + uint64(random.Intn(10))})
		}
		mustTell(t, filled(t, of(1, 5), list...), modelOf(of(1, 5), list...))
	}
}

// P19.1: what is answered is new memory: what is written into it isn't seen, nor what comes later.
func TestApart(t *testing.T) {
	list := []often{{1, 1}, {6, 30}, {4, 2}, {9, 1}, {5, 3}}
	s, m := filled(t, of(1, 10), list...), modelOf(of(1, 10), list...)
	row, waits := s.Row()
	other, more := s.Row()
	spoil(row)
	for i := range waits[:cap(waits)] {
		waits[:cap(waits)][i] = 99
	}
	mustHold(t, s, m)
	want, wait := slices.Clone(other), slices.Clone(more)
	mustPut(t, s, often{2, 40}, often{8, 3})
	s.Flush()
	mustPut(t, s, often{-1, 15})
	if !slices.Equal(other, want) || !slices.Equal(more, wait) {
		t.Errorf("an answer changed: %v, %v", other, more)
	}
}

// spoil writes into a row, and its spare room.
func spoil(row []tuples.Tuple) {
	for i := range row[:cap(row)] {
		row[:cap(row)][i] = tuples.Tuple{X: -99, Step: 99, Slack: 99}
	}
}
