package greenwald_test

import (
	"math/rand"
	"slices"
	"testing"

	"ogive/api"
	"ogive/greenwald"
	"ogive/tuples"
)

// mustNotLoad tells, if a Load isn't refused.
func mustNotLoad(t *testing.T, a api.Ratio, row []tuples.Tuple, waits []int64) {
	t.Helper()
	if s, err := greenwald.Load(a, row, waits); s != nil || err != api.ErrArg {
		t.Fatalf("Load of %v, %v, %v: %v, %d", a, row, waits, s, err)
	}
}

// P19.1: Load of all short rows of low numbers, whether they can be or not.
func TestLoadAll(t *testing.T) {
	var some []tuples.Tuple
	for x := range int64(3) {
		for step := range uint64(5) {
			for slack := range uint64(4) {
				some = append(some, tuples.Tuple{X: x, Step: step, Slack: slack})
			}
		}
	}
	rows := [][]tuples.Tuple{nil, {}}
	for _, first := range some {
		rows = append(rows, []tuples.Tuple{first})
		for _, second := range some {
			rows = append(rows, []tuples.Tuple{first, second})
			// Of what falls short in its first tuple there are enough by now.
			if first.Step != 1 || first.Slack != 0 {
				continue
			}
			for _, third := range some {
				rows = append(rows, []tuples.Tuple{first, second, third})
			}
		}
	}
	can := 0
	for _, a := range []api.Ratio{of(1, 2), of(2, 5), of(1, 3), of(1, 4)} {
		for _, row := range rows {
			m := modelOfRow(a, row, nil)
			if !m.good() {
				mustNotLoad(t, a, row, nil)
				continue
			}
			can++
			mustTell(t, loaded(t, a, row, nil), m)
		}
	}
	if can < 1000 {
		t.Errorf("just %d can be", can)
	}
}

// P19.1: a tuple's step and slack together are at most the limit, of the row's values alone.
func TestLoadLimit(t *testing.T) {
	for _, x := range []struct {
		a    api.Ratio
		row  []tuples.Tuple
		fits bool
	}{
		{of(1, 4), steps{{1, 1, 0}, {2, 2, 0}, {3, 1, 0}}.row(), true}, {of(1, 4), steps{{1, 1, 0}, {2, 2, 0}}.row(), false}, {of(1, 4), steps{{1, 1, 0}, {2, 1, 1}, {3, 1, 0}, {4, 1, 0}}.row(), true},
		{of(1, 4), steps{{1, 1, 0}, {2, 1, 2}, {3, 1, 0}, {4, 1, 0}}.row(), false}, {of(1, 4), steps{{1, 1, 0}, {2, 1, 0}, {3, 1, 0}, {4, 2, 0}}.row(), true}, {of(1, 4), steps{{1, 1, 0}, {2, 1, 0}, {3, 1, 0}, {4, 3, 0}}.row(), true}, {of(1, 4), steps{{1, 1, 0}, {2, 1, 0}, {4, 3, 0}}.row(), false},
		{of(1, 2), steps{{1, 1, 0}, {2, 1, 2}, {3, 1, 0}, {3, 1, 0}}.row(), true}, {of(1, 2), steps{{1, 1, 0}, {2, count - 1, 0}}.row(), true}, {of(1, 2), steps{{1, 1, 0}, {2, count, 0}}.row(), false}, {of(1, 2), steps{{1, 1, 0}, {2, 1, 1 << 62}, {3, 1 << 62, 0}}.row(), true},
		{of(1, 2), steps{{1, 1, 0}, {2, 1, 1<<62 + 1}, {3, 1 << 62, 0}}.row(), false}, {of(1, 2), steps{{1, 1, 0}, {2, 2, all}, {3, 5, 0}}.row(), false}, {of(1, 2), steps{{1, 1, 0}, {2, 2, all - 1}, {3, 5, 0}}.row(), false}, {of(1, 2), steps{{1, 1, 0}, {2, all, 0}, {3, 5, 0}}.row(), false},
		{of(1, 3), steps{{1, 1, 0}, {2, 6148914691236517204, 0}, {3, 3074457345618258602, 0}}.row(), true}, {of(1, 3), steps{{1, 1, 0}, {2, 6148914691236517205, 0}, {3, 3074457345618258601, 0}}.row(), false},
		{of(1, 1<<31), steps{{1, 1, 0}, {2, 1, 0}, {3, 1, 0}}.row(), true}, {of(1, 1<<31), steps{{1, 1, 0}, {2, 1, 1}, {3, 1, 0}}.row(), false}, {of(1, 1<<31), steps{{1, 1, 0}, {2, 2, 0}}.row(), false},
	} {
		for _, waits := range [][]int64{nil, {5}, {1, 2, 3, 4, 5, 6, 7, 8, 9, 10, 11, 12}} {
			m := modelOfRow(x.a, x.row, waits)
			fits := x.fits && m.total().IsInt64()
			if m.good() != fits {
				t.Fatalf("%v: %t", x, fits)
			}
			if fits {
				mustHold(t, loaded(t, x.a, x.row, waits), m)
			} else {
				mustNotLoad(t, x.a, x.row, waits)
			}
		}
	}
}

// P19.1: fewer than Buffer wait, in the order in which they came; together with the row's values they are at most MaxCount.
func TestLoadWaits(t *testing.T) {
	row := steps{{1, 1, 0}, {3, 5, 0}}.row()
	for n := range 40 {
		waits := make([]int64, n)
		for i := range waits {
			waits[i] = int64(i * 7 % 11)
		}
		for _, r := range [][]tuples.Tuple{nil, row} {
			if n >= 16 {
				mustNotLoad(t, of(1, 2), r, waits)
				continue
			}
			s, m := loaded(t, of(1, 2), r, waits), modelOfRow(of(1, 2), r, waits)
			mustHold(t, s, m)
			for range 18 {
				mustPut(t, s, often{4, 1})
				m.put(4, 1)
				mustTell(t, s, m)
			}
		}
		full := func(more uint64) []tuples.Tuple {
			return steps{{1, 1, 0}, {3, count - 1 - uint64(n) + more, 0}}.row()
		}
		if n < 16 {
			mustHold(t, loaded(t, of(1, 2), full(0), waits), modelOfRow(of(1, 2), full(0), waits))
		}
		mustNotLoad(t, of(1, 2), full(1), waits)
	}
}

// P19.1: one that is loaded goes on, as the one it came from does, and knows nothing of it.
func TestLoadGoesOn(t *testing.T) {
	random := rand.New(rand.NewSource(198))
	for _, a := range closes() {
		for range 6 {
			s, m := made(t, a), modelOf(a)
			for range random.Intn(30) {
				o := often{value(random), 1 + uint64(random.Intn(4))}
				mustPut(t, s, o)
				m.put(o.x, o.n)
			}
			back, more := again(t, s), m.same()
			for range 20 {
				o := often{value(random), 1 + uint64(random.Intn(4))}
				mustPut(t, back, o)
				more.put(o.x, o.n)
				mustTell(t, back, more)
				mustTell(t, s, m)
			}
			mustJoin(t, back, s, more, m)
			mustJoin(t, s, back, m, more)
			mustHold(t, s, m)
		}
	}
}

// P19.1: what is handed in isn't changed, its spare room too, nor kept.
func TestLoadApart(t *testing.T) {
	room := steps{{1, 1, 0}, {3, 2, 1}, {5, 3, 0}, {70, 71, 72}, {80, 81, 82}}.row()
	spare := []int64{9, 2, 4, 77, 78, 79}
	row, waits := slices.Clone(room)[:3], slices.Clone(spare)[:3]
	s, m := loaded(t, of(1, 2), row, waits), modelOfRow(of(1, 2), row, waits)
	mustPut(t, s, often{6, 2})
	m.put(6, 2)
	mustTell(t, s, m)
	if !slices.Equal(row[:5], room) || !slices.Equal(waits[:6], spare) {
		t.Errorf("what was handed in: %v, %v", row[:5], waits[:6])
	}
	s.Flush()
	m.flush()
	mustPut(t, s, often{2, 30})
	m.put(2, 30)
	if !slices.Equal(row[:5], room) || !slices.Equal(waits[:6], spare) {
		t.Errorf("what was handed in: %v, %v", row[:5], waits[:6])
	}
	again, other := loaded(t, of(1, 2), row, waits), modelOfRow(of(1, 2), row, waits)
	spoil(row)
	clear(waits)
	mustHold(t, s, m)
	mustHold(t, again, other)
}
