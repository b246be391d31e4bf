package logsk_test

import (
	"maps"
	"math"
	"math/big"
	"math/rand"
	"slices"
	"testing"

	"ogive/api"
	"ogive/bins"
	"ogive/cells"
	"ogive/logsk"
)

const (
	least    = math.MinInt64
	greatest = math.MaxInt64
	count    = api.MaxCount
	limit    = api.MaxCells
)

// often is a value, so often.
type often struct {
	x int64
	n uint64
}

// config is one of a closeness, a side, and so many parts.
func config(num, den uint64, side bins.Side, most int) logsk.Config {
	return logsk.Config{Part: api.Ratio{Num: num, Den: den}, Side: side, Most: most}
}

// configs are those of which the tests go through all: fine and coarse closenesses, both sides, few parts and all.
func configs() []logsk.Config {
	var list []logsk.Config
	for _, a := range []api.Ratio{{Num: 1, Den: 2}, {Num: 2, Den: 20}, {Num: 1, Den: 100}, {Num: 999, Den: 1000}, {Num: 1 << 30, Den: 1 << 31}} {
		for _, most := range []int{1, 2, 5, 40, limit} {
			list = append(list, logsk.Config{Part: a, Side: bins.Great, Most: most}, logsk.Config{Part: a, Side: bins.Small, Most: most})
		}
	}
	return list
}

// model is all that a sketch was given, value by value: all answers are told from it alone.
type model struct {
	c     logsk.Config
	table *cells.Table
	all   map[int64]uint64
}

// modelOf is a model that was given some.
func modelOf(t *testing.T, c logsk.Config, list ...often) *model {
	t.Helper()
	table, err := cells.New(c.Part)
	if err != api.OK {
		t.Fatalf("cells of %v: %d", c.Part, err)
	}
	m := &model{c: c, table: table, all: map[int64]uint64{}}
	for _, o := range list {
		m.put(o.x, o.n)
	}
	return m
}

// total is how many there are, without a limit.
func (m *model) total() *big.Int {
	sum := new(big.Int)
	for _, n := range m.all {
		sum.Add(sum, whole(n))
	}
	return sum
}

// put answers what Put asks for, and has it.
func (m *model) put(x int64, n uint64) api.Errno {
	if n == 0 {
		return api.ErrArg
	}
	if sum := m.total(); !sum.Add(sum, whole(n)).IsInt64() {
		return api.ErrFull
	}
	m.all[x] += n
	return api.OK
}

// join answers what Join of another config's, or the same config's, asks for, and has it.
func (m *model) join(o *model) api.Errno {
	if m.c.Part.Num != o.c.Part.Num || m.c.Part.Den != o.c.Part.Den || m.c.Side != o.c.Side || m.c.Most != o.c.Most {
		return api.ErrMatch
	}
	if sum := m.total(); !sum.Add(sum, o.total()).IsInt64() {
		return api.ErrFull
	}
	for x, n := range maps.Clone(o.all) {
		m.all[x] += n
	}
	return api.OK
}

// values are all values, in order, each one once.
func (m *model) values() []int64 {
	return slices.Sorted(maps.Keys(m.all))
}

// cell is in which cell a value's magnitude lies.
func (m *model) cell(x int64) int {
	i, ok := m.table.Index(new(big.Int).Abs(big.NewInt(x)).Uint64())
	if !ok {
		panic("no cell for a magnitude")
	}
	return i
}

// kept is whether the cell of one of its values is kept: of those on its side of 0 none lies so many further out, or in.
func (m *model) kept(x int64) bool {
	for y := range m.all {
		if x != 0 && y != 0 && (x < 0) == (y < 0) {
			ahead := m.cell(y) - m.cell(x)
			if m.c.Side == bins.Small {
				ahead = -ahead
			}
			if ahead >= m.c.Most {
				return false
			}
		}
	}
	return true
}

// stands is what Quantile answers of one of its values.
func (m *model) stands(x int64) (int64, api.Errno) {
	if !m.kept(x) {
		return 0, api.ErrCells
	}
	if x == 0 {
		return 0, api.OK
	}
	r := int64(m.table.Rep(m.cell(x)))
	if x < 0 {
		r = -r
	}
	values := m.values()
	return min(max(r, values[0]), values[len(values)-1]), api.OK
}

// at is the value at a place, from 1 on; there is one.
func (m *model) at(place *big.Int) int64 {
	sum := new(big.Int)
	for _, x := range m.values() {
		if sum.Add(sum, whole(m.all[x])).Cmp(place) >= 0 {
			return x
		}
	}
	panic("no value at the place")
}

// quantile is what Quantile asks for, and which value the part asks for, if there is one.
func (m *model) quantile(p api.Ratio) (int64, int64, api.Errno) {
	if p.Den == 0 || p.Num > p.Den {
		return 0, 0, api.ErrArg
	}
	if len(m.all) == 0 {
		return 0, 0, api.ErrNone
	}
	place, rest := new(big.Int).DivMod(new(big.Int).Mul(m.total(), whole(p.Num)), whole(p.Den), new(big.Int))
	if rest.Sign() > 0 || place.Sign() == 0 {
		place.Add(place, big.NewInt(1))
	}
	x := m.at(place)
	r, err := m.stands(x)
	return r, x, err
}

// rows are the cells that are kept below 0, and above it, and how many values are lost there.
func (m *model) rows() ([2][]api.Pair, [2]uint64) {
	var lost [2]uint64
	counts := [2]map[int]uint64{{}, {}}
	for x, n := range m.all {
		side := 1
		if x < 0 {
			side = 0
		}
		if !m.kept(x) {
			lost[side] += n
		} else if x != 0 {
			counts[side][m.cell(x)] += n
		}
	}
	var rows [2][]api.Pair
	for side := range rows {
		for _, i := range slices.Sorted(maps.Keys(counts[side])) {
			rows[side] = append(rows[side], api.Pair{Index: i, Count: counts[side][i]})
		}
	}
	return rows, lost
}

// parts are those that ask for each value's first and last place, some between, and some that can't be.
func (m *model) parts() []api.Ratio {
	list := []api.Ratio{
		{Num: 0, Den: 1}, {Num: 1, Den: 4}, {Num: 1, Den: 2}, {Num: 99, Den: 100}, {Num: 1, Den: 1}, {Num: 0, Den: math.MaxUint64}, {Num: 1, Den: math.MaxUint64},
		{Num: math.MaxUint64 - 1, Den: math.MaxUint64}, {Num: math.MaxUint64, Den: math.MaxUint64},
		{Num: 0, Den: 0}, {Num: 1, Den: 0}, {Num: 2, Den: 1}, {Num: math.MaxUint64, Den: 1}, {Num: math.MaxUint64, Den: math.MaxUint64 - 1},
	}
	total, sum := m.total().Uint64(), uint64(0)
	for _, x := range m.values() {
		list = append(list, api.Ratio{Num: sum + 1, Den: total})
		sum += m.all[x]
		list = append(list, api.Ratio{Num: sum, Den: total})
	}
	return list
}

// whole is a number without a limit.
func whole(n uint64) *big.Int { return new(big.Int).SetUint64(n) }

// value is one of any length, or at one of the ends.
func value(random *rand.Rand) int64 {
	switch random.Intn(8) {
	case 0:
		return []int64{least, least + 1, -1, 0, 1, greatest - 1, greatest}[random.Intn(7)]
	case 1, 2:
		return int64(random.Uint64()) >> random.Intn(64)
	case 3, 4:
		return int64(random.Intn(2001)) - 1000
	}
	return int64(random.Intn(81)) - 40
}

// made is a sketch without values.
func made(t *testing.T, c logsk.Config) *logsk.Sketch {
	t.Helper()
	s, err := logsk.New(c)
	if s == nil || err != api.OK {
		t.Fatalf("New of %v: %v, %d", c, s, err)
	}
	return s
}

// mustPut tells, if some, all of which have room, aren't put.
func mustPut(t *testing.T, s *logsk.Sketch, list ...often) {
	t.Helper()
	for _, o := range list {
		if err := s.Put(o.x, o.n); err != api.OK {
			t.Fatalf("Put of %d, %d: %d", o.x, o.n, err)
		}
	}
}

// filled is a sketch to which some were put, all of which have room.
func filled(t *testing.T, c logsk.Config, list ...often) *logsk.Sketch {
	t.Helper()
	s := made(t, c)
	mustPut(t, s, list...)
	return s
}

// mustEnd tells, if the ends aren't these.
func mustEnd(t *testing.T, s *logsk.Sketch, low, high int64, some bool) {
	t.Helper()
	if l, h, ok := s.Ends(); l != low || h != high || ok != some {
		t.Fatalf("Ends: %d, %d, %t, not %d, %d, %t", l, h, ok, low, high, some)
	}
}

// mustAsk tells, if Quantile of a part doesn't answer a value, and an error.
func mustAsk(t *testing.T, s *logsk.Sketch, p api.Ratio, want int64, wantErr api.Errno) {
	t.Helper()
	if x, err := s.Quantile(p); x != want || err != wantErr {
		t.Fatalf("Quantile of %v by %v: %d, %d, not %d, %d", p, s.Config(), x, err, want, wantErr)
	}
}

// mustLie tells, if what is answered for a value isn't as close to it as a closeness asks for.
func mustLie(t *testing.T, r, x int64, a api.Ratio) {
	t.Helper()
	gap := new(big.Int).Sub(big.NewInt(r), big.NewInt(x))
	far := gap.Mul(gap.Abs(gap), whole(a.Den))
	room := new(big.Int).Abs(big.NewInt(x))
	if far.Cmp(room.Mul(room, whole(a.Num))) > 0 {
		t.Fatalf("%d for %d isn't within %v", r, x, a)
	}
}

// mustHold tells, if a sketch doesn't answer by every call what all that it was given asks for.
func mustHold(t *testing.T, s *logsk.Sketch, m *model) {
	t.Helper()
	if s.Config() != m.c {
		t.Fatalf("Config: %v, not %v", s.Config(), m.c)
	}
	values := m.values()
	if len(values) == 0 {
		mustEnd(t, s, 0, 0, false)
	} else {
		mustEnd(t, s, values[0], values[len(values)-1], true)
	}
	b := s.Bins()
	if whole(b.Total()).Cmp(m.total()) != 0 || b.Zero() != m.all[0] || b.Most() != m.c.Most {
		t.Fatalf("Bins have %d, %d noughts, most %d, not %d, %d, %d", b.Total(), b.Zero(), b.Most(), m.total(), m.all[0], m.c.Most)
	}
	rows, lost := m.rows()
	if below, above := b.Rows(); !slices.Equal(below, rows[0]) || !slices.Equal(above, rows[1]) {
		t.Fatalf("Rows: %v, %v, not %v", below, above, rows)
	}
	if below, above := b.Lost(); below != lost[0] || above != lost[1] {
		t.Fatalf("Lost: %d, %d, not %v", below, above, lost)
	}
	for _, p := range m.parts() {
		want, x, wantErr := m.quantile(p)
		mustAsk(t, s, p, want, wantErr)
		if wantErr == api.OK {
			mustLie(t, want, x, m.c.Part)
		}
	}
}

// mustRefuse tells, if a Put isn't refused with an error, or changes what is there.
func mustRefuse(t *testing.T, s *logsk.Sketch, m *model, x int64, n uint64, want api.Errno) {
	t.Helper()
	if err := s.Put(x, n); err != want {
		t.Fatalf("Put of %d, %d: %d, not %d", x, n, err, want)
	}
	mustHold(t, s, m)
}
