package hdr_test

import (
	"maps"
	"math"
	"math/big"
	"math/rand"
	"slices"
	"testing"

	"ogive/api"
	"ogive/hdr"
)

const (
	least    = math.MinInt64
	greatest = math.MaxInt64
	count    = api.MaxCount
	limit    = api.MaxCells
	most     = 1 << 63
)

// often is a value, so often.
type often struct {
	x int64
	n uint64
}

// config is one of so many digits, and a greatest magnitude.
func config(digits int, limit uint64) hdr.Config {
	return hdr.Config{Digits: digits, Limit: limit}
}

// configs are those of which the tests go through all: all numbers of digits, without a limit, and with low and high ones.
func configs() []hdr.Config {
	var list []hdr.Config
	for digits := 1; digits <= 4; digits++ {
		for _, limit := range []uint64{0, 1, 40, 1000, 1 << 40, most - 1, most} {
			list = append(list, config(digits, limit))
		}
	}
	return list
}

// model is all that a sketch was given, value by value: all answers are told from it alone.
type model struct {
	c   hdr.Config
	all map[int64]uint64
}

// modelOf is a model that was given some.
func modelOf(c hdr.Config, list ...often) *model {
	m := &model{c: c, all: map[int64]uint64{}}
	for _, o := range list {
		m.all[o.x] += o.n
	}
	return m
}

// total is how many there are, without a limit.
func (m *model) total() *big.Int {
	sum := new(big.Int)
	for _, n := range m.all {
		sum.Add(sum, whole(n))
	}
	return sum
}

// takes is whether a value is within the limit.
func (m *model) takes(x int64) bool {
	return m.c.Limit == 0 || magnitude(x).Cmp(whole(m.c.Limit)) <= 0
}

// room is whether these, beside all that it has, are not too many, and not of too many spans.
func (m *model) room(more map[int64]uint64) bool {
	sum := m.total()
	spans := [2]map[int]bool{{}, {}}
	for _, all := range []map[int64]uint64{m.all, more} {
		for x := range all {
			if x != 0 {
				spans[side(x)][m.span(x).index] = true
			}
		}
	}
	for _, n := range more {
		sum.Add(sum, whole(n))
	}
	return sum.IsInt64() && len(spans[0]) <= limit && len(spans[1]) <= limit
}

// put answers what Put asks for, and has it.
func (m *model) put(x int64, n uint64) api.Errno {
	if n == 0 {
		return api.ErrArg
	}
	if !m.takes(x) {
		return api.ErrRange
	}
	if !m.room(map[int64]uint64{x: n}) {
		return api.ErrFull
	}
	m.all[x] += n
	return api.OK
}

// join answers what Join asks for, and has it.
func (m *model) join(o *model) api.Errno {
	if m.c.Digits != o.c.Digits {
		return api.ErrMatch
	}
	for x := range o.all {
		if !m.takes(x) {
			return api.ErrRange
		}
	}
	if !m.room(o.all) {
		return api.ErrFull
	}
	for x, n := range maps.Clone(o.all) {
		m.all[x] += n
	}
	return api.OK
}

// values are all values, in order, each one once.
func (m *model) values() []int64 {
	return slices.Sorted(maps.Keys(m.all))
}

// part is a span: its number, and its least and greatest magnitude.
type part struct {
	index     int
	low, high uint64
}

// span is the span of a value's magnitude, which isn't 0, by the words: cut by one bit after the other.
func (m *model) span(x int64) part {
	h := uint64(1)
	for float64(h) < math.Pow10(m.c.Digits) {
		h *= 2
	}
	left, step := magnitude(x).Uint64(), uint64(1)
	cut := 0
	for left >= 2*h {
		left, step, cut = left/2, step*2, cut+1
	}
	low := left * step
	return part{index: cut*int(h) + int(left), low: low, high: min(low+(step-1), most)}
}

// like is what Like answers.
func (m *model) like(x int64) (int64, int64) {
	if x == 0 {
		return 0, 0
	}
	s := m.span(x)
	if x < 0 {
		return int64(-s.high), int64(-s.low)
	}
	return int64(s.low), int64(min(s.high, greatest))
}

// stands is what Quantile answers of one of its values.
func (m *model) stands(x int64) int64 {
	if x == 0 {
		return 0
	}
	s := m.span(x)
	middle := new(big.Int).Add(whole(s.low), whole(s.high))
	middle.Rsh(middle, 1)
	if x < 0 {
		middle.Neg(middle)
	}
	values := m.values()
	if floor := big.NewInt(values[0]); middle.Cmp(floor) < 0 {
		middle = floor
	}
	if roof := big.NewInt(values[len(values)-1]); middle.Cmp(roof) > 0 {
		middle = roof
	}
	return middle.Int64()
}

// quantile is what Quantile asks for, and which value the part asks for, if there is one.
func (m *model) quantile(p api.Ratio) (int64, int64, api.Errno) {
	if p.Den == 0 || p.Num > p.Den {
		return 0, 0, api.ErrArg
	}
	if len(m.all) == 0 {
		return 0, 0, api.ErrNone
	}
	place, rest := new(big.Int).DivMod(new(big.Int).Mul(m.total(), whole(p.Num)), whole(p.Den), new(big.Int))
	if rest.Sign() > 0 || place.Sign() == 0 {
		place.Add(place, big.NewInt(1))
	}
	sum := new(big.Int)
	for _, x := range m.values() {
		if sum.Add(sum, whole(m.all[x])).Cmp(place) >= 0 {
			return m.stands(x), x, api.OK
		}
	}
	panic("no value at the place")
}

// rank is what Rank answers: how many lie below the values that count as this one, and how many not above these.
func (m *model) rank(x int64) (uint64, uint64) {
	low, high := m.like(x)
	var ahead, upTo uint64
	for y, n := range m.all {
		if y < low || x == 0 && y == 0 {
			ahead += n
		}
		if y <= high {
			upTo += n
		}
	}
	return ahead, upTo
}

// rows are the counts of spans below 0, and above it.
func (m *model) rows() [2][]api.Pair {
	counts := [2]map[int]uint64{{}, {}}
	for x, n := range m.all {
		if x != 0 {
			counts[side(x)][m.span(x).index] += n
		}
	}
	var rows [2][]api.Pair
	for side := range rows {
		for _, i := range slices.Sorted(maps.Keys(counts[side])) {
			rows[side] = append(rows[side], api.Pair{Index: i, Count: counts[side][i]})
		}
	}
	return rows
}

// parts are those that ask for each value's first and last place, some between, and some that can't be.
func (m *model) parts() []api.Ratio {
	list := []api.Ratio{
		{Num: 0, Den: 1}, {Num: 1, Den: 4}, {Num: 1, Den: 2}, {Num: 99, Den: 100}, {Num: 1, Den: 1}, {Num: 0, Den: math.MaxUint64}, {Num: 1, Den: math.MaxUint64},
		{Num: math.MaxUint64 - 1, Den: math.MaxUint64}, {Num: math.MaxUint64, Den: math.MaxUint64},
		{Num: 0, Den: 0}, {Num: 1, Den: 0}, {Num: 2, Den: 1}, {Num: math.MaxUint64, Den: 1}, {Num: math.MaxUint64, Den: math.MaxUint64 - 1},
	}
	total, sum := m.total().Uint64(), uint64(0)
	for _, x := range m.values() {
		list = append(list, api.Ratio{Num: sum + 1, Den: total})
		sum += m.all[x]
		list = append(list, api.Ratio{Num: sum, Den: total})
	}
	return list
}

// probes are values of which Rank and Like are asked: its own, the ends of their spans, those beside these, and the other signs of all.
func (m *model) probes() []int64 {
	list := []int64{least, least + 1, -1 << 62, -40, -1, 0, 1, 40, 1 << 62, greatest - 1, greatest}
	for _, x := range m.values() {
		low, high := m.like(x)
		for _, y := range []int64{x, low, high, low - 1, high + 1} {
			list = append(list, y, -y)
		}
	}
	return list
}

// side is 0 below 0, and 1 above it.
func side(x int64) int {
	if x < 0 {
		return 0
	}
	return 1
}

// whole is a number without a limit.
func whole(n uint64) *big.Int { return new(big.Int).SetUint64(n) }

// magnitude is how far a value is from 0.
func magnitude(x int64) *big.Int { return new(big.Int).Abs(big.NewInt(x)) }

// value is one of any length, or at one of the ends.
func value(random *rand.Rand) int64 {
	switch random.Intn(8) {
	case 0:
		return []int64{least, least + 1, -1, 0, 1, greatest - 1, greatest}[random.Intn(7)]
	case 1, 2:
		return int64(random.Uint64()) >> random.Intn(64)
	case 3, 4:
		return int64(random.Intn(2001)) - 1000
	}
	return int64(random.Intn(81)) - 40
}

// made is a sketch without values.
func made(t *testing.T, c hdr.Config) *hdr.Sketch {
	t.Helper()
	s, err := hdr.New(c)
	if s == nil || err != api.OK {
		t.Fatalf("New of %v: %v, %d", c, s, err)
	}
	return s
}

// mustPut tells, if some, all of which have room, aren't put.
func mustPut(t *testing.T, s *hdr.Sketch, list ...often) {
	t.Helper()
	for _, o := range list {
		if err := s.Put(o.x, o.n); err != api.OK {
			t.Fatalf("Put of %d, %d: %d", o.x, o.n, err)
		}
	}
}

// filled is a sketch to which some were put, all of which have room.
func filled(t *testing.T, c hdr.Config, list ...often) *hdr.Sketch {
	t.Helper()
	s := made(t, c)
	mustPut(t, s, list...)
	return s
}

// loaded is a sketch of rows, noughts and ends that can be.
func loaded(t *testing.T, c hdr.Config, minus, plus []api.Pair, zero uint64, low, high int64) *hdr.Sketch {
	t.Helper()
	s, err := hdr.Load(c, minus, plus, zero, low, high)
	if s == nil || err != api.OK {
		t.Fatalf("Load of %v: %v, %d", c, s, err)
	}
	return s
}

// again is what Load answers of all that another one tells.
func again(t *testing.T, s *hdr.Sketch) *hdr.Sketch {
	t.Helper()
	minus, plus := s.Rows()
	low, high, _ := s.Ends()
	return loaded(t, s.Config(), minus, plus, s.Zero(), low, high)
}

// mustEnd tells, if the ends aren't these.
func mustEnd(t *testing.T, s *hdr.Sketch, low, high int64, some bool) {
	t.Helper()
	if l, h, ok := s.Ends(); l != low || h != high || ok != some {
		t.Fatalf("Ends: %d, %d, %t, not %d, %d, %t", l, h, ok, low, high, some)
	}
}

// mustAsk tells, if Quantile of a part doesn't answer a value, and an error.
func mustAsk(t *testing.T, s *hdr.Sketch, p api.Ratio, want int64, wantErr api.Errno) {
	t.Helper()
	if x, err := s.Quantile(p); x != want || err != wantErr {
		t.Fatalf("Quantile of %v by %v: %d, %d, not %d, %d", p, s.Config(), x, err, want, wantErr)
	}
}

// mustRank tells, if Rank doesn't answer these.
func mustRank(t *testing.T, s *hdr.Sketch, x int64, low, high uint64) {
	t.Helper()
	if l, h := s.Rank(x); l != low || h != high {
		t.Fatalf("Rank of %d by %v: %d, %d, not %d, %d", x, s.Config(), l, h, low, high)
	}
}

// mustLike tells, if Like doesn't answer these.
func mustLike(t *testing.T, s *hdr.Sketch, x, low, high int64) {
	t.Helper()
	if l, h := s.Like(x); l != low || h != high {
		t.Fatalf("Like of %d by %v: %d, %d, not %d, %d", x, s.Config(), l, h, low, high)
	}
}

// mustLie tells, if what is answered for a value isn't as close to it as so many digits ask for.
func mustLie(t *testing.T, r, x int64, digits int) {
	t.Helper()
	gap := new(big.Int).Sub(big.NewInt(r), big.NewInt(x))
	far := gap.Mul(gap.Abs(gap), new(big.Int).Exp(big.NewInt(10), big.NewInt(int64(digits)), nil))
	if far.Cmp(magnitude(x)) > 0 {
		t.Fatalf("%d for %d isn't within %d digits", r, x, digits)
	}
}

// mustHold tells, if a sketch, or one that is loaded of what it tells, doesn't answer by every call what all that it was given asks for.
func mustHold(t *testing.T, s *hdr.Sketch, m *model) {
	t.Helper()
	mustTell(t, s, m)
	mustAnswer(t, s, m)
	back := again(t, s)
	mustTell(t, back, m)
	mustAnswer(t, back, m)
}

// mustTell is the part of mustHold that asks what there is.
func mustTell(t *testing.T, s *hdr.Sketch, m *model) {
	t.Helper()
	if s.Config() != m.c {
		t.Fatalf("Config: %v, not %v", s.Config(), m.c)
	}
	values := m.values()
	if len(values) == 0 {
		mustEnd(t, s, 0, 0, false)
	} else {
		mustEnd(t, s, values[0], values[len(values)-1], true)
	}
	if whole(s.Total()).Cmp(m.total()) != 0 || s.Zero() != m.all[0] {
		t.Fatalf("it has %d, %d noughts, not %d, %d", s.Total(), s.Zero(), m.total(), m.all[0])
	}
	rows := m.rows()
	if minus, plus := s.Rows(); !slices.Equal(minus, rows[0]) || !slices.Equal(plus, rows[1]) {
		t.Fatalf("Rows: %v, %v, not %v", minus, plus, rows)
	}
}

// mustAnswer is the part of mustHold that asks about values.
func mustAnswer(t *testing.T, s *hdr.Sketch, m *model) {
	t.Helper()
	for _, p := range m.parts() {
		want, x, wantErr := m.quantile(p)
		mustAsk(t, s, p, want, wantErr)
		if wantErr == api.OK {
			mustLie(t, want, x, m.c.Digits)
		}
	}
	for _, x := range m.probes() {
		low, high := m.like(x)
		mustLike(t, s, x, low, high)
		ahead, upTo := m.rank(x)
		mustRank(t, s, x, ahead, upTo)
	}
}

// mustRefuse tells, if a Put isn't refused with an error, or changes what is there.
func mustRefuse(t *testing.T, s *hdr.Sketch, m *model, x int64, n uint64, want api.Errno) {
	t.Helper()
	if err := s.Put(x, n); err != want {
		t.Fatalf("Put of %d, %d by %v: %d, not %d", x, n, s.Config(), err, want)
	}
	mustHold(t, s, m)
}
