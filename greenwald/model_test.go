package greenwald_test

import (
	"maps"
	"math"
	"math/big"
	"math/rand"
	"slices"
	"testing"

	"ogive/api"
	"ogive/greenwald"
	"ogive/tuples"
)

const (
	lowest  = math.MinInt64
	highest = math.MaxInt64
	count   = api.MaxCount
	all     = uint64(math.MaxUint64)
)

// of is a closeness, or a part.
func of(num, den uint64) api.Ratio { return api.Ratio{Num: num, Den: den} }

// closes are closenesses of which the tests go through all: coarse and fine ones.
func closes() []api.Ratio {
	return []api.Ratio{of(1, 2), of(1<<30, 1<<31), of(3, 8), of(1, 4), of(1, 10), of(2, 20), of(7, 100), of(1, 100), of(1, 1<<31), of(1, 1<<31-1)}
}

// often is a value, so often.
type often struct {
	x int64
	n uint64
}

// steps are a row, in short.
type steps []struct {
	x           int64
	step, slack uint64
}

func (list steps) row() []tuples.Tuple {
	var row []tuples.Tuple
	for _, s := range list {
		row = append(row, tuples.Tuple{X: s.x, Step: s.step, Slack: s.slack})
	}
	return row
}

// spot is a value, and between which places it stands. No number of a model has a limit.
type spot struct {
	x         int64
	low, high *big.Int
}

// model is a second reading of a sketch: its row is places, not steps and slacks, and what was put is known, value by value.
type model struct {
	a     api.Ratio
	spots []spot
	n     *big.Int // values of the spots alone
	waits []int64
	all   map[int64]*big.Int // nil: it isn't known
}

func whole(n uint64) *big.Int { return new(big.Int).SetUint64(n) }

func plus(a, b *big.Int) *big.Int { return new(big.Int).Add(a, b) }

func minus(a, b *big.Int) *big.Int { return new(big.Int).Sub(a, b) }

func one() *big.Int { return big.NewInt(1) }

// modelOf is a model that was given some, all of which have room.
func modelOf(a api.Ratio, list ...often) *model {
	m := &model{a: a, n: new(big.Int), all: map[int64]*big.Int{}}
	for _, o := range list {
		m.put(o.x, o.n)
	}
	return m
}

// modelOfRow is a model of a row, of which isn't known how it came about, and of values that wait.
func modelOfRow(a api.Ratio, row []tuples.Tuple, waits []int64) *model {
	m := &model{a: a, n: new(big.Int), waits: slices.Clone(waits)}
	for _, t := range row {
		m.n = plus(m.n, whole(t.Step))
		m.spots = append(m.spots, spot{t.X, m.n, plus(m.n, whole(t.Slack))})
	}
	return m
}

// same is another one that has the same. Numbers of models are never changed, so they may be shared.
func (m *model) same() *model {
	return &model{m.a, slices.Clone(m.spots), m.n, slices.Clone(m.waits), maps.Clone(m.all)}
}

// total is how many there are.
func (m *model) total() *big.Int { return plus(m.n, big.NewInt(int64(len(m.waits)))) }

// limit is that of the closeness, of the values of the spots.
func (m *model) limit() *big.Int {
	twice := new(big.Int).Mul(big.NewInt(2), whole(m.a.Num))
	limit := new(big.Int).Div(twice.Mul(twice, m.n), whole(m.a.Den))
	if limit.Sign() == 0 {
		return one()
	}
	return limit
}

// below is the least place of the spot ahead of the i-th one; 0, if there is none.
func (m *model) below(i int) *big.Int {
	if i == 0 {
		return new(big.Int)
	}
	return m.spots[i-1].low
}

// good: whether the row, and what waits, can be.
func (m *model) good() bool {
	for i, s := range m.spots {
		if i == 0 && (s.low.Cmp(one()) != 0 || s.high.Cmp(one()) != 0) || i > 0 && m.spots[i-1].x > s.x {
			return false
		}
		if s.low.Cmp(m.below(i)) <= 0 || s.high.Cmp(m.n) > 0 || minus(s.high, m.below(i)).Cmp(m.limit()) > 0 {
			return false
		}
	}
	return m.total().IsInt64() && len(m.waits) < 16
}

// put answers what Put asks for, and has it.
func (m *model) put(x int64, n uint64) api.Errno {
	switch {
	case n == 0:
		return api.ErrArg
	case n > 1024:
		return api.ErrLong
	case !plus(m.total(), whole(n)).IsInt64():
		return api.ErrFull
	}
	m.know(x, whole(n))
	for ; n > 0; n-- {
		m.waits = append(m.waits, x)
		if len(m.waits) == 16 {
			m.flush()
		}
	}
	return api.OK
}

// know has a value so often, if it is known what was put.
func (m *model) know(x int64, n *big.Int) {
	if m.all == nil {
		return
	}
	if was := m.all[x]; was != nil {
		n = plus(was, n)
	}
	m.all[x] = n
}

// flush inserts what waits, the least one first.
func (m *model) flush() {
	if len(m.waits) == 0 {
		return
	}
	for _, x := range slices.Sorted(slices.Values(m.waits)) {
		m.insert(x)
	}
	m.waits = nil
	m.squeeze()
}

// insert: a value may stand at each place from that behind the least one ahead to the greatest one of the spot behind, which itself moves on.
func (m *model) insert(x int64) {
	at := 0
	for at < len(m.spots) && m.spots[at].x <= x {
		at++
	}
	low := plus(m.below(at), one())
	high := low
	if 0 < at && at < len(m.spots) {
		high = m.spots[at].high
	}
	spots := append(slices.Clone(m.spots[:at]), spot{x, low, high})
	for _, s := range m.spots[at:] {
		spots = append(spots, spot{s.x, plus(s.low, one()), plus(s.high, one())})
	}
	m.spots, m.n = spots, plus(m.n, one())
}

// squeeze: a spot goes, if all the places from behind the least one ahead of it to the greatest one behind it are no more than the limit.
func (m *model) squeeze() {
	limit := m.limit()
	for i := len(m.spots) - 2; i > 0; i-- {
		if minus(m.spots[i+1].high, m.spots[i-1].low).Cmp(limit) <= 0 {
			m.spots = slices.Delete(slices.Clone(m.spots), i, i+1)
		}
	}
}

// join answers what Join asks for, and has it.
func (m *model) join(o *model) api.Errno {
	if m.a != o.a {
		return api.ErrMatch
	}
	if !plus(m.total(), o.total()).IsInt64() {
		return api.ErrFull
	}
	known := maps.Clone(o.all)
	m.flush()
	other := o.same()
	other.flush()
	if known == nil {
		m.all = nil
	}
	for x, n := range known {
		m.know(x, n)
	}
	m.merge(other)
	m.squeeze()
	return api.OK
}

// merge: to each spot's places come those of the other row: at least those of the spot ahead, at most those up to the spot behind, without it.
func (m *model) merge(o *model) {
	var spots []spot
	i, j := 0, 0
	for i < len(m.spots) || j < len(o.spots) {
		if j == len(o.spots) || i < len(m.spots) && m.spots[i].x <= o.spots[j].x {
			spots = append(spots, m.spots[i].beside(o, j))
			i++
		} else {
			spots = append(spots, o.spots[j].beside(m, i))
			j++
		}
	}
	m.spots, m.n = spots, plus(m.n, o.n)
}

// beside is a spot among those of another row, the at-th one of which stands behind it.
func (s spot) beside(o *model, at int) spot {
	most := o.n
	if at < len(o.spots) {
		most = minus(o.spots[at].high, one())
	}
	return spot{s.x, plus(s.low, o.below(at)), plus(s.high, most)}
}

// place is the one that a part asks for.
func (m *model) place(p api.Ratio) (*big.Int, api.Errno) {
	if p.Den == 0 || p.Num > p.Den {
		return nil, api.ErrArg
	}
	if m.total().Sign() == 0 {
		return nil, api.ErrNone
	}
	place, rest := new(big.Int).DivMod(new(big.Int).Mul(m.total(), whole(p.Num)), whole(p.Den), new(big.Int))
	if rest.Sign() > 0 || place.Sign() == 0 {
		place.Add(place, one())
	}
	return place, api.OK
}

// find: the first spot whose farther end lies closest to a place.
func (m *model) find(place *big.Int) int64 {
	var x int64
	var closest *big.Int
	for _, s := range m.spots {
		far := minus(place, s.low)
		if off := minus(s.high, place); off.Cmp(far) > 0 {
			far = off
		}
		if closest == nil || far.Cmp(closest) < 0 {
			x, closest = s.x, far
		}
	}
	return x
}

// rank: the least place of the last spot that isn't greater, and the greatest one of the first that is, less 1.
func (m *model) rank(x int64) (uint64, uint64) {
	least, most := new(big.Int), m.n
	for i := len(m.spots) - 1; i >= 0; i-- {
		if m.spots[i].x > x {
			most = minus(m.spots[i].high, one())
		} else if least.Sign() == 0 {
			least = m.spots[i].low
		}
	}
	return least.Uint64(), most.Uint64()
}

// row tells the spots as tuples.
func (m *model) row(t *testing.T) []tuples.Tuple {
	t.Helper()
	var row []tuples.Tuple
	for i, s := range m.spots {
		step, slack := minus(s.low, m.below(i)), minus(s.high, s.low)
		if !step.IsUint64() || !slack.IsUint64() {
			t.Fatalf("%d: from %s to %s isn't told by 64 bits", s.x, s.low, s.high)
		}
		row = append(row, tuples.Tuple{X: s.x, Step: step.Uint64(), Slack: slack.Uint64()})
	}
	return row
}

// ends are the least and the greatest value of all that is known.
func (m *model) ends() (int64, int64, bool) {
	list := slices.Collect(maps.Keys(m.all))
	if m.all == nil {
		list = slices.Clone(m.waits)
		for _, s := range m.spots {
			list = append(list, s.x)
		}
	}
	if len(list) == 0 {
		return 0, 0, false
	}
	return slices.Min(list), slices.Max(list), true
}

// parts are those at which something may change: each spot's places and those beside them, the ends, and some that can't be.
func (m *model) parts() []api.Ratio {
	list := []api.Ratio{of(0, 1), of(1, 4), of(1, 2), of(99, 100), of(1, 1), of(0, all), of(1, all), of(all-1, all), of(all, all), of(0, 0), of(1, 0), of(2, 1), of(all, 1), of(all, all-1)}
	total := m.total().Uint64()
	for _, s := range m.spots {
		low, high := s.low.Uint64(), s.high.Uint64()
		for _, place := range []uint64{low, low + 1, low/2 + high/2, high, high + 1} {
			list = append(list, of(place, total), of(place-1, total))
		}
	}
	return list
}

// probes are values of which Rank is asked: those of the spots, those that wait, and those beside them.
func (m *model) probes() []int64 {
	list := []int64{lowest, lowest + 1, -1, 0, 1, highest - 1, highest}
	for _, x := range m.waits {
		list = append(list, x-1, x, x+1)
	}
	for _, s := range m.spots {
		list = append(list, s.x-1, s.x, s.x+1)
	}
	return list
}

// truth is all that was put, value by value, in order, and how many there are up to each one.
type truth struct {
	values []int64
	sums   []*big.Int
}

// truth is what a model knows of all values; nothing, if it doesn't.
func (m *model) truth() truth {
	told := truth{values: slices.Sorted(maps.Keys(m.all))}
	sum := new(big.Int)
	for _, x := range told.values {
		sum = plus(sum, m.all[x])
		told.sums = append(told.sums, sum)
	}
	return told
}

// upTo is how many values up to one were put, that too; and how many below it.
func (all truth) upTo(x int64) (*big.Int, *big.Int) {
	at, there := slices.BinarySearch(all.values, x)
	below := new(big.Int)
	if at > 0 {
		below = all.sums[at-1]
	}
	if !there {
		return below, below
	}
	return all.sums[at], below
}

// made is a sketch without values.
func made(t *testing.T, a api.Ratio) *greenwald.Sketch {
	t.Helper()
	s, err := greenwald.New(a)
	if s == nil || err != api.OK {
		t.Fatalf("New of %v: %v, %d", a, s, err)
	}
	return s
}

// mustPut tells, if some, all of which have room, aren't put.
func mustPut(t *testing.T, s *greenwald.Sketch, list ...often) {
	t.Helper()
	for _, o := range list {
		if err := s.Put(o.x, o.n); err != api.OK {
			t.Fatalf("Put of %d, %d: %d", o.x, o.n, err)
		}
	}
}

// filled is a sketch to which some were put, all of which have room.
func filled(t *testing.T, a api.Ratio, list ...often) *greenwald.Sketch {
	t.Helper()
	s := made(t, a)
	mustPut(t, s, list...)
	return s
}

// loaded is a sketch of a row, and of values that wait, that can be.
func loaded(t *testing.T, a api.Ratio, row []tuples.Tuple, waits []int64) *greenwald.Sketch {
	t.Helper()
	s, err := greenwald.Load(a, row, waits)
	if s == nil || err != api.OK {
		t.Fatalf("Load of %v, %v, %v: %v, %d", a, row, waits, s, err)
	}
	return s
}

// again is what Load answers of all that another one tells.
func again(t *testing.T, s *greenwald.Sketch) *greenwald.Sketch {
	t.Helper()
	row, waits := s.Row()
	return loaded(t, s.Part(), row, waits)
}

// mustHold tells, if a sketch doesn't answer by every call what all that it was given asks for. What flushes is asked of others, loaded of what it tells; so it stays as it is.
func mustHold(t *testing.T, s *greenwald.Sketch, m *model) {
	t.Helper()
	mustTell(t, s, m)
	for _, ask := range []func(*testing.T, *greenwald.Sketch, *model){mustFlush, mustFind, mustRank} {
		ask(t, again(t, s), m.same())
	}
	mustTell(t, s, m)
}

// mustAsk tells, if a sketch itself, which is flushed by that, doesn't answer what it ought to.
func mustAsk(t *testing.T, s *greenwald.Sketch, m *model) {
	t.Helper()
	mustTell(t, s, m)
	mustFind(t, s, m)
	mustRank(t, s, m)
}

// mustTell is the part of mustHold that asks what there is, which flushes nothing, and whether that may be.
func mustTell(t *testing.T, s *greenwald.Sketch, m *model) {
	t.Helper()
	if s.Part() != m.a || whole(s.Total()).Cmp(m.total()) != 0 {
		t.Fatalf("%v, %d values, not %v, %v", s.Part(), s.Total(), m.a, m.total())
	}
	row, waits := s.Row()
	if want := m.row(t); !slices.Equal(row, want) || !slices.Equal(waits, m.waits) {
		t.Fatalf("Row by %v: %v, %v, not %v, %v", m.a, row, waits, want, m.waits)
	}
	if !m.good() {
		t.Fatalf("by %v there can't be %v, %v", m.a, row, waits)
	}
	low, high, some := s.Ends()
	if least, greatest, any := m.ends(); low != least || high != greatest || some != any {
		t.Fatalf("Ends by %v: %d, %d, %t, not %d, %d, %t", m.a, low, high, some, least, greatest, any)
	}
}

// mustFlush is the part of mustHold that flushes a sketch, twice.
func mustFlush(t *testing.T, s *greenwald.Sketch, m *model) {
	t.Helper()
	for range 2 {
		s.Flush()
		m.flush()
		mustTell(t, s, m)
	}
}

// mustFind is the part of mustHold that asks for values. An error flushes nothing.
func mustFind(t *testing.T, s *greenwald.Sketch, m *model) {
	t.Helper()
	told, parts := m.truth(), m.parts()
	// Those that can't be come first, so that something still waits then.
	slices.SortStableFunc(parts, func(p, q api.Ratio) int { return errs(m, p) - errs(m, q) })
	for _, p := range parts {
		x, err := s.Quantile(p)
		place, wantErr := m.place(p)
		if wantErr != api.OK {
			if x != 0 || err != wantErr {
				t.Fatalf("Quantile of %v by %v: %d, %d, not %d", p, m.a, x, err, wantErr)
			}
			mustTell(t, s, m)
			continue
		}
		if len(m.waits) > 0 {
			m.flush()
			mustTell(t, s, m)
		}
		if want := m.find(place); x != want || err != api.OK {
			t.Fatalf("Quantile of %v by %v: %d, %d, not %d", p, m.a, x, err, want)
		}
		mustStand(t, m, told, x, place)
	}
	mustTell(t, s, m)
}

// errs is less for a part that is an error than for one that isn't.
func errs(m *model, p api.Ratio) int {
	if _, err := m.place(p); err != api.OK {
		return 0
	}
	return 1
}

// mustStand tells, if it is known what was put, and a value stands nowhere, or too far from a place.
func mustStand(t *testing.T, m *model, told truth, x int64, place *big.Int) {
	t.Helper()
	if m.all == nil {
		return
	}
	last, below := told.upTo(x)
	first := plus(below, one())
	gap := new(big.Int)
	switch {
	case place.Cmp(first) < 0:
		gap = minus(first, place)
	case place.Cmp(last) > 0:
		gap = minus(place, last)
	}
	gap.Mul(gap, whole(m.a.Den))
	if may := new(big.Int).Mul(whole(m.a.Num), m.total()); first.Cmp(last) > 0 || gap.Cmp(may) > 0 {
		t.Fatalf("%d at place %s by %v: it stands from %s to %s of %s", x, place, m.a, first, last, m.total())
	}
}

// mustRank is the part of mustHold that asks how many there are up to values.
func mustRank(t *testing.T, s *greenwald.Sketch, m *model) {
	t.Helper()
	told := m.truth()
	for _, x := range m.probes() {
		low, high := s.Rank(x)
		if len(m.waits) > 0 {
			m.flush()
			mustTell(t, s, m)
		}
		if least, most := m.rank(x); low != least || high != most {
			t.Fatalf("Rank of %d by %v: %d, %d, not %d, %d", x, m.a, low, high, least, most)
		}
		if n, _ := told.upTo(x); m.all != nil && (n.Cmp(whole(low)) < 0 || n.Cmp(whole(high)) > 0) {
			t.Fatalf("Rank of %d by %v: %d, %d, but there are %s", x, m.a, low, high, n)
		}
	}
	mustTell(t, s, m)
}

// mustRefuse tells, if a Put isn't refused with an error, or changes what is there.
func mustRefuse(t *testing.T, s *greenwald.Sketch, m *model, x int64, n uint64, want api.Errno) {
	t.Helper()
	if err := s.Put(x, n); err != want {
		t.Fatalf("Put of %d, %d by %v: %d, not %d", x, n, m.a, err, want)
	}
	mustTell(t, s, m)
}

// value is any, or one of few, or one at the ends.
func value(random *rand.Rand) int64 {
	switch random.Intn(6) {
	case 0:
		return int64(random.Uint64())
	case 1:
		return []int64{lowest, highest, -1, 0, 1}[random.Intn(5)]
	case 2:
		return int64(random.Intn(4))
	}
	return int64(random.Intn(100)) - 50
}
