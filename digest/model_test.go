package digest_test

import (
	"cmp"
	"maps"
	"math"
	"math/big"
	"math/rand"
	"slices"
	"strconv"
	"strings"
	"testing"

	"ogive/api"
	"ogive/digest"
)

const (
	least    = math.MinInt64
	greatest = math.MaxInt64
	count    = api.MaxCount
)

// often is a value, so often.
type often struct {
	x int64
	n uint64
}

// config is one of a depth and a factor.
func config(depth, factor int) digest.Config {
	return digest.Config{Depth: depth, Factor: factor}
}

// configs are those of which the tests go through all: low and high ones.
func configs() []digest.Config {
	var list []digest.Config
	for _, depth := range []int{1, 2, 3, 5, 10, 23, 24} {
		for _, factor := range []int{1, 2, 3, 7, 64} {
			list = append(list, config(depth, factor))
		}
	}
	return list
}

// model is a second reading. A node is told by the way to it from the one above all: a 0 to the lower half, a 1 to the upper one; so the way of a value is all of its bits.
type model struct {
	c         digest.Config
	counts    map[string]uint64
	all       map[int64]uint64 // all that was put, value by value; nil: it isn't known
	low, high int64
}

// modelOf is a model that was given some, all of which have room.
func modelOf(c digest.Config, list ...often) *model {
	m := &model{c: c, counts: map[string]uint64{}, all: map[int64]uint64{}}
	for _, o := range list {
		m.put(o.x, o.n)
	}
	return m
}

// modelOfRow is a model of counts by nodes, of which isn't known how they came there.
func modelOfRow(c digest.Config, row []api.Pair, low, high int64) *model {
	m := &model{c: c, counts: map[string]uint64{}, low: low, high: high}
	for _, p := range row {
		m.counts[strconv.FormatInt(int64(p.Index), 2)[1:]] = p.Count
	}
	return m
}

// same is another one that has the same.
func (m *model) same() *model {
	return &model{c: m.c, counts: maps.Clone(m.counts), all: maps.Clone(m.all), low: m.low, high: m.high}
}

// number is a node's, by its way.
func number(way string) int {
	n, _ := strconv.ParseInt("1"+way, 2, 64)
	return int(n)
}

// ends are the least and the greatest value below a node.
func (m *model) ends(way string) (int64, int64) {
	left := m.c.Depth - len(way)
	low, _ := strconv.ParseInt(way+strings.Repeat("0", left), 2, 64)
	high, _ := strconv.ParseInt(way+strings.Repeat("1", left), 2, 64)
	return low, high
}

// last is the greatest value that has a node.
func (m *model) last() int64 { return int64(math.Pow(2, float64(m.c.Depth))) - 1 }

// way is a value's.
func (m *model) way(x int64) string {
	bits := strconv.FormatInt(x, 2)
	return strings.Repeat("0", m.c.Depth-len(bits)) + bits
}

// total is how many there are, without a limit.
func (m *model) total() *big.Int {
	sum := new(big.Int)
	for _, n := range m.counts {
		sum.Add(sum, whole(n))
	}
	return sum
}

// limit is n / k, rounded down.
func (m *model) limit() *big.Int {
	return new(big.Int).Div(m.total(), big.NewInt(int64(m.c.Factor)))
}

// room is whether there may be so many more.
func (m *model) room(n *big.Int) bool {
	return new(big.Int).Add(m.total(), n).IsInt64()
}

// reach has values from low to high, too.
func (m *model) reach(low, high int64) {
	if len(m.counts) > 0 {
		low, high = min(low, m.low), max(high, m.high)
	}
	m.low, m.high = low, high
}

// put answers what Put asks for, and has it.
func (m *model) put(x int64, n uint64) api.Errno {
	if n == 0 {
		return api.ErrArg
	}
	if x < 0 || x > m.last() {
		return api.ErrRange
	}
	if !m.room(whole(n)) {
		return api.ErrFull
	}
	m.reach(x, x)
	m.counts[m.way(x)] += n
	if m.all != nil {
		m.all[x] += n
	}
	m.squeeze()
	return api.OK
}

// join answers what Join asks for, and has it.
func (m *model) join(o *model) api.Errno {
	if m.c != o.c {
		return api.ErrMatch
	}
	if len(o.counts) == 0 {
		return api.OK
	}
	if !m.room(o.total()) {
		return api.ErrFull
	}
	other := o.same()
	m.reach(other.low, other.high)
	for way, n := range other.counts {
		m.counts[way] += n
	}
	if m.all == nil || other.all == nil {
		m.all = nil
	} else {
		for x, n := range other.all {
			m.all[x] += n
		}
	}
	m.squeeze()
	return api.OK
}

// squeeze goes over all nodes from the deepest ones on, those of greater values first, again and again, if there are too many.
func (m *model) squeeze() {
	if len(m.counts) <= 4*m.c.Factor {
		return
	}
	limit := m.limit()
	for rose := true; rose; {
		rose = false
		for _, way := range m.downward() {
			if way == "" || m.counts[way] == 0 {
				continue
			}
			up := way[:len(way)-1]
			sum := new(big.Int)
			for _, one := range []string{up, up + "0", up + "1"} {
				sum.Add(sum, whole(m.counts[one]))
			}
			if sum.Cmp(limit) <= 0 {
				delete(m.counts, up+"0")
				delete(m.counts, up+"1")
				m.counts[up] = sum.Uint64()
				rose = true
			}
		}
	}
}

// downward are its nodes now, the one with the greatest number first.
func (m *model) downward() []string {
	return slices.SortedFunc(maps.Keys(m.counts), func(a, b string) int {
		return cmp.Or(cmp.Compare(len(b), len(a)), cmp.Compare(b, a))
	})
}

// told are its nodes in the order in which they are told: by their greatest values, then the deeper one.
func (m *model) told() []string {
	return slices.SortedFunc(maps.Keys(m.counts), func(a, b string) int {
		_, high := m.ends(a)
		_, other := m.ends(b)
		return cmp.Or(cmp.Compare(high, other), cmp.Compare(len(b), len(a)))
	})
}

// row is what Nodes answers.
func (m *model) row() []api.Pair {
	var row []api.Pair
	down := m.downward()
	slices.Reverse(down)
	for _, way := range down {
		row = append(row, api.Pair{Index: number(way), Count: m.counts[way]})
	}
	return row
}

// place is the one that a part asks for.
func (m *model) place(p api.Ratio) (*big.Int, api.Errno) {
	if p.Den == 0 || p.Num > p.Den {
		return nil, api.ErrArg
	}
	if len(m.counts) == 0 {
		return nil, api.ErrNone
	}
	place, rest := new(big.Int).DivMod(new(big.Int).Mul(m.total(), whole(p.Num)), whole(p.Den), new(big.Int))
	if rest.Sign() > 0 || place.Sign() == 0 {
		place.Add(place, big.NewInt(1))
	}
	return place, api.OK
}

// ranks are what Rank answers of values.
func (m *model) ranks(values []int64) [][2]uint64 {
	list := make([][2]uint64, len(values))
	for way, n := range m.counts {
		low, high := m.ends(way)
		for i, x := range values {
			if x >= high {
				list[i][0] += n
			}
			if x >= low {
				list[i][1] += n
			}
		}
	}
	return list
}

// parts are those that ask for each node's first and last place, and those beside these, and some that can't be.
func (m *model) parts() []api.Ratio {
	list := []api.Ratio{
		{Num: 0, Den: 1}, {Num: 1, Den: 4}, {Num: 1, Den: 2}, {Num: 99, Den: 100}, {Num: 1, Den: 1}, {Num: 0, Den: math.MaxUint64}, {Num: 1, Den: math.MaxUint64},
		{Num: math.MaxUint64 - 1, Den: math.MaxUint64}, {Num: math.MaxUint64, Den: math.MaxUint64},
		{Num: 0, Den: 0}, {Num: 1, Den: 0}, {Num: 2, Den: 1}, {Num: math.MaxUint64, Den: 1}, {Num: math.MaxUint64, Den: math.MaxUint64 - 1},
	}
	total, sum := m.total().Uint64(), uint64(0)
	for _, way := range m.told() {
		list = append(list, api.Ratio{Num: sum + 1, Den: total})
		sum += m.counts[way]
		list = append(list, api.Ratio{Num: sum, Den: total})
	}
	return list
}

// probes are values of which Rank is asked: the ends of its nodes, those beside them, and some that have no node.
func (m *model) probes() []int64 {
	list := []int64{least, least + 1, -1 << 24, -1, 0, 1, m.last(), m.last() + 1, 2*m.last() + 1, 1 << 24, 1 << 32, greatest - 1, greatest}
	for way := range m.counts {
		low, high := m.ends(way)
		list = append(list, low-1, low, low+1, high-1, high, high+1)
	}
	return list
}

// truth is all that was put, value by value, in order, and how many there are up to each one.
type truth struct {
	values []int64
	sums   []uint64
}

// truth is what a model knows of all values; nothing, if it doesn't.
func (m *model) truth() truth {
	all := truth{values: slices.Sorted(maps.Keys(m.all))}
	sum := uint64(0)
	for _, x := range all.values {
		sum += m.all[x]
		all.sums = append(all.sums, sum)
	}
	return all
}

// upTo is how many values up to one were put, that too.
func (all truth) upTo(x int64) uint64 {
	at, there := slices.BinarySearch(all.values, x)
	if there {
		at++
	}
	if at == 0 {
		return 0
	}
	return all.sums[at-1]
}

// whole is a number without a limit.
func whole(n uint64) *big.Int { return new(big.Int).SetUint64(n) }

// value is one that has a node: any, or at one of the ends, or one of few, or a square.
func value(random *rand.Rand, c digest.Config) int64 {
	end := int64(1) << c.Depth
	switch random.Intn(8) {
	case 0:
		return []int64{0, end - 1, end / 2, end/2 - 1}[random.Intn(4)]
	case 1, 2:
		return random.Int63n(end)
	case 3, 4:
		return random.Int63n(end) >> random.Intn(c.Depth+1)
	case 5:
		return end - 1 - random.Int63n(end)>>random.Intn(c.Depth+1)
	}
	return random.Int63n(60) * 7919 % end
}

// made is a digest without values.
func made(t *testing.T, c digest.Config) *digest.Digest {
	t.Helper()
	d, err := digest.New(c)
	if d == nil || err != api.OK {
		t.Fatalf("New of %v: %v, %d", c, d, err)
	}
	return d
}

// mustPut tells, if some, all of which have room, aren't put.
func mustPut(t *testing.T, d *digest.Digest, list ...often) {
	t.Helper()
	for _, o := range list {
		if err := d.Put(o.x, o.n); err != api.OK {
			t.Fatalf("Put of %d, %d: %d", o.x, o.n, err)
		}
	}
}

// filled is a digest to which some were put, all of which have room.
func filled(t *testing.T, c digest.Config, list ...often) *digest.Digest {
	t.Helper()
	d := made(t, c)
	mustPut(t, d, list...)
	return d
}

// loaded is a digest of a row and ends that can be.
func loaded(t *testing.T, c digest.Config, row []api.Pair, low, high int64) *digest.Digest {
	t.Helper()
	d, err := digest.Load(c, row, low, high)
	if d == nil || err != api.OK {
		t.Fatalf("Load of %v, %v, %d to %d: %v, %d", c, row, low, high, d, err)
	}
	return d
}

// again is what Load answers of all that another one tells.
func again(t *testing.T, d *digest.Digest) *digest.Digest {
	t.Helper()
	low, high, _ := d.Ends()
	return loaded(t, d.Config(), d.Nodes(), low, high)
}

// mustHold tells, if a digest, or one that is loaded of what it tells, doesn't answer by every call what all that it was given asks for.
func mustHold(t *testing.T, d *digest.Digest, m *model) {
	t.Helper()
	for _, one := range []*digest.Digest{d, again(t, d)} {
		mustTell(t, one, m)
		mustKnow(t, one, m)
		mustAsk(t, one, m)
		mustRank(t, one, m)
	}
}

// mustTell is the part of mustHold that asks what there is, and whether that may be.
func mustTell(t *testing.T, d *digest.Digest, m *model) {
	t.Helper()
	if d.Config() != m.c || d.Most() != 4*m.c.Factor || whole(d.Total()).Cmp(m.total()) != 0 {
		t.Fatalf("%v, %d nodes, %d values, not %v, %v", d.Config(), d.Most(), d.Total(), m.c, m.total())
	}
	row := d.Nodes()
	if !slices.Equal(row, m.row()) {
		t.Fatalf("Nodes by %v: %v, not %v", m.c, row, m.row())
	}
	mustFit(t, row, m)
	low, high, some := d.Ends()
	if len(m.counts) == 0 && (low != 0 || high != 0 || some) || len(m.counts) > 0 && (low != m.low || high != m.high || !some) {
		t.Fatalf("Ends by %v: %d, %d, %t, not %d, %d", m.c, low, high, some, m.low, m.high)
	}
}

// mustKnow is the part of mustHold that asks for what is exact.
func mustKnow(t *testing.T, d *digest.Digest, m *model) {
	t.Helper()
	all := m.truth()
	if len(all.values) == 0 {
		return
	}
	low, high, _ := d.Ends()
	if last := len(all.values) - 1; low != all.values[0] || high != all.values[last] || d.Total() != all.sums[last] {
		t.Fatalf("%d values, from %d to %d: %v", d.Total(), low, high, m.all)
	}
}

// mustFit tells, if there are too many nodes, or too many values of one that isn't a value's.
func mustFit(t *testing.T, row []api.Pair, m *model) {
	t.Helper()
	if len(row) > 4*m.c.Factor {
		t.Fatalf("%v: %d nodes", m.c, len(row))
	}
	limit, last := m.limit(), m.last()
	for _, p := range row {
		if int64(p.Index) <= last && whole(p.Count).Cmp(limit) > 0 {
			t.Fatalf("%v: %v of %v values", m.c, p, m.total())
		}
	}
}

// mustAsk is the part of mustHold that asks for values.
func mustAsk(t *testing.T, d *digest.Digest, m *model) {
	t.Helper()
	told, all := m.told(), m.truth()
	for _, p := range m.parts() {
		x, err := d.Quantile(p)
		place, wantErr := m.place(p)
		if wantErr != api.OK {
			if x != 0 || err != wantErr {
				t.Fatalf("Quantile of %v by %v: %d, %d, not %d", p, m.c, x, err, wantErr)
			}
			continue
		}
		sum, want := new(big.Int), int64(-1)
		for i := 0; sum.Cmp(place) < 0; i++ {
			sum.Add(sum, whole(m.counts[told[i]]))
			_, want = m.ends(told[i])
		}
		if x != want || err != api.OK {
			t.Fatalf("Quantile of %v by %v: %d, %d, not %d", p, m.c, x, err, want)
		}
		if m.all != nil {
			mustStand(t, m, all, x, place)
		}
	}
}

// mustStand tells, if up to a value there aren't as many as a place, of all that were put, or below it too many.
func mustStand(t *testing.T, m *model, all truth, x int64, place *big.Int) {
	t.Helper()
	most := new(big.Int).Mul(big.NewInt(int64(m.c.Depth)), m.limit())
	if whole(all.upTo(x)).Cmp(place) < 0 || whole(all.upTo(x-1)).Cmp(most.Add(most, place)) > 0 {
		t.Fatalf("%d at place %v by %v: %d up to it, %d below", x, place, m.c, all.upTo(x), all.upTo(x-1))
	}
}

// mustRank is the part of mustHold that asks how many there are up to values.
func mustRank(t *testing.T, d *digest.Digest, m *model) {
	t.Helper()
	all, probes := m.truth(), m.probes()
	for i, want := range m.ranks(probes) {
		x := probes[i]
		low, high := d.Rank(x)
		if low != want[0] || high != want[1] {
			t.Fatalf("Rank of %d by %v: %d, %d, not %v", x, m.c, low, high, want)
		}
		if n := all.upTo(x); m.all != nil && (n < low || n > high) {
			t.Fatalf("Rank of %d by %v: %d, %d, but there are %d", x, m.c, low, high, n)
		}
	}
}

// mustRefuse tells, if a Put isn't refused with an error, or changes what is there.
func mustRefuse(t *testing.T, d *digest.Digest, m *model, x int64, n uint64, want api.Errno) {
	t.Helper()
	if err := d.Put(x, n); err != want {
		t.Fatalf("Put of %d, %d by %v: %d, not %d", x, n, m.c, err, want)
	}
	mustHold(t, d, m)
}
