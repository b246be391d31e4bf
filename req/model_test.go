package req_test

import (
	"maps"
	"math"
	"math/big"
	"math/rand"
	"slices"
	"strconv"
	"strings"
	"testing"

	"ogive/api"
	"ogive/req"
)

const (
	lowest  = math.MinInt64
	highest = math.MaxInt64
	all     = math.MaxUint64
	round   = 64
)

// often is a value, so often.
type often struct {
	x int64
	n uint64
}

// of is a part.
func of(num, den uint64) api.Ratio { return api.Ratio{Num: num, Den: den} }

// config is one of a width and a word.
func config(width int, word uint64) req.Config { return req.Config{Width: width, Word: word} }

// configs are those of which the tests go through all: low and high widths, coins of one kind and of both.
func configs() []req.Config {
	var list []req.Config
	for _, width := range []int{4, 8, 12, 32, 60, 64} {
		for _, word := range []uint64{0, all, 0b1011, 0xC4ED70A5619B23F8} {
			list = append(list, config(width, word))
		}
	}
	return list
}

// item is a value, and how many rows there are below it.
type item struct {
	x    int64
	over int
}

// model is a second reading: one list of all that is kept, in the order in which each came to its row.
type model struct {
	c         req.Config
	items     []item
	used      int
	low, high int64
	all       map[int64]int // all that was put, value by value; nil: it isn't known
}

// modelOf is a model that was given some, all of which have room.
func modelOf(c req.Config, list ...often) *model {
	m := &model{c: c, all: map[int64]int{}}
	for _, o := range list {
		m.put(o.x, o.n)
	}
	return m
}

// modelOfRows is a model of rows, of which isn't known how they came there.
func modelOfRows(c req.Config, rows [][]int64, used int, low, high int64) *model {
	m := &model{c: c, used: used, low: low, high: high}
	for h, row := range rows {
		for _, x := range row {
			m.items = append(m.items, item{x, h})
		}
	}
	return m
}

// same is another one that has the same.
func (m *model) same() *model {
	other := *m
	other.items, other.all = slices.Clone(m.items), maps.Clone(m.all)
	return &other
}

// coin is the next one, read from the text that tells the word's bits: the last digit is the first coin.
func (m *model) coin() bool {
	text := strconv.FormatUint(m.c.Word, 2)
	text = strings.Repeat("0", round-len(text)) + text
	at := (m.used%round + round) % round
	m.used++
	return text[len(text)-1-at] == '1'
}

// rows are the values of each row, up to the highest one that has some.
func (m *model) rows() [][]int64 {
	rows := [][]int64{nil}
	for _, it := range m.items {
		for len(rows) <= it.over {
			rows = append(rows, nil)
		}
		rows[it.over] = append(rows[it.over], it.x)
	}
	return rows
}

// told is each value as often as it counts, in order.
func (m *model) told() []int64 {
	var list []int64
	for _, it := range m.items {
		times := 1
		for range it.over {
			times *= 2
		}
		list = append(list, slices.Repeat([]int64{it.x}, times)...)
	}
	slices.Sort(list)
	return list
}

// total is how many there are.
func (m *model) total() int {
	n := 0
	for h, many := range m.heights() {
		n += many * int(math.Pow(2, float64(h)))
	}
	return n
}

// most is how many there may be.
func (m *model) most() int { return m.c.Width * 1024 }

// reach has values from low to high, too.
func (m *model) reach(low, high int64) {
	if len(m.items) > 0 {
		low, high = min(low, m.low), max(high, m.high)
	}
	m.low, m.high = low, high
}

// put answers what Put asks for, and has it.
func (m *model) put(x int64, n uint64) api.Errno {
	if n == 0 {
		return api.ErrArg
	}
	if n > 1024 {
		return api.ErrLong
	}
	if m.total()+int(n) > m.most() {
		return api.ErrFull
	}
	for range n {
		m.reach(x, x)
		m.items = append(m.items, item{x, 0})
		m.settle()
	}
	if m.all != nil {
		m.all[x] += int(n)
	}
	return api.OK
}

// join answers what Join asks for, and has it.
func (m *model) join(o *model) api.Errno {
	if m.c.Width != o.c.Width {
		return api.ErrMatch
	}
	if len(o.items) == 0 {
		return api.OK
	}
	if m.total()+o.total() > m.most() {
		return api.ErrFull
	}
	other := o.same()
	m.reach(other.low, other.high)
	m.items = append(m.items, other.items...)
	m.settle()
	if m.all == nil || other.all == nil {
		m.all = nil
		return api.OK
	}
	for x, n := range other.all {
		m.all[x] += n
	}
	return api.OK
}

// heights are how many values each row has.
func (m *model) heights() [40]int {
	var many [40]int
	for _, it := range m.items {
		many[it.over]++
	}
	return many
}

// settle goes up from row to row. Of one that has too many, pairs are taken away from its upper end, till fewer than a pair and half a width stay; of each pair one goes up.
func (m *model) settle() {
	many := m.heights()
	for h := range many {
		if many[h] < m.c.Width {
			continue
		}
		row := m.out(h)
		slices.Sort(row)
		second := m.coin()
		var up []int64
		for len(row) >= m.c.Width/2+2 {
			n := len(row)
			one := row[n-2]
			if second {
				one = row[n-1]
			}
			up, row = append([]int64{one}, up...), row[:n-2]
		}
		for _, x := range row {
			m.items = append(m.items, item{x, h})
		}
		for _, x := range up {
			m.items = append(m.items, item{x, h + 1})
		}
		many[h+1] += len(up)
	}
}

// out takes a row out of all that is kept.
func (m *model) out(h int) []int64 {
	var row []int64
	m.items = slices.DeleteFunc(m.items, func(it item) bool {
		if it.over == h {
			row = append(row, it.x)
		}
		return it.over == h
	})
	return row
}

// ends are the least and the greatest value.
func (m *model) ends() (int64, int64, bool) {
	if len(m.items) == 0 {
		return 0, 0, false
	}
	if m.all == nil {
		return m.low, m.high, true
	}
	values := slices.Collect(maps.Keys(m.all))
	return slices.Min(values), slices.Max(values), true
}

// place is the one that a part asks for, of so many.
func place(p api.Ratio, n int) (int, api.Errno) {
	if p.Den == 0 || p.Num > p.Den {
		return 0, api.ErrArg
	}
	if n == 0 {
		return 0, api.ErrNone
	}
	num, den := new(big.Int).SetUint64(p.Num), new(big.Int).SetUint64(p.Den)
	up := num.Mul(num, big.NewInt(int64(n)))
	up.Add(up, den).Sub(up, big.NewInt(1)).Div(up, den)
	return max(1, int(up.Int64())), api.OK
}

// parts are those at which something may change: the places at which a value gives way to another one and those beside them, the ends, and some that can't be.
func parts(told []int64) []api.Ratio {
	list := []api.Ratio{of(0, 1), of(1, 4), of(1, 2), of(99, 100), of(1, 1), of(0, all), of(1, all), of(all-1, all), of(all, all), of(0, 0), of(1, 0), of(2, 1), of(all, 1), of(all, all-1)}
	n := uint64(len(told))
	for i := range told {
		if i > 0 && told[i] == told[i-1] {
			continue
		}
		at := uint64(i)
		list = append(list, of(at, n), of(at+1, n), of(2*at+1, 2*n))
		if at > 0 {
			list = append(list, of(at-1, n))
		}
	}
	return list
}

// probes are values of which Rank is asked: those that are kept, those that were put, and those beside them.
func (m *model) probes() []int64 {
	list := []int64{lowest, lowest + 1, -1, 0, 1, highest - 1, highest}
	for _, it := range m.items {
		list = append(list, it.x-1, it.x, it.x+1)
	}
	for x := range m.all {
		list = append(list, x-1, x, x+1)
	}
	slices.Sort(list)
	return slices.Compact(list)
}

// upTo is how many values of a list in order there are up to one.
func upTo(list []int64, x int64) int {
	n, there := slices.BinarySearch(list, x)
	for there && n < len(list) && list[n] == x {
		n++
	}
	return n
}

// truth is all that was put, in order.
func (m *model) truth() []int64 {
	var list []int64
	for _, x := range slices.Sorted(maps.Keys(m.all)) {
		list = append(list, slices.Repeat([]int64{x}, m.all[x])...)
	}
	return list
}

// made is a tower without values.
func made(t *testing.T, c req.Config) *req.Tower {
	t.Helper()
	r, err := req.New(c)
	if r == nil || err != api.OK {
		t.Fatalf("New of %v: %v, %d", c, r, err)
	}
	return r
}

// mustPut tells, if some, all of which have room, aren't put.
func mustPut(t *testing.T, r *req.Tower, list ...often) {
	t.Helper()
	for _, o := range list {
		if err := r.Put(o.x, o.n); err != api.OK {
			t.Fatalf("Put of %d, %d: %d", o.x, o.n, err)
		}
	}
}

// mustPutBoth puts some to a tower and to its model.
func mustPutBoth(t *testing.T, r *req.Tower, m *model, list ...often) {
	t.Helper()
	mustPut(t, r, list...)
	for _, o := range list {
		m.put(o.x, o.n)
	}
}

// filled is a tower to which some were put, all of which have room.
func filled(t *testing.T, c req.Config, list ...often) *req.Tower {
	t.Helper()
	r := made(t, c)
	mustPut(t, r, list...)
	return r
}

// loaded is a tower of rows that can be.
func loaded(t *testing.T, c req.Config, rows [][]int64, used int, low, high int64) *req.Tower {
	t.Helper()
	r, err := req.Load(c, rows, used, low, high)
	if r == nil || err != api.OK {
		t.Fatalf("Load of %v, %v, %d, %d to %d: %v, %d", c, rows, used, low, high, r, err)
	}
	return r
}

// again is what Load answers of all that another one tells.
func again(t *testing.T, r *req.Tower) *req.Tower {
	t.Helper()
	low, high, _ := r.Ends()
	return loaded(t, r.Config(), r.Rows(), r.Used(), low, high)
}

// same is whether two lists of rows are.
func same(a, b [][]int64) bool {
	return slices.EqualFunc(a, b, func(a, b []int64) bool { return slices.Equal(a, b) })
}

// mustTell tells, if a tower doesn't have just what all that it was given asks for.
func mustTell(t *testing.T, r *req.Tower, m *model) {
	t.Helper()
	if r.Config() != m.c || r.Used() != m.used || r.Most() != uint64(m.most()) || r.Total() != uint64(m.total()) {
		t.Fatalf("%v, %d coins, %d of %d, not %v, %d, %d of %d", r.Config(), r.Used(), r.Total(), r.Most(), m.c, m.used, m.total(), m.most())
	}
	if rows := r.Rows(); !same(rows, m.rows()) {
		t.Fatalf("rows by %v: %v, not %v", m.c, rows, m.rows())
	}
	low, high, some := r.Ends()
	if least, greatest, any := m.ends(); low != least || high != greatest || some != any {
		t.Fatalf("ends by %v: %d, %d, %t, not %d, %d, %t", m.c, low, high, some, least, greatest, any)
	}
	if n := len(r.Rows()); n > api.MaxRows {
		t.Fatalf("%d rows by %v", n, m.c)
	}
}

// mustHold tells, if a tower doesn't answer by every call what all that it was given asks for, or changes by that.
func mustHold(t *testing.T, r *req.Tower, m *model) {
	t.Helper()
	mustTell(t, r, m)
	mustAsk(t, r, m)
	mustTell(t, r, m)
	if r.Used() >= 0 {
		mustTell(t, again(t, r), m)
	}
	mustBeApart(t, r, m)
}

// mustAsk is the part of mustHold that asks for values, and how many there are up to values.
func mustAsk(t *testing.T, r *req.Tower, m *model) {
	t.Helper()
	told := m.told()
	for _, x := range m.probes() {
		if n := r.Rank(x); n != uint64(upTo(told, x)) {
			t.Fatalf("Rank of %d by %v: %d, not %d", x, m.c, n, upTo(told, x))
		}
	}
	for _, p := range parts(told) {
		x, err := r.Quantile(p)
		at, wantErr := place(p, len(told))
		want := int64(0)
		if wantErr == api.OK {
			want = told[at-1]
		}
		if x != want || err != wantErr {
			t.Fatalf("Quantile of %v by %v: %d, %d, not %d, %d", p, m.c, x, err, want, wantErr)
		}
	}
	mustLieClose(t, r, m)
}

// mustLieClose holds what is promised of all ranks, if it is known what was put.
func mustLieClose(t *testing.T, r *req.Tower, m *model) {
	t.Helper()
	if m.all == nil {
		return
	}
	put, n, rows := m.truth(), int(r.Total()), len(r.Rows())
	if n != len(put) {
		t.Fatalf("%d values by %v, not %d", n, m.c, len(put))
	}
	for _, x := range m.probes() {
		up := upTo(put, x)
		far := int(r.Rank(x)) - up
		if up <= m.c.Width/2 && far != 0 || max(far, -far)*m.c.Width > 2*n*rows {
			t.Fatalf("Rank of %d by %v is off by %d: %d of %d, in %d rows", x, m.c, far, up, n, rows)
		}
	}
}

// mustBeApart is the part of mustHold that writes over the rows that are told, and over their spare room.
func mustBeApart(t *testing.T, r *req.Tower, m *model) {
	t.Helper()
	rows, other := r.Rows(), r.Rows()
	for i := range rows {
		spoil(rows[i])
		if !same(rows[i+1:], m.rows()[i+1:]) {
			t.Fatalf("row %d shares with one above it", i)
		}
	}
	clear(rows[:cap(rows)])
	if !same(other, m.rows()) {
		t.Fatalf("rows share with an earlier answer: %v, not %v", other, m.rows())
	}
	mustTell(t, r, m)
}

// spoil writes over a row, and over its spare room.
func spoil(row []int64) {
	for i := range row[:cap(row)] {
		row[:cap(row)][i] = -5555
	}
}

// mustRefuse tells, if a Put isn't refused with an error, or changes what is there.
func mustRefuse(t *testing.T, r *req.Tower, m *model, x int64, n uint64, want api.Errno) {
	t.Helper()
	if err := r.Put(x, n); err != want {
		t.Fatalf("Put of %d, %d by %v: %d, not %d", x, n, m.c, err, want)
	}
	mustTell(t, r, m)
}

// value is any, or one of few, or one at the ends.
func value(random *rand.Rand) int64 {
	switch random.Intn(6) {
	case 0:
		return int64(random.Uint64())
	case 1:
		return []int64{lowest, highest, -1, 0, 1}[random.Intn(5)]
	case 2:
		return int64(random.Intn(4))
	}
	return int64(random.Intn(100)) - 50
}

// some is a value, now and then more than once.
func some(random *rand.Rand) often {
	return often{value(random), 1 + uint64(random.Intn(1<<random.Intn(5)))}
}
