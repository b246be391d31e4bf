package digest_test

import (
	"math"
	"math/rand"
	"slices"
	"testing"

	"ogive/api"
	"ogive/digest"
)

// mustJoin tells, if one doesn't have all of another one behind Join, or that one isn't as it was.
func mustJoin(t *testing.T, d, o *digest.Digest, m, om *model) api.Errno {
	t.Helper()
	want := m.join(om)
	if err := d.Join(o); err != want {
		t.Fatalf("Join: %d, not %d", err, want)
	}
	mustHold(t, d, m)
	mustHold(t, o, om)
	return want
}

// P17.1, P17.2: what was put to many, joined by any tree.
func TestJoinTree(t *testing.T) {
	random := rand.New(rand.NewSource(174))
	for _, c := range configs() {
		for range 4 {
			var nodes []*digest.Digest
			var models []*model
			for range 1 + random.Intn(6) {
				d, m := made(t, c), modelOf(c)
				for range random.Intn(6 * c.Factor) {
					o := often{value(random, c), 1 + random.Uint64()>>(14+random.Intn(50))}
					mustPut(t, d, o)
					m.put(o.x, o.n)
				}
				nodes, models = append(nodes, d), append(models, m)
			}
			for len(nodes) > 1 {
				random.Shuffle(len(nodes), func(i, j int) {
					nodes[i], nodes[j] = nodes[j], nodes[i]
					models[i], models[j] = models[j], models[i]
				})
				mustJoin(t, nodes[0], nodes[1], models[0], models[1])
				nodes, models = slices.Delete(nodes, 1, 2), slices.Delete(models, 1, 2)
			}
		}
	}
}

// P17.1: both ways round, of empty ones too: the ends are those of both.
func TestJoinEnds(t *testing.T) {
	lists := [][]often{nil, {{0, 2}}, {{4, 1}}, {{7, 3}}, {{4, 1}, {5, 2}}, {{6, 1}, {1, 2}}, {{0, 1}, {7, 2}}, {{1, 1}, {2, 1}, {3, 1}, {4, 1}}, {{3, 1}, {4, 1}, {5, 1}, {6, 1}}, {{2, 1}, {3, 1}, {4, 1}, {5, 1}, {6, 1}}}
	for _, c := range []digest.Config{config(3, 1), config(3, 2), config(10, 1)} {
		for _, a := range lists {
			for _, b := range lists {
				mustJoin(t, filled(t, c, a...), filled(t, c, b...), modelOf(c, a...), modelOf(c, b...))
			}
		}
	}
}

// P17.1: one joined into itself has all twice, if there is room, and isn't squeezed, since it has no node more.
func TestJoinItself(t *testing.T) {
	random := rand.New(rand.NewSource(175))
	for _, c := range configs() {
		for range 4 {
			d, m := made(t, c), modelOf(c)
			for range random.Intn(8 * c.Factor) {
				o := often{value(random, c), 1 + random.Uint64()>>(14+random.Intn(50))}
				mustPut(t, d, o)
				m.put(o.x, o.n)
			}
			nodes := len(d.Nodes())
			mustJoin(t, d, d, m, m)
			if len(d.Nodes()) != nodes {
				t.Fatalf("%v: %d nodes, not %d", c, len(d.Nodes()), nodes)
			}
		}
	}
	c := config(3, 1)
	for _, n := range []uint64{1 << 61, 1<<62 - 1, 1 << 62, count} {
		mustJoin(t, filled(t, c, often{5, n}), filled(t, c, often{5, n}), modelOf(c, often{5, n}), modelOf(c, often{5, n}))
		d, m := filled(t, c, often{5, n}), modelOf(c, often{5, n})
		mustJoin(t, d, d, m, m)
	}
}

// P17.1: two with as many nodes as may be, all of them others: they are squeezed but once, when all are there.
func TestJoinMost(t *testing.T) {
	random := rand.New(rand.NewSource(176))
	for _, factor := range []int{1, 2, 3, 16, 64} {
		c := config(9, factor)
		for _, most := range []int{1, 3, 9} {
			d, m := made(t, c), modelOf(c)
			o, om := made(t, c), modelOf(c)
			for i := range 4 * factor {
				a, b := often{int64(2 * i), 1 + uint64(random.Intn(most))}, often{int64(2*i + 1), 1 + uint64(random.Intn(most))}
				mustPut(t, d, a)
				m.put(a.x, a.n)
				mustPut(t, o, b)
				om.put(b.x, b.n)
			}
			mustJoin(t, d, o, m, om)
		}
	}
	row := make([]api.Pair, 4)
	other := make([]api.Pair, 4)
	for i := range row {
		row[i], other[i] = api.Pair{Index: 16 + 2*i, Count: 1}, api.Pair{Index: 17 + 2*i, Count: 1}
	}
	c := config(4, 1)
	d := loaded(t, c, row, 0, 7)
	if err := d.Join(loaded(t, c, other, 0, 7)); err != api.OK || !slices.Equal(d.Nodes(), []api.Pair{{Index: 1, Count: 8}}) {
		t.Errorf("%d: %v", err, d.Nodes())
	}
}

// P17.1: nodes that lie anywhere, together: those that are too many are squeezed, and no others.
func TestJoinSqueeze(t *testing.T) {
	random := rand.New(rand.NewSource(177))
	for range 5000 {
		c := config(3+random.Intn(3), 1+random.Intn(4))
		row, other := anyRow(random, c, 1+random.Intn(4*c.Factor)), anyRow(random, c, 1+random.Intn(4*c.Factor))
		ends := func(row []api.Pair) int64 { return int64(min(len(row), 1)) }
		d, m := loaded(t, c, row, 0, ends(row)), modelOfRow(c, row, 0, ends(row))
		o, om := loaded(t, c, other, 0, ends(other)), modelOfRow(c, other, 0, ends(other))
		want := m.join(om)
		if err := d.Join(o); err != want {
			t.Fatalf("Join: %d, not %d", err, want)
		}
		mustTell(t, d, m)
		mustTell(t, o, om)
	}
}

// P17.1: two know nothing of one another behind a Join.
func TestJoinApart(t *testing.T) {
	for _, c := range []digest.Config{config(3, 1), config(5, 2)} {
		for _, first := range [][]often{nil, {{5, 1}}, {{7, 1}, {3, 1}}} {
			list := []often{{7, 2}, {2, 1}, {0, 2}}
			d, o := filled(t, c, first...), filled(t, c, list...)
			m, om := modelOf(c, first...), modelOf(c, list...)
			mustJoin(t, d, o, m, om)
			for _, x := range []often{{6, 3}, {7, 1}, {0, 5}, {1, 1}} {
				mustPut(t, o, x)
				om.put(x.x, x.n)
			}
			mustHold(t, d, m)
			mustHold(t, o, om)
			for _, x := range []often{{4, 3}, {2, 7}, {7, 6}, {0, 9}} {
				mustPut(t, d, x)
				m.put(x.x, x.n)
			}
			mustHold(t, d, m)
			mustHold(t, o, om)
		}
	}
}

// P17.1: another config is ErrMatch, also of one without values, and ahead of ErrFull; nothing changes.
func TestJoinMatch(t *testing.T) {
	for _, c := range configs() {
		for _, other := range configs() {
			for _, n := range []uint64{1, 2, count} {
				d, m := filled(t, c, often{1, n}), modelOf(c, often{1, n})
				o, om := filled(t, other, often{0, n}), modelOf(other, often{0, n})
				err := d.Join(o)
				if want := m.join(om); err != want || (c != other) != (err == api.ErrMatch) {
					t.Fatalf("%v and %v: %d, not %d", c, other, err, want)
				}
				mustTell(t, d, m)
				mustTell(t, o, om)
				err = d.Join(made(t, other))
				if want := m.join(modelOf(other)); err != want {
					t.Fatalf("%v and %v: %d, not %d", c, other, err, want)
				}
				mustTell(t, d, m)
			}
		}
	}
}

// P17.1: together they are at most MaxCount: 1 more is ErrFull, and nothing changes.
func TestJoinTooMany(t *testing.T) {
	for _, c := range []digest.Config{config(3, 1), config(3, 2), config(24, 64)} {
		for _, x := range [][2][]often{
			{{{5, count}}, {{1, 1}}}, {{{5, count - 1}}, {{1, 1}}}, {{{5, count - 1}}, {{1, 2}}}, {{{5, count}}, {{5, count}}}, {{{5, 1 << 62}}, {{5, 1 << 62}}}, {{{5, 1 << 62}}, {{5, 1<<62 - 1}}},
			{{{0, 1}, {1, 1}, {2, 1}, {3, 1 << 62}}, {{4, 1}, {5, 1 << 61}, {6, 1 << 61}}}, {{{0, 1}, {1, 1}, {2, 1}, {3, 1 << 62}}, {{4, 1}, {5, 1 << 61}, {6, 1<<61 - 5}}}, {{{0, 1}, {1, 1}, {2, 1}, {3, 1 << 62}}, {{4, 1}, {5, 1 << 61}, {6, 1<<61 - 4}}},
			{{{5, count}}, nil}, {{{0, count - 1}}, {{7, count}}},
		} {
			mustJoin(t, filled(t, c, x[0]...), filled(t, c, x[1]...), modelOf(c, x[0]...), modelOf(c, x[1]...))
			mustJoin(t, filled(t, c, x[1]...), filled(t, c, x[0]...), modelOf(c, x[1]...), modelOf(c, x[0]...))
		}
	}
}

// P17.1: one that is loaded goes on, as the one it came from does.
func TestLoadGoesOn(t *testing.T) {
	random := rand.New(rand.NewSource(178))
	for _, c := range configs() {
		for range 3 {
			d, m := made(t, c), modelOf(c)
			for range random.Intn(8 * c.Factor) {
				o := often{value(random, c), 1 + random.Uint64()>>(14+random.Intn(50))}
				mustPut(t, d, o)
				m.put(o.x, o.n)
			}
			back, more := again(t, d), m.same()
			for range 5 * c.Factor {
				o := often{value(random, c), 1 + random.Uint64()>>(14+random.Intn(50))}
				mustPut(t, back, o)
				more.put(o.x, o.n)
				mustTell(t, back, more)
			}
			mustHold(t, d, m)
			mustJoin(t, back, d, more, m)
			mustJoin(t, d, back, m, more)
		}
	}
}

// mustNotLoad tells, if a Load isn't refused.
func mustNotLoad(t *testing.T, c digest.Config, row []api.Pair, low, high int64) {
	t.Helper()
	if d, err := digest.Load(c, row, low, high); d != nil || err != api.ErrArg {
		t.Fatalf("Load of %v, %v, %d to %d: %v, %d", c, row, low, high, d, err)
	}
}

// P17.1: Load of a row that can't be, or of what is no node, is ErrArg, and nothing beside it; what just can be is taken.
func TestLoadBad(t *testing.T) {
	for _, c := range configs() {
		end := 2 << c.Depth
		for _, row := range [][]api.Pair{{{Index: end - 1, Count: 1}}, {{Index: end / 2, Count: count}}, {{Index: end / 2, Count: 3}, {Index: end - 1, Count: 1}}, {{Index: end / 2, Count: count - 1}, {Index: end/2 + 1, Count: 1}}} {
			mustHold(t, loaded(t, c, row, 0, 1), modelOfRow(c, row, 0, 1))
		}
		for _, row := range [][]api.Pair{
			{{Index: 0, Count: 1}}, {{Index: -1, Count: 1}}, {{Index: end, Count: 1}}, {{Index: end + 1, Count: 1}}, {{Index: 2 * end, Count: 1}}, {{Index: math.MaxInt, Count: 1}}, {{Index: math.MinInt, Count: 1}}, {{Index: 1<<32 + 3, Count: 1}}, {{Index: 1 << 62, Count: 1}},
			{{Index: 0, Count: 1}, {Index: end - 1, Count: 70}}, {{Index: -7, Count: 1}, {Index: end - 1, Count: 70}}, {{Index: end - 1, Count: 70}, {Index: end, Count: 1}}, {{Index: end / 2, Count: 70}, {Index: end - 1, Count: 1}, {Index: math.MaxInt, Count: 1}},
			{{Index: end - 1, Count: 0}}, {{Index: end / 2, Count: 1}, {Index: end - 1, Count: 0}}, {{Index: end - 1, Count: 1}, {Index: end / 2, Count: 1}}, {{Index: end - 1, Count: 1}, {Index: end - 1, Count: 1}},
			{{Index: end - 1, Count: count + 1}}, {{Index: end - 1, Count: math.MaxUint64}}, {{Index: end / 2, Count: count}, {Index: end - 1, Count: 1}}, {{Index: end / 2, Count: 1}, {Index: end - 1, Count: count}}, {{Index: end / 2, Count: count}, {Index: end - 1, Count: count + 2}},
		} {
			mustNotLoad(t, c, row, 0, 1)
			mustNotLoad(t, c, row, 0, 0)
		}
	}
}

// P17.1: Load of as many nodes as may be isn't squeezed; 1 more is ErrArg.
func TestLoadMost(t *testing.T) {
	for _, factor := range []int{1, 2, 7, 63, 64} {
		c := config(9, factor)
		var row []api.Pair
		for i := range 4 * factor {
			row = append(row, api.Pair{Index: 512 + i, Count: 1})
		}
		mustHold(t, loaded(t, c, row, 0, 300), modelOfRow(c, row, 0, 300))
		mustNotLoad(t, c, append(row, api.Pair{Index: 1023, Count: 1}), 0, 300)
		mustNotLoad(t, c, append(slices.Clone(row), row...), 0, 300)
	}
}

// P17.1: a node that isn't a value's has at most n / k, wherever it lies; a value's may have all.
func TestLoadLimit(t *testing.T) {
	for _, x := range []struct {
		factor  int
		n, more uint64
		fits    bool
	}{
		{1, 5, 0, true}, {1, count, 0, true}, {1, count - 1, 1, true}, {2, 1, 1, true}, {2, 2, 1, false}, {2, 2, 2, true}, {2, 3, 2, false}, {3, 1, 1, false}, {3, 1, 2, true}, {3, 2, 3, false}, {3, 2, 4, true}, {2, 1, 0, false},
		{64, 1, 62, false}, {64, 1, 63, true}, {64, 2, 125, false}, {64, 2, 126, true}, {2, 1<<62 - 1, 1 << 62, true}, {2, 1 << 62, 1<<62 - 1, false}, {64, count / 64, count - count/64, true}, {64, count/64 + 1, count - count/64 - 1, false}, {2, count, 0, false},
	} {
		c := config(4, x.factor)
		for v := 1; v < 16; v++ {
			row := []api.Pair{{Index: v, Count: x.n}}
			if x.more > 0 {
				row = append(row, api.Pair{Index: 31, Count: x.more})
			}
			if x.fits {
				mustHold(t, loaded(t, c, row, 3, 9), modelOfRow(c, row, 3, 9))
			} else {
				mustNotLoad(t, c, row, 3, 9)
			}
		}
		for v := 16; v < 31; v++ {
			row := []api.Pair{{Index: v, Count: x.n}}
			mustHold(t, loaded(t, c, row, 3, 9), modelOfRow(c, row, 3, 9))
		}
	}
	mustNotLoad(t, config(4, 2), []api.Pair{{Index: 2, Count: 1}, {Index: 3, Count: 3}, {Index: 20, Count: 1}}, 3, 9)
	loaded(t, config(4, 2), []api.Pair{{Index: 2, Count: 2}, {Index: 3, Count: 3}, {Index: 20, Count: 1}}, 3, 9)
}

// P17.1: the ends are values of the tree, in order; of no values both are 0. What else they are isn't held against the row: they grow with what comes.
func TestLoadEnds(t *testing.T) {
	for _, c := range configs() {
		last := int64(1)<<c.Depth - 1
		row := []api.Pair{{Index: int(last) + 1, Count: 3}}
		for _, empty := range [][]api.Pair{nil, {}} {
			mustHold(t, loaded(t, c, empty, 0, 0), modelOf(c))
			for _, x := range [][2]int64{{1, 1}, {0, 1}, {0, last}, {last, last}, {-1, 0}, {-1, 1}, {1, 0}, {0, -1}, {-1, -1}, {least, greatest}, {0, greatest}} {
				mustNotLoad(t, c, empty, x[0], x[1])
			}
		}
		for _, x := range [][2]int64{{1, 0}, {-1, 0}, {0, -1}, {-1, -1}, {0, last + 1}, {last, last + 1}, {last + 1, last + 1}, {last + 1, last}, {last, 0}, {least, 0}, {least, greatest}, {0, greatest}, {greatest, greatest}, {0, 1 << 32}, {1 << 32, 1 << 32}, {-1, last}} {
			mustNotLoad(t, c, row, x[0], x[1])
		}
		for _, x := range [][2]int64{{0, 0}, {0, 1}, {1, 1}, {0, last}, {last, last}, {last - 1, last}, {last / 2, last/2 + 1}} {
			d, m := loaded(t, c, row, x[0], x[1]), modelOfRow(c, row, x[0], x[1])
			mustHold(t, d, m)
			for _, y := range []int64{last / 2, 0, last} {
				mustPut(t, d, often{y, 1})
				m.put(y, 1)
				mustHold(t, d, m)
			}
		}
	}
}

// P17.1: a row that is handed in isn't changed, nor kept.
func TestLoadApart(t *testing.T) {
	c := config(3, 1)
	room := []api.Pair{{Index: 2, Count: 1}, {Index: 9, Count: 2}, {Index: 14, Count: 7}}
	row := slices.Clone(room)[:2]
	d, m := loaded(t, c, row, 0, 3), modelOfRow(c, row, 0, 3)
	for _, o := range []often{{1, 1}, {5, 2}, {6, 1}} {
		mustPut(t, d, o)
		m.put(o.x, o.n)
	}
	clear(row)
	mustHold(t, d, m)
	mustPut(t, d, often{1, 4}, often{0, 1}, often{7, 1})
	if !slices.Equal(row[:3], []api.Pair{{}, {}, room[2]}) {
		t.Errorf("a row that was handed in: %v", row[:3])
	}
}
