package req_test

import (
	"math/rand"
	"testing"

	"ogive/api"
	"ogive/req"
)

// play makes towers, each by a word of its own, and does the same with them whatever the words are.
type play func(t *testing.T, words []uint64) []*req.Tower

// mustBeFair holds P21.2 over all ways in which the coins of towers could fall: the first one, into which the others were joined, is the one that is asked.
// Each tower has its own coins; how many it uses is told by the first way, and must be the same in all others.
func mustBeFair(t *testing.T, way play, truth *model, towers int) {
	t.Helper()
	first := way(t, make([]uint64, towers))
	used := 0
	for _, r := range first {
		used += r.Used()
	}
	if used > 12 {
		t.Fatalf("%d coins are too many to go through all", used)
	}
	put, probes := truth.truth(), truth.probes()
	sums := make([]int, len(probes))
	for fall := range uint64(1) << used {
		words := make([]uint64, towers)
		left := fall
		for i, r := range first {
			// What lies beyond the coins that are used must not be seen.
			words[i] = left&(1<<r.Used()-1) | ^left<<r.Used()
			left >>= r.Used()
		}
		played := way(t, words)
		mustBeAlike(t, first, played)
		mustLieClose(t, played[0], truth)
		for i, x := range probes {
			sums[i] += int(played[0].Rank(x)) - upTo(put, x)
		}
	}
	for i, x := range probes {
		if sums[i] != 0 {
			t.Fatalf("width %d, %d coins: over all ways Rank of %d is off by %d", truth.c.Width, used, x, sums[i])
		}
	}
}

// mustBeAlike tells, if towers have used other numbers of coins, or have rows of other lengths.
func mustBeAlike(t *testing.T, a, b []*req.Tower) {
	t.Helper()
	for i := range a {
		rows, others := a[i].Rows(), b[i].Rows()
		if a[i].Used() != b[i].Used() || len(rows) != len(others) || a[i].Total() != b[i].Total() {
			t.Fatalf("%d coins, %d rows, not %d, %d", b[i].Used(), len(others), a[i].Used(), len(rows))
		}
		for h := range rows {
			if len(rows[h]) != len(others[h]) {
				t.Fatalf("row %d has %d values, not %d", h, len(others[h]), len(rows[h]))
			}
		}
	}
}

// P21.2: values that are put to one tower.
func TestFairPuts(t *testing.T) {
	random := rand.New(rand.NewSource(218))
	for _, x := range []struct{ width, most int }{{4, 20}, {8, 36}, {12, 50}, {64, 300}} {
		for range 12 {
			var list []often
			truth := modelOf(config(x.width, 0))
			among := 1 + random.Int63n(40)
			for range x.width + random.Intn(x.most-x.width) {
				o := often{random.Int63n(among) - 10, 1}
				list = append(list, o)
				truth.all[o.x]++
			}
			mustBeFair(t, func(t *testing.T, words []uint64) []*req.Tower {
				return []*req.Tower{filled(t, config(x.width, words[0]), list...)}
			}, truth, 1)
		}
	}
}

// P21.2: values that are put to three towers, which are joined, and to these then, too.
func TestFairJoins(t *testing.T) {
	random := rand.New(rand.NewSource(219))
	for range 25 {
		width := 4 * (1 + random.Intn(3))
		among := 1 + random.Int63n(30)
		truth := modelOf(config(width, 0))
		lists := make([][]often, 4)
		for i := range lists {
			for range random.Intn(3*width/2 + 1) {
				o := often{random.Int63n(among), 1}
				lists[i] = append(lists[i], o)
				truth.all[o.x]++
			}
		}
		mustBeFair(t, func(t *testing.T, words []uint64) []*req.Tower {
			var towers []*req.Tower
			for i, word := range words {
				towers = append(towers, filled(t, config(width, word), lists[i]...))
			}
			for _, pair := range [][2]int{{1, 2}, {0, 1}} {
				if err := towers[pair[0]].Join(towers[pair[1]]); err != api.OK {
					t.Fatal(err)
				}
			}
			mustPut(t, towers[0], lists[3]...)
			return towers
		}, truth, 3)
	}
}

// P21.2: one that is joined into itself.
func TestFairDoubled(t *testing.T) {
	random := rand.New(rand.NewSource(220))
	for range 25 {
		width := 4 * (1 + random.Intn(3))
		truth := modelOf(config(width, 0))
		var list []often
		for range random.Intn(2*width + 1) {
			o := often{random.Int63n(20), 1}
			list = append(list, o)
			truth.all[o.x] += 2
		}
		mustBeFair(t, func(t *testing.T, words []uint64) []*req.Tower {
			r := filled(t, config(width, words[0]), list...)
			if err := r.Join(r); err != api.OK {
				t.Fatal(err)
			}
			return []*req.Tower{r}
		}, truth, 1)
	}
}
