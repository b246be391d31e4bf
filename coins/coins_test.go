package coins_test

import (
	"math"
	"math/rand"
	"slices"
	"testing"

	"ogive/coins"
)

// P20.1: the chapter's example.
func TestExample(t *testing.T) {
	row := []int64{1, 2, 3, 4}
	if half := coins.Halve(row, false); !slices.Equal(half, []int64{1, 3}) {
		t.Errorf("Halve: %v", half)
	}
	if half := coins.Halve(row, true); !slices.Equal(half, []int64{2, 4}) {
		t.Errorf("Halve, second: %v", half)
	}
}

// P20.1: coins by hand: the lowest bit is the first one, and behind the highest one it comes again.
func TestCoins(t *testing.T) {
	tape := coins.New(1<<63 | 0b1101)
	for k, want := range []bool{true, false, true, true, false} {
		if coin := tape.Next(); coin != want || tape.Used() != k+1 {
			t.Errorf("coin %d: %t, %d used", k, coin, tape.Used())
		}
	}
	for k := 5; k < 63; k++ {
		if tape.Next() {
			t.Errorf("coin %d is set", k)
		}
	}
	for k, want := range []bool{true, true, false, true, true, false} {
		if coin := tape.Next(); coin != want || tape.Used() != 63+k+1 {
			t.Errorf("coin %d: %t, %d used", 63+k, coin, tape.Used())
		}
	}
	if tape.Word() != 1<<63|0b1101 {
		t.Errorf("word %x", tape.Word())
	}
}

// P20.1: words of one bit, of all but one, of none, of all, and many others, more than three times round.
func TestNext(t *testing.T) {
	words := []uint64{0, math.MaxUint64, 0xaaaaaaaaaaaaaaaa, 0x5555555555555555, 1<<32 - 1, ^uint64(1<<32 - 1)}
	for bit := range round {
		words = append(words, 1<<bit, ^uint64(1<<bit), 1<<bit-1)
	}
	source := rand.New(rand.NewSource(201))
	for range 500 {
		words = append(words, source.Uint64()>>source.Intn(round))
	}
	for _, word := range words {
		mustGive(t, coins.New(word), word, 0, 3*round+7)
	}
}

// P20.1: Skip, from any number used to any other one, that ahead and that behind.
func TestSkip(t *testing.T) {
	source := rand.New(rand.NewSource(202))
	tape := coins.New(0)
	for range 100 {
		word := source.Uint64()
		tape = coins.New(word)
		for range 20 {
			used := int(source.Int63() >> source.Intn(63))
			if !tape.Skip(used) {
				t.Fatalf("%d can't be skipped to", used)
			}
			mustGive(t, tape, word, used, source.Intn(2*round))
		}
	}
	for _, used := range []int{0, 1, 62, 63, 64, 65, 127, 128, 1 << 31, 1<<32 - 1, 1 << 32, 1 << 62, math.MaxInt - 140, math.MaxInt - 128} {
		for _, word := range []uint64{1, 1 << 63, 0xf0f0f0f00f0f0f0f} {
			tape = coins.New(word)
			mustGive(t, tape, word, 0, 5)
			// So many in all, not so many more; and twice is as once.
			if !tape.Skip(used) || !tape.Skip(used) {
				t.Fatalf("%d can't be skipped to", used)
			}
			mustGive(t, tape, word, used, round+1)
			if !tape.Skip(0) {
				t.Fatalf("0 can't be skipped to")
			}
			mustGive(t, tape, word, 0, 5)
		}
	}
}

// P20.1: Skip to below 0 is refused, and nothing happens.
func TestSkipBad(t *testing.T) {
	const word = 0x123456789abcdef1
	for _, bad := range []int{-1, -2, -63, -64, -65, -1 << 31, -1 << 32, math.MinInt + 1, math.MinInt} {
		tape := coins.New(word)
		for k := range 3 * round {
			if tape.Skip(bad) {
				t.Fatalf("%d used, %d is skipped to", k, bad)
			}
			mustGive(t, tape, word, k, 1)
		}
	}
}

// P20.1: so many coins used that one more goes round: the next ones come as before, and nothing panics.
func TestUsedRound(t *testing.T) {
	for bit := range round {
		word := uint64(1) << bit
		tape := coins.New(word)
		if !tape.Skip(math.MaxInt - 1) {
			t.Fatal("the greatest number but one can't be skipped to")
		}
		for k := range 3 * round {
			// 2^63 - 2 leaves 62.
			if coin := tape.Next(); coin != ((62+k)%round == bit) {
				t.Fatalf("bit %d, coin %d past 2^63 - 2: %t", bit, k, coin)
			}
			// Numbers that are added go round, so the least one follows the greatest one.
			used := math.MaxInt
			if k > 0 {
				used = math.MinInt + k - 1
			}
			if tape.Used() != used || tape.Word() != word {
				t.Fatalf("%d used, not %d, word %x", tape.Used(), used, tape.Word())
			}
		}
	}
}

// P20.1: a nil tape has nothing, and no coin.
func TestNil(t *testing.T) {
	var tape *coins.Tape
	for range 3 {
		if tape.Next() || tape.Used() != 0 || tape.Word() != 0 {
			t.Error("a nil tape has something")
		}
		for _, used := range []int{-1, 0, 1, 64, math.MinInt, math.MaxInt} {
			if tape.Skip(used) {
				t.Errorf("a nil tape skips to %d", used)
			}
		}
	}
}

// P20.1: tapes know nothing of one another, of the same word, too.
func TestApart(t *testing.T) {
	tape, like, other := coins.New(6), coins.New(6), coins.New(9)
	mustGive(t, tape, 6, 0, 10)
	mustGive(t, other, 9, 0, 3)
	mustGive(t, like, 6, 0, 70)
	like.Skip(5)
	mustGive(t, tape, 6, 10, 70)
	mustGive(t, other, 9, 3, 70)
	mustGive(t, like, 6, 5, 70)
}

// P20.1: Halve by hand, of rows in no order, too: the places play alone.
func TestHalve(t *testing.T) {
	for _, c := range []struct{ row, first, second []int64 }{
		{nil, nil, nil},
		{[]int64{}, nil, nil},
		{[]int64{8}, []int64{8}, nil},
		{[]int64{8, 3}, []int64{8}, []int64{3}},
		{[]int64{8, 3, 5}, []int64{8, 5}, []int64{3}},
		{[]int64{lowest, highest, lowest, highest}, []int64{lowest, lowest}, []int64{highest, highest}},
		{[]int64{5, 4, 3, 2, 1}, []int64{5, 3, 1}, []int64{4, 2}},
		{[]int64{2, 2, 2, 3, 3, 3}, []int64{2, 2, 3}, []int64{2, 3, 3}},
	} {
		if half := coins.Halve(c.row, false); !slices.Equal(half, c.first) {
			t.Errorf("half of %v: %v", c.row, half)
		}
		if half := coins.Halve(c.row, true); !slices.Equal(half, c.second) {
			t.Errorf("second half of %v: %v", c.row, half)
		}
	}
}

// P20.1: Split by hand: one more stays, if else what is left were odd; never more than there are, never fewer than none.
func TestSplit(t *testing.T) {
	five := []int64{5, 1, 4, 2, 3}
	six := []int64{6, 3, lowest, 3, highest, 3}
	for _, c := range []struct {
		row        []int64
		keep       int
		stay, left []int64
	}{
		{nil, 0, nil, nil},
		{nil, 1, nil, nil},
		{[]int64{}, -1, nil, nil},
		{[]int64{7}, 0, []int64{7}, nil},
		{[]int64{7}, -3, []int64{7}, nil},
		{[]int64{7}, 1, []int64{7}, nil},
		{[]int64{7, 6}, 0, nil, []int64{6, 7}},
		{[]int64{7, 6}, 1, []int64{6, 7}, nil},
		{five, math.MinInt, []int64{1}, []int64{2, 3, 4, 5}},
		{five, -1, []int64{1}, []int64{2, 3, 4, 5}},
		{five, 0, []int64{1}, []int64{2, 3, 4, 5}},
		{five, 1, []int64{1}, []int64{2, 3, 4, 5}},
		{five, 2, []int64{1, 2, 3}, []int64{4, 5}},
		{five, 3, []int64{1, 2, 3}, []int64{4, 5}},
		{five, 4, []int64{1, 2, 3, 4, 5}, nil},
		{five, 5, []int64{1, 2, 3, 4, 5}, nil},
		{five, 6, []int64{1, 2, 3, 4, 5}, nil},
		{five, math.MaxInt, []int64{1, 2, 3, 4, 5}, nil},
		{six, math.MinInt, nil, []int64{lowest, 3, 3, 3, 6, highest}},
		{six, 0, nil, []int64{lowest, 3, 3, 3, 6, highest}},
		{six, 1, []int64{lowest, 3}, []int64{3, 3, 6, highest}},
		{six, 2, []int64{lowest, 3}, []int64{3, 3, 6, highest}},
		{six, 5, []int64{lowest, 3, 3, 3, 6, highest}, nil},
		{six, 7, []int64{lowest, 3, 3, 3, 6, highest}, nil},
	} {
		stay, left := coins.Split(c.row, c.keep)
		if !slices.Equal(stay, c.stay) || !slices.Equal(left, c.left) {
			t.Errorf("%v, by %d: %v and %v", c.row, c.keep, stay, left)
		}
	}
}

// P20.1: what stays has no spare room that reaches what is left: either grows without a trace in the other one.
func TestPartsGrow(t *testing.T) {
	stay, left := coins.Split([]int64{4, 3, 2, 1, 6, 5}, 2)
	stay = append(stay, 90, 91, 92)
	left = append(left, 80, 81)
	if !slices.Equal(stay, []int64{1, 2, 90, 91, 92}) || !slices.Equal(left, []int64{3, 4, 5, 6, 80, 81}) {
		t.Errorf("%v and %v", stay, left)
	}
}

// P20.1: Up by hand.
func TestUp(t *testing.T) {
	row := []int64{lowest, -2, -2, 0, 5, 5, 5, 9, highest}
	for x, want := range map[int64]int{lowest: 1, lowest + 1: 1, -3: 1, -2: 3, -1: 3, 0: 4, 4: 4, 5: 7, 6: 7, 8: 7, 9: 8, highest - 1: 8, highest: 9} {
		if n := coins.Up(row, x); n != want {
			t.Errorf("up to %d: %d, not %d", x, n, want)
		}
	}
	for _, x := range []int64{lowest, -1, 0, 1, highest} {
		if coins.Up(nil, x) != 0 || coins.Up([]int64{}, x) != 0 {
			t.Errorf("nothing has some up to %d", x)
		}
		if coins.Up([]int64{lowest}, x) != 1 || coins.Up([]int64{highest, highest}, x) != upTo([]int64{highest, highest}, x) {
			t.Errorf("of one value, up to %d", x)
		}
	}
}

// P20.1, P20.2: all short rows of a few values, in all orders; those in rising order by Up and by their halves, too.
func TestAllRows(t *testing.T) {
	among := []int64{lowest, -1, 2, highest}
	xs := []int64{lowest, lowest + 1, -2, -1, 0, 1, 2, 3, highest - 1, highest}
	rising := 0
	for long := range 7 {
		orders(long, among, func(row []int64) {
			mustHalve(t, row)
			for keep := -2; keep <= long+2; keep++ {
				mustSplit(t, row, keep)
			}
			if !slices.IsSorted(row) {
				return
			}
			rising++
			mustSplit(t, row, math.MinInt)
			mustSplit(t, row, math.MaxInt)
			mustUp(t, row, xs)
			if long%2 == 0 {
				mustStandFor(t, row, xs)
			}
		})
	}
	// From 0 on as many rows rise as there are ways to part so many values among four: 1, 4, 10, 20, 35, 56, 84.
	if rising != 210 {
		t.Errorf("%d rows rise", rising)
	}
}

// P20.1, P20.2: longer rows, of few values and of many, close together and far apart.
func TestRandomRows(t *testing.T) {
	source := rand.New(rand.NewSource(203))
	for range 1000 {
		long := source.Intn(1 << source.Intn(11))
		row := random(source, long)
		mustHalve(t, row)
		for range 4 {
			mustSplit(t, row, source.Intn(long+9)-4)
		}
		slices.Sort(row)
		xs := append(random(source, 20), lowest, highest)
		for range 20 {
			if long > 0 {
				x := row[source.Intn(long)]
				xs = append(xs, x, max(x, lowest+1)-1, min(x, highest-1)+1)
			}
		}
		mustUp(t, row, xs)
		mustStandFor(t, row[:long/2*2], xs)
	}
}

// P20.2: what is left by a split is a row in order, of even length: so its halves are as long as one another, and tell all of it.
func TestSplitHalves(t *testing.T) {
	source := rand.New(rand.NewSource(204))
	for range 1000 {
		row := random(source, source.Intn(200))
		stay, left := coins.Split(row, source.Intn(len(row)+3)-1)
		mustStandFor(t, left, append(row, lowest, highest))
		for _, x := range row {
			if coins.Up(stay, x)+coins.Up(left, x) != upTo(row, x) {
				t.Fatalf("%v and %v, up to %d", stay, left, x)
			}
		}
	}
}

// The rule that every call ends, and none panics: Up of rows in no order, of which nothing else is promised.
func TestWrongRows(t *testing.T) {
	for long := range 6 {
		orders(long, []int64{lowest, 0, highest}, func(row []int64) {
			for _, x := range []int64{lowest, -1, 0, 1, highest} {
				if n := coins.Up(row, x); n < 0 || n > long {
					t.Fatalf("%v, up to %d: %d", row, x, n)
				}
			}
		})
	}
}
