package coins_test

import (
	"math"
	"math/rand"
	"slices"
	"strconv"
	"strings"
	"testing"

	"ogive/coins"
)

const (
	lowest  = math.MinInt64
	highest = math.MaxInt64
	round   = 64
)

// thrown is a word's coins, read from the text that tells its bits: the last digit is the first coin.
func thrown(word uint64) []bool {
	text := strconv.FormatUint(word, 2)
	text = strings.Repeat("0", round-len(text)) + text
	var list []bool
	for i := len(text) - 1; i >= 0; i-- {
		list = append(list, text[i] == '1')
	}
	return list
}

// mustGive holds that a tape gives the coins of its word from a number on, and counts them.
func mustGive(t *testing.T, tape *coins.Tape, word uint64, from, many int) {
	t.Helper()
	list := thrown(word)
	for k := from; k < from+many; k++ {
		if tape.Used() != k || tape.Word() != word {
			t.Fatalf("word %x: %d used, word %x, not %d", word, tape.Used(), tape.Word(), k)
		}
		if coin := tape.Next(); coin != list[k%round] {
			t.Fatalf("word %x: coin %d is %t", word, k, coin)
		}
	}
	if tape.Used() != from+many || tape.Word() != word {
		t.Fatalf("word %x: %d used, word %x, not %d", word, tape.Used(), tape.Word(), from+many)
	}
}

// every is a row without each other one of its values, taken away one by one.
func every(row []int64, second bool) []int64 {
	var half []int64
	take := !second
	for _, x := range row {
		if take {
			half = append(half, x)
		}
		take = !take
	}
	return half
}

// parts is a row's values in rising order, the least one taken out time by time: those that stay, and those that are left.
func parts(row []int64, keep int) ([]int64, []int64) {
	rest, stay := slices.Clone(row), []int64(nil)
	for len(rest) > 0 && (len(stay) < keep || len(rest)%2 != 0) {
		stay = append(stay, out(&rest))
	}
	var left []int64
	for len(rest) > 0 {
		left = append(left, out(&rest))
	}
	return stay, left
}

// out takes the least value out of a row.
func out(row *[]int64) int64 {
	at := 0
	for i, x := range *row {
		if x < (*row)[at] {
			at = i
		}
	}
	least := (*row)[at]
	*row = slices.Delete(*row, at, at+1)
	return least
}

// upTo is how many values of a row aren't greater than one.
func upTo(row []int64, x int64) int {
	n := 0
	for _, one := range row {
		if one <= x {
			n++
		}
	}
	return n
}

// orders goes over all rows of so many values, which are among a few.
func orders(long int, among []int64, hold func(row []int64)) {
	row := make([]int64, long)
	var fill func(at int)
	fill = func(at int) {
		if at == long {
			hold(row)
			return
		}
		for _, x := range among {
			row[at] = x
			fill(at + 1)
		}
	}
	fill(0)
}

// random is a row of so many values, no further from 0 than some bits tell.
func random(source *rand.Rand, long int) []int64 {
	row, shift := make([]int64, long), source.Intn(64)
	for i := range row {
		row[i] = int64(source.Uint64()) >> shift
	}
	return row
}

// roomy is a copy of a row, with spare room in which something stands, and a look at whether any of it was written to.
func roomy(row []int64) ([]int64, func() bool) {
	all := append(slices.Clone(row), 77, -77, 777)
	was := slices.Clone(all)
	return all[:len(row)], func() bool { return slices.Equal(all, was) }
}

// mustHalve holds both halves of a row, and that they are new memory.
func mustHalve(t *testing.T, row []int64) {
	t.Helper()
	for _, second := range []bool{false, true} {
		handed, same := roomy(row)
		half := coins.Halve(handed, second)
		if want := every(row, second); !slices.Equal(half, want) {
			t.Fatalf("half of %v, second %t: %v, not %v", row, second, half, want)
		}
		other := coins.Halve(handed, second)
		was := slices.Clone(other)
		scribble(half)
		if !same() || !slices.Equal(other, was) {
			t.Fatalf("half of %v, second %t, isn't new memory, or the row was changed", row, second)
		}
	}
}

// mustSplit holds both parts of a row, and that they are new memory: neither shares any with the row, nor with one another.
func mustSplit(t *testing.T, row []int64, keep int) {
	t.Helper()
	handed, same := roomy(row)
	stay, left := coins.Split(handed, keep)
	wantStay, wantLeft := parts(row, keep)
	if !slices.Equal(stay, wantStay) || !slices.Equal(left, wantLeft) {
		t.Fatalf("%v, by %d: %v and %v, not %v and %v", row, keep, stay, left, wantStay, wantLeft)
	}
	again, rest := coins.Split(handed, keep)
	scribble(stay)
	if !same() || !slices.Equal(left, wantLeft) || !slices.Equal(again, wantStay) || !slices.Equal(rest, wantLeft) {
		t.Fatalf("%v, by %d: what stays isn't new memory, or the row was changed", row, keep)
	}
	scribble(rest)
	if !same() || !slices.Equal(left, wantLeft) || !slices.Equal(again, wantStay) {
		t.Fatalf("%v, by %d: what is left isn't new memory", row, keep)
	}
}

// scribble writes over a list, and over its spare room.
func scribble(list []int64) {
	for i := range list {
		list[i] = -5555
	}
	list = append(list, 5555)
	for i := range list[:cap(list)] {
		list[:cap(list)][i] = 5555
	}
}

// mustUp holds how many values of a row in order there are up to each of some, and that the row stays as it is.
func mustUp(t *testing.T, row []int64, xs []int64) {
	t.Helper()
	handed, same := roomy(row)
	for _, x := range xs {
		if n := coins.Up(handed, x); n != upTo(row, x) {
			t.Fatalf("%v, up to %d: %d, not %d", row, x, n, upTo(row, x))
		}
	}
	if !same() {
		t.Fatalf("%v was changed", row)
	}
}

// mustStandFor holds P20.2 of a row in order, of even length, at each of some values.
func mustStandFor(t *testing.T, row []int64, xs []int64) {
	t.Helper()
	first, second := coins.Halve(row, false), coins.Halve(row, true)
	if len(first)*2 != len(row) || len(second)*2 != len(row) {
		t.Fatalf("halves of %v: %v, %v", row, first, second)
	}
	for _, x := range xs {
		n, a, b := upTo(row, x), coins.Up(first, x), coins.Up(second, x)
		if d := 2*a - n; d < 0 || d > 1 {
			t.Fatalf("%v up to %d: %d, but %d in the first half", row, x, n, a)
		}
		if d := n - 2*b; d < 0 || d > 1 {
			t.Fatalf("%v up to %d: %d, but %d in the second half", row, x, n, b)
		}
		if a+b != n || coins.Up(row, x) != n {
			t.Fatalf("%v up to %d: %d and %d, together not %d", row, x, a, b, n)
		}
	}
}
