package spans_test

import (
	"math"
	"math/big"
	"math/rand"
	"testing"

	"ogive/api"
	"ogive/sign"
	"ogive/spans"
)

const (
	above = math.MaxUint64
	last  = 1 << 63
)

// ways are the four that there are, written out: 10^s, h, its log, and the index of 2^63.
type way struct {
	digits   int
	ten      uint64
	h        uint64
	log      int
	greatest int
}

func ways() []way {
	return []way{
		{1, 10, 16, 4, 960},
		{2, 100, 128, 7, 7296},
		{3, 1000, 1024, 10, 55296},
		{4, 10000, 16384, 14, 819200},
	}
}

func number(u uint64) *big.Int {
	return new(big.Int).SetUint64(u)
}

// told is by how many bits a magnitude is cut, and what is left of it, word by word as the chapter tells it.
func told(m uint64, w way) (int, uint64) {
	k, left := 0, m
	for left >= 2*w.h {
		left /= 2
		k++
	}
	return k, left
}

// index is the one that the chapter tells for a magnitude.
func index(m uint64, w way) int {
	k, left := told(m, w)
	return k*int(w.h) + int(left)
}

// made is the spans by so many digits.
func made(t *testing.T, digits int) *spans.Span {
	t.Helper()
	s, err := spans.New(digits)
	if s == nil || err != api.OK {
		t.Fatalf("New of %d: %v, %d", digits, s, err)
	}
	return s
}

// mustClose tells, if a number doesn't stand for a magnitude so closely as it should, by numbers without a limit.
func mustClose(t *testing.T, rep, m, ten uint64) {
	t.Helper()
	far := new(big.Int).Sub(number(rep), number(m))
	far.Abs(far).Mul(far, number(ten))
	if far.Cmp(number(m)) > 0 {
		t.Fatalf("1 / %d: %d for %d", ten, rep, m)
	}
}

// mustBe tells, if a span isn't from one magnitude to another one, with its middle, or a magnitude of it isn't found there.
func mustBe(t *testing.T, s *spans.Span, i int, low, high uint64) {
	t.Helper()
	if a, b := s.Range(i); a != low || b != high {
		t.Fatalf("%d digits: span %d: from %d to %d, not from %d to %d", s.Digits(), i, a, b, low, high)
	}
	middle := new(big.Int).Add(number(low), number(high))
	if rep := s.Rep(i); rep != middle.Rsh(middle, 1).Uint64() {
		t.Fatalf("%d digits: span %d: from %d to %d: Rep: %d, not %d", s.Digits(), i, low, high, rep, middle)
	}
	for _, m := range []uint64{low, s.Rep(i), high - (high-low)/3, high} {
		if got, ok := s.Index(m); got != i || !ok {
			t.Fatalf("%d digits: Index of %d: %d, %t, not %d", s.Digits(), m, got, ok, i)
		}
	}
}

// mustLie tells, if a magnitude isn't in the span that the chapter tells, or what stands for that isn't close to it.
func mustLie(t *testing.T, s *spans.Span, m uint64, w way) {
	t.Helper()
	i, ok := s.Index(m)
	if i != index(m, w) || !ok {
		t.Fatalf("%d digits: Index of %d: %d, %t, not %d", w.digits, m, i, ok, index(m, w))
	}
	if low, high := s.Range(i); m < low || m > high {
		t.Fatalf("%d digits: %d isn't from %d to %d", w.digits, m, low, high)
	}
	mustClose(t, s.Rep(i), m, w.ten)
	if x, ok := sign.Value(m, true); !ok || !sign.Within(-int64(s.Rep(i)), x, s.Part()) {
		t.Fatalf("%d digits: %d isn't within of %d", w.digits, s.Rep(i), m)
	}
}

// mustEnd tells, if spans, or nil ones, have anything beyond their ends.
func mustEnd(t *testing.T, s *spans.Span, greatest int) {
	t.Helper()
	for _, m := range []uint64{0, last + 1, last + 2, last + 1<<62, above - 1, above} {
		if i, ok := s.Index(m); i != 0 || ok {
			t.Fatalf("%d digits: Index of %d: %d, %t", s.Digits(), m, i, ok)
		}
	}
	for _, i := range []int{
		math.MinInt, math.MinInt + 1, -1 << 32, -greatest, -16, -2, -1, 0, greatest + 1, greatest + 2, 2 * (greatest + 1), 4*greatest + 16384,
		1<<31 - 1, 1 << 31, 1 << 32, 1<<32 + 1, 1<<62 + 1, math.MaxInt - 1, math.MaxInt,
	} {
		low, high := s.Range(i)
		if rep := s.Rep(i); low != 0 || high != 0 || rep != 0 {
			t.Fatalf("%d digits: span %d: %d, %d, %d", s.Digits(), i, low, high, rep)
		}
	}
}

// P12.1: so many digits at most.
func TestDigits(t *testing.T) {
	if spans.Digits != 4 {
		t.Errorf("Digits: %d", spans.Digits)
	}
}

// P12.1: the chapter's example.
func TestExample(t *testing.T) {
	s := made(t, 1)
	for m, want := range map[uint64]int{31: 31, 32: 32, 33: 32} {
		if i, ok := s.Index(m); i != want || !ok {
			t.Errorf("%d: %d, %t, not %d", m, i, ok, want)
		}
	}
}

// P12.1: New, Digits and Part of all digits that can be, and how far the spans go.
func TestNew(t *testing.T) {
	for _, w := range ways() {
		s := made(t, w.digits)
		if s.Digits() != w.digits {
			t.Errorf("Digits of %d: %d", w.digits, s.Digits())
		}
		if want := (api.Ratio{Num: 1, Den: w.ten}); s.Part() != want {
			t.Errorf("Part of %d: %v", w.digits, s.Part())
		}
		if w.h < w.ten || w.h/2 >= w.ten || w.h != 1<<w.log {
			t.Errorf("%d isn't the least power of two that isn't below %d", w.h, w.ten)
		}
		mustBe(t, s, w.greatest, last, last)
		mustEnd(t, s, w.greatest)
	}
}

// P12.1: New of digits that can't be; nothing stands beside the error.
func TestNewBad(t *testing.T) {
	for _, digits := range []int{
		math.MinInt, math.MinInt + 1, -1 << 32, -4, -3, -2, -1, 0, 5, 6, 10, 64, 1<<8 + 1, 1<<16 + 1, 1<<32 + 1, 1<<32 + 4, 1 << 62, math.MaxInt - 1, math.MaxInt,
	} {
		if s, err := spans.New(digits); s != nil || err != api.ErrArg {
			t.Errorf("New of %d: %v, %d", digits, s, err)
		}
	}
}

// P12.1: spans worked out by hand: ahead of the first cut, at it, at the second one, and the last ones.
func TestByHand(t *testing.T) {
	cases := []struct {
		digits    int
		i         int
		low, high uint64
		rep       uint64
	}{
		{1, 1, 1, 1, 1}, {1, 2, 2, 2, 2}, {1, 15, 15, 15, 15}, {1, 16, 16, 16, 16}, {1, 17, 17, 17, 17}, {1, 31, 31, 31, 31},
		{1, 32, 32, 33, 32}, {1, 33, 34, 35, 34}, {1, 47, 62, 63, 62}, {1, 48, 64, 67, 65}, {1, 63, 124, 127, 125}, {1, 64, 128, 135, 131},
		{1, 943, 31 << 57, 1<<62 - 1, 31<<57 + 1<<56 - 1}, {1, 944, 1 << 62, 17<<58 - 1, 1<<62 + 1<<57 - 1},
		{1, 959, 31 << 58, 1<<63 - 1, 31<<58 + 1<<57 - 1}, {1, 960, last, last, last},
		{2, 127, 127, 127, 127}, {2, 128, 128, 128, 128}, {2, 255, 255, 255, 255}, {2, 256, 256, 257, 256}, {2, 383, 510, 511, 510},
		{2, 384, 512, 515, 513}, {2, 506, 1000, 1003, 1001}, {2, 7295, 255 << 55, 1<<63 - 1, 255<<55 + 1<<54 - 1}, {2, 7296, last, last, last},
		{3, 1000, 1000, 1000, 1000}, {3, 1024, 1024, 1024, 1024}, {3, 2047, 2047, 2047, 2047}, {3, 2048, 2048, 2049, 2048}, {3, 3071, 4094, 4095, 4094},
		{3, 3072, 4096, 4099, 4097}, {3, 55295, 2047 << 52, 1<<63 - 1, 2047<<52 + 1<<51 - 1}, {3, 55296, last, last, last},
		{4, 16383, 16383, 16383, 16383}, {4, 16384, 16384, 16384, 16384}, {4, 32767, 32767, 32767, 32767}, {4, 32768, 32768, 32769, 32768},
		{4, 49151, 65534, 65535, 65534}, {4, 49152, 65536, 65539, 65537}, {4, 819199, 32767 << 48, 1<<63 - 1, 32767<<48 + 1<<47 - 1}, {4, 819200, last, last, last},
	}
	for _, c := range cases {
		s := made(t, c.digits)
		mustBe(t, s, c.i, c.low, c.high)
		if rep := s.Rep(c.i); rep != c.rep {
			t.Errorf("%d digits: span %d: %d, not %d", c.digits, c.i, rep, c.rep)
		}
	}
}

// P12.1, P12.2: all spans there are: side by side from 1 to 2^63, as many bits cut as the chapter tells, and close at both ends and in the middle.
func TestAll(t *testing.T) {
	for _, w := range ways() {
		s := made(t, w.digits)
		low := uint64(1)
		for i := 1; i <= w.greatest; i++ {
			k, left := told(low, w)
			high := min(left<<k+(1<<k-1), last)
			mustBe(t, s, i, low, high)
			mustLie(t, s, low, w)
			mustLie(t, s, high, w)
			low = high + 1
		}
		if low != last+1 {
			t.Errorf("%d digits: the last one ends at %d", w.digits, low-1)
		}
	}
}

// P12.1: small magnitudes, each one: those that are cut alike, and of which as much is left, are a span, and no others.
func TestSmall(t *testing.T) {
	type kind struct {
		k    int
		left uint64
	}
	const up = 1 << 18
	for _, w := range ways() {
		s := made(t, w.digits)
		ends := map[kind][2]uint64{}
		for m := uint64(1); m < up; m++ {
			k, left := told(m, w)
			if k > 0 && (left < w.h || left >= 2*w.h) {
				t.Fatalf("%d digits: %d is left of %d", w.digits, left, m)
			}
			mustLie(t, s, m, w)
			e, ok := ends[kind{k, left}]
			if !ok {
				e[0] = m
			}
			e[1] = m
			ends[kind{k, left}] = e
		}
		for at, e := range ends {
			mustBe(t, s, at.k*int(w.h)+int(at.left), e[0], e[1])
		}
	}
}

// P12.1, P12.2: magnitudes at all powers of two, and of ten, and many of all lengths.
func TestMany(t *testing.T) {
	random := rand.New(rand.NewSource(12))
	var list []uint64
	for k := range 64 {
		for _, m := range []uint64{1<<k - 1, 1 << k, 1<<k + 1, 3<<k>>1 - 1, 3 << k >> 1} {
			list = append(list, m)
		}
	}
	for ten := uint64(1); ten <= last/10; ten *= 10 {
		list = append(list, ten-1, ten, ten+1, 5*ten)
	}
	for range 50000 {
		list = append(list, 1+random.Uint64()>>1>>random.Intn(63))
	}
	for _, w := range ways() {
		s := made(t, w.digits)
		for _, m := range list {
			if m >= 1 && m <= last {
				mustLie(t, s, m, w)
			}
		}
	}
}

// P12.2: the index, and what stands there, never fall with the magnitude; a span of its own stands for itself.
func TestRising(t *testing.T) {
	for _, w := range ways() {
		s := made(t, w.digits)
		for i := 1; i <= w.greatest; i++ {
			low, high := s.Range(i)
			if before := s.Rep(i - 1); before >= s.Rep(i) {
				t.Fatalf("%d digits: span %d: %d, then %d", w.digits, i, before, s.Rep(i))
			}
			if uint64(i) < 2*w.h && (low != uint64(i) || high != low || s.Rep(i) != low) {
				t.Fatalf("%d digits: span %d: from %d to %d", w.digits, i, low, high)
			}
		}
	}
}

// P12.1: the magnitude of the least value has a span; no other one is in it, though as much is left of them.
func TestGreatest(t *testing.T) {
	m, _ := sign.Of(math.MinInt64)
	for _, w := range ways() {
		s := made(t, w.digits)
		if i, ok := s.Index(m); i != w.greatest || !ok {
			t.Errorf("%d digits: %d, %t", w.digits, i, ok)
		}
		if i, ok := s.Index(m - 1); i != w.greatest-1 || !ok {
			t.Errorf("%d digits: %d, %t", w.digits, i, ok)
		}
		if i, ok := s.Index(m + 1); i != 0 || ok {
			t.Errorf("%d digits: %d, %t", w.digits, i, ok)
		}
	}
}

// P12.1: a nil one has nothing, and is as close as 1 / 1.
func TestNil(t *testing.T) {
	var s *spans.Span
	if s.Digits() != 0 || s.Part() != (api.Ratio{Num: 1, Den: 1}) {
		t.Errorf("%d, %v", s.Digits(), s.Part())
	}
	for _, m := range []uint64{0, 1, 2, 15, 16, 31, 32, 1000, last - 1, last, last + 1, above} {
		if i, ok := s.Index(m); i != 0 || ok {
			t.Errorf("Index of %d: %d, %t", m, i, ok)
		}
	}
	for _, i := range []int{1, 2, 15, 16, 31, 32, 64, 960, 7296, 55296, 819200} {
		low, high := s.Range(i)
		if rep := s.Rep(i); low != 0 || high != 0 || rep != 0 {
			t.Errorf("span %d: %d, %d, %d", i, low, high, rep)
		}
	}
	mustEnd(t, s, 0)
}

// P12.1: spans know nothing of one another, and asking changes nothing.
func TestTwo(t *testing.T) {
	list := []*spans.Span{made(t, 1), made(t, 4), made(t, 1), made(t, 2), made(t, 3)}
	if list[0] == list[2] {
		t.Error("two are the same one")
	}
	for range 2 {
		for _, s := range list {
			w := ways()[s.Digits()-1]
			for m := uint64(1); m < last/3; m = m*3/2 + 1 {
				mustLie(t, s, m, w)
			}
			mustBe(t, s, w.greatest, last, last)
			mustEnd(t, s, w.greatest)
		}
	}
}
