package share_test

import (
	"math"
	"math/big"
	"math/rand"
	"strconv"
	"strings"
	"testing"

	"ogive/api"
	"ogive/share"
)

const top = math.MaxUint64

// numbers are those at which something changes, and others of all lengths, the same in every run.
func numbers() []uint64 {
	list := []uint64{0, 1, 2, 3, 4, 5, 6, 12, 99, 100, 101, 1<<32 - 1, 1 << 32, 1<<32 + 1}
	list = append(list, 1<<63-1, 1<<63, 1<<63+1, top-2, top-1, top)
	random := rand.New(rand.NewSource(4))
	for len(list) < 50 {
		list = append(list, random.Uint64()>>random.Intn(64))
	}
	return list
}

func small(u uint64) *big.Int {
	return new(big.Int).SetUint64(u)
}

// place is what a part that can be asks for, by numbers without a limit.
func place(p api.Ratio, n uint64) *big.Int {
	whole, left := new(big.Int).QuoRem(new(big.Int).Mul(small(p.Num), small(n)), small(p.Den), new(big.Int))
	if left.Sign() != 0 {
		whole.Add(whole, big.NewInt(1))
	}
	if whole.Sign() == 0 {
		return big.NewInt(1)
	}
	return whole
}

// P3.1: Good, of all pairs.
func TestGood(t *testing.T) {
	for _, num := range numbers() {
		for _, den := range numbers() {
			want := den > 0 && num <= den
			if can := share.Good(api.Ratio{Num: num, Den: den}); can != want {
				t.Errorf("Good(%d / %d): %t", num, den, can)
			}
		}
	}
}

// P3.1: Good, at the edges by name.
func TestGoodEdge(t *testing.T) {
	cases := []struct {
		num, den uint64
		can      bool
	}{
		{0, 0, false},
		{1, 0, false},
		{top, 0, false},
		{0, 1, true},
		{1, 1, true},
		{2, 1, false},
		{top, top, true},
		{top, top - 1, false},
		{top - 1, top, true},
		{0, top, true},
	}
	for _, c := range cases {
		if can := share.Good(api.Ratio{Num: c.num, Den: c.den}); can != c.can {
			t.Errorf("Good(%d / %d): %t", c.num, c.den, can)
		}
	}
}

// P3.1: Place, at its example and at the edges by name; a part that can't be is told of first.
func TestPlaceEdge(t *testing.T) {
	cases := []struct {
		num, den, n uint64
		place       uint64
		err         api.Errno
	}{
		{1, 2, 5, 3, api.OK},
		{1, 2, 4, 2, api.OK},
		{1, 2, 1, 1, api.OK},
		{0, 1, 5, 1, api.OK},
		{0, top, top, 1, api.OK},
		{1, 5, 5, 1, api.OK},
		{2, 5, 5, 2, api.OK},
		{1, 1, 5, 5, api.OK},
		{3, 3, 5, 5, api.OK},
		{99, 100, 101, 100, api.OK},
		{1, 100, 101, 2, api.OK},
		{1, top, 1, 1, api.OK},
		{1, top, top, 1, api.OK},
		{2, top, top, 2, api.OK},
		{top - 1, top, top, top - 1, api.OK},
		{top - 1, top, top - 1, top - 1, api.OK},
		{top, top, top, top, api.OK},
		{1, 2, top, 1 << 63, api.OK},
		{1, 2, 1<<63 + 1, 1<<62 + 1, api.OK},
		{1, 2, 0, 0, api.ErrNone},
		{0, 1, 0, 0, api.ErrNone},
		{1, 1, 0, 0, api.ErrNone},
		{0, 0, 5, 0, api.ErrArg},
		{1, 0, 5, 0, api.ErrArg},
		{3, 2, 5, 0, api.ErrArg},
		{top, top - 1, 5, 0, api.ErrArg},
		{0, 0, 0, 0, api.ErrArg},
		{3, 2, 0, 0, api.ErrArg},
	}
	for _, c := range cases {
		p := api.Ratio{Num: c.num, Den: c.den}
		if at, err := share.Place(p, c.n); at != c.place || err != c.err {
			t.Errorf("Place(%v, %d): %d, %d, not %d, %d", p, c.n, at, err, c.place, c.err)
		}
	}
}

// P3.1 and P3.2: Place, of all parts and numbers; it lies from 1 to n.
func TestPlace(t *testing.T) {
	for _, num := range numbers() {
		for _, den := range numbers() {
			for _, n := range numbers() {
				p := api.Ratio{Num: num, Den: den}
				at, err := share.Place(p, n)
				switch {
				case den == 0 || num > den:
					if at != 0 || err != api.ErrArg {
						t.Fatalf("Place(%v, %d): %d, %d", p, n, at, err)
					}
				case n == 0:
					if at != 0 || err != api.ErrNone {
						t.Fatalf("Place(%v, %d): %d, %d", p, n, at, err)
					}
				case small(at).Cmp(place(p, n)) != 0 || at < 1 || at > n || err != api.OK:
					t.Fatalf("Place(%v, %d): %d, %d, not %v", p, n, at, err, place(p, n))
				}
			}
		}
	}
}

// parts are such as can be, of all sizes, many of them near to one another.
func parts() []api.Ratio {
	list := []api.Ratio{{Num: 0, Den: 1}, {Num: 1, Den: 1}, {Num: 1, Den: 2}}
	for den := uint64(1); den < 8; den++ {
		for num := uint64(0); num <= den; num++ {
			list = append(list, api.Ratio{Num: num, Den: den})
			list = append(list, api.Ratio{Num: top/8*num + num, Den: top/8*den + den})
		}
	}
	list = append(list, api.Ratio{Num: 1, Den: top}, api.Ratio{Num: top - 1, Den: top}, api.Ratio{Num: top / 2, Den: top})
	return list
}

// P3.2: places rise with the part, and the same part asks for the same place, however it is told.
func TestPlaceRises(t *testing.T) {
	for _, n := range []uint64{1, 2, 3, 5, 7, 100, 1<<63 - 1, 1 << 63, top - 1, top} {
		for _, a := range parts() {
			for _, b := range parts() {
				x, _ := share.Place(a, n)
				y, _ := share.Place(b, n)
				order := new(big.Int).Mul(small(a.Num), small(b.Den)).Cmp(new(big.Int).Mul(small(b.Num), small(a.Den)))
				if order < 0 && x > y || order == 0 && x != y || order > 0 && x < y {
					t.Fatalf("Place of %v and %v, of %d: %d, %d", a, b, n, x, y)
				}
			}
		}
	}
}

// P3.2: the whole asks for the last one, however it is told.
func TestPlaceOfWhole(t *testing.T) {
	for _, n := range numbers() {
		for _, den := range numbers() {
			if n == 0 || den == 0 {
				continue
			}
			if at, err := share.Place(api.Ratio{Num: den, Den: den}, n); at != n || err != api.OK {
				t.Fatalf("Place(%d / %d, %d): %d, %d", den, den, n, at, err)
			}
		}
	}
}

// P3.1: Divisor, at the edges by name.
func TestDivisorEdge(t *testing.T) {
	cases := []struct {
		a, b, d uint64
	}{
		{0, 0, 0},
		{0, 7, 7},
		{0, top, top},
		{1, top, 1},
		{12, 18, 6},
		{7, 7, 7},
		{6, 3, 3},
		{17, 5, 1},
		{top, top, top},
		{top, top - 1, 1},
		{top, 1<<32 - 1, 1<<32 - 1},
		{1 << 63, 1 << 62, 1 << 62},
		{12200160415121876738, 7540113804746346429, 1},
	}
	for _, c := range cases {
		if d := share.Divisor(c.a, c.b); d != c.d {
			t.Errorf("Divisor(%d, %d): %d, not %d", c.a, c.b, d, c.d)
		}
		if d := share.Divisor(c.b, c.a); d != c.d {
			t.Errorf("Divisor(%d, %d): %d, not %d", c.b, c.a, d, c.d)
		}
	}
}

// P3.1: Divisor, of all pairs.
func TestDivisor(t *testing.T) {
	for _, a := range numbers() {
		for _, b := range numbers() {
			want := new(big.Int).GCD(nil, nil, small(a), small(b))
			if d := share.Divisor(a, b); small(d).Cmp(want) != 0 {
				t.Errorf("Divisor(%d, %d): %d, not %v", a, b, d, want)
			}
		}
	}
}

// P3.1: Least, at the edges by name, also of such as no part can be.
func TestLeastEdge(t *testing.T) {
	cases := []struct {
		p, least api.Ratio
	}{
		{api.Ratio{}, api.Ratio{}},
		{api.Ratio{Num: 0, Den: 9}, api.Ratio{Num: 0, Den: 1}},
		{api.Ratio{Num: 9, Den: 0}, api.Ratio{Num: 1, Den: 0}},
		{api.Ratio{Num: 50, Den: 100}, api.Ratio{Num: 1, Den: 2}},
		{api.Ratio{Num: 12, Den: 8}, api.Ratio{Num: 3, Den: 2}},
		{api.Ratio{Num: 3, Den: 7}, api.Ratio{Num: 3, Den: 7}},
		{api.Ratio{Num: top, Den: top}, api.Ratio{Num: 1, Den: 1}},
		{api.Ratio{Num: top, Den: 1}, api.Ratio{Num: top, Den: 1}},
		{api.Ratio{Num: top, Den: top - 1}, api.Ratio{Num: top, Den: top - 1}},
	}
	for _, c := range cases {
		if p := share.Least(c.p); p != c.least {
			t.Errorf("Least(%v): %v, not %v", c.p, p, c.least)
		}
	}
}

// P3.1: Least, of all pairs: the same fraction, and nothing divides both of its numbers.
func TestLeast(t *testing.T) {
	one := big.NewInt(1)
	for _, num := range numbers() {
		for _, den := range numbers() {
			if num == 0 && den == 0 {
				continue
			}
			p := share.Least(api.Ratio{Num: num, Den: den})
			same := new(big.Int).Mul(small(p.Num), small(den)).Cmp(new(big.Int).Mul(small(num), small(p.Den))) == 0
			if !same || new(big.Int).GCD(nil, nil, small(p.Num), small(p.Den)).Cmp(one) != 0 {
				t.Errorf("Least(%d / %d): %v", num, den, p)
			}
		}
	}
}

// P3.1: Even goes over all steps, in order and not in least numbers, and does so again.
func TestEven(t *testing.T) {
	for _, steps := range []int{1, 2, 3, 4, 10, 100, 1000} {
		even := share.Even(steps)
		for range 2 {
			next := uint64(0)
			for p := range even {
				if p.Num != next || p.Den != uint64(steps) {
					t.Fatalf("Even(%d): %v at %d", steps, p, next)
				}
				next++
			}
			if next != uint64(steps)+1 {
				t.Errorf("Even(%d): %d parts", steps, next)
			}
		}
	}
}

// P3.1: Even goes over nothing, if there is no step.
func TestEvenNone(t *testing.T) {
	for _, steps := range []int{0, -1, -2, -1000, math.MinInt + 1, math.MinInt} {
		for p := range share.Even(steps) {
			t.Errorf("Even(%d): %v", steps, p)
			break
		}
	}
}

// P3.1: Even may be left at any time, also of as many steps as there can be.
func TestEvenLeft(t *testing.T) {
	for _, steps := range []int{1, 5, 1 << 40, math.MaxInt - 1, math.MaxInt} {
		for limit := range min(steps, 4) {
			var list []api.Ratio
			for p := range share.Even(steps) {
				list = append(list, p)
				if len(list) > limit {
					break
				}
			}
			if len(list) != limit+1 {
				t.Fatalf("Even(%d), left behind %d: %v", steps, limit, list)
			}
			if last := (api.Ratio{Num: uint64(limit), Den: uint64(steps)}); list[limit] != last {
				t.Errorf("Even(%d): %v, not %v", steps, list[limit], last)
			}
		}
	}
}

// P3.1: Even left in the midst, and gone over within itself: every going over begins anew.
func TestEvenWithin(t *testing.T) {
	even := share.Even(3)
	count := uint64(0)
	for a := range even {
		for b := range even {
			if a.Num*4+b.Num != count {
				t.Fatalf("%v and %v at %d", a, b, count)
			}
			count++
		}
	}
	if count != 16 {
		t.Errorf("%d pairs", count)
	}
}

// P3.1: Read, of texts that tell a part: as they tell it, and not in least numbers.
func TestRead(t *testing.T) {
	const most = 999999999999999999
	cases := []struct {
		s        string
		num, den uint64
	}{
		{"least", 0, 1},
		{"quarter", 1, 4},
		{"half", 1, 2},
		{"most", 1, 1},
		{"0/1", 0, 1},
		{"1/2", 1, 2},
		{"2/4", 2, 4},
		{"7/7", 7, 7},
		{"10/100", 10, 100},
		{"90/109", 90, 109},
		{"123456789/1234567890", 123456789, 1234567890},
		{"0/999999999999999999", 0, most},
		{"999999999999999999/999999999999999999", most, most},
		{"999999999999999998/999999999999999999", most - 1, most},
		{"100000000000000000/100000000000000000", 100000000000000000, 100000000000000000},
		{"0%", 0, 100},
		{"1%", 1, 100},
		{"9%", 9, 100},
		{"50%", 50, 100},
		{"99%", 99, 100},
		{"100%", 100, 100},
	}
	for _, c := range cases {
		if p, ok := share.Read(c.s); p != (api.Ratio{Num: c.num, Den: c.den}) || !ok {
			t.Errorf("Read(%q): %v, %t", c.s, p, ok)
		}
	}
}

// P3.1: Read, of texts that tell none, or one that can't be.
func TestReadWrong(t *testing.T) {
	wrong := []string{
		"", " ", "/", "%", "1", "0", "100", "1/", "/1", "/%", "%/1", "1/%", "/1%", "1%/2", "1/2%", "50%%", "%50", "1//2", "1/2/3", "1/2/", "/1/2", "50 %", "5%0",
		"Least", "LEAST", "least ", " least", "leas", "leastt", "quarters", "Half", "halves", "most%", "most/most", "half/1", "1/half", "median", "middle", "third", "three quarters", "threequarters", "all", "whole", "none", "max", "min",
		"1/0", "0/0", "2/1", "101%", "1000%", "999999999999999999%", "999999999999999999/999999999999999998",
		"00/1", "01/2", "1/02", "0/00", "0/01", "00%", "05%", "050%", "0100%", "000000000000000001/2",
		"1000000000000000000/1000000000000000000", "1/1000000000000000000", "0/1000000000000000000", "1000000000000000000%", "0000000000000000001/2", "1/18446744073709551617", "18446744073709551617/2", "18446744073709551666%",
		"+1/2", "-1/2", "1/+2", "1/-2", "-0/1", "+5%", "-5%", " 1/2", "1/2 ", "1 /2", "1/ 2", "1\t/2", "1/2\n", "\n50%", "50%\n", "1_0/100", "1_0%", "0x1/2", "1e0/2", "1.0/2", "0.5", ".5", "12.5%", "1,5%", "1:2", "1\\2",
		"a/b", "1a/2", "1/2a", "a1/2", "1/a2", ":/;", "1/:", "9:/99", "//9", "a%", "1a%",
		"\u0661/\u0662", "\u0665\u0660%", "\uff11/\uff12", "\uff15\uff10%", "1\u22152", "1\u20442", "1\uff0f2", "50\uff05", "\u00bd", "\u00b2/3", "\u00a01/2", "\ufeff1/2",
		"\x00", "1\x00/2", "1/2\x00", "1/\xff", "\xff/2", "\xff%", "5\xc3%", "\xb1/\xb2", "half\x00", "\ufffd/\ufffd",
		"\u0130/\u0131", "\u0131%", "1/\u0132", "\U00010031/\U00010032",
	}
	for _, s := range wrong {
		if p, ok := share.Read(s); p != (api.Ratio{}) || ok {
			t.Errorf("Read(%q): %v, %t", s, p, ok)
		}
	}
	for _, s := range []string{strings.Repeat("1", 1000) + "/2", "1/" + strings.Repeat("9", 1000), strings.Repeat("0", 1000) + "%", strings.Repeat("/", 1000)} {
		if p, ok := share.Read(s); p != (api.Ratio{}) || ok {
			t.Errorf("Read of %d bytes: %v, %t", len(s), p, ok)
		}
	}
}

// P3.1: Read, of a digit that is any byte: only the ten of them tell a number.
func TestReadBytes(t *testing.T) {
	for b := range 256 {
		digit := b >= '0' && b <= '9'
		for _, s := range []string{"1" + string([]byte{byte(b)}) + "/99", "1/1" + string([]byte{byte(b)}), string([]byte{byte(b)}) + "%"} {
			if p, ok := share.Read(s); ok != digit || !ok && p != (api.Ratio{}) {
				t.Errorf("Read(%q): %v, %t", s, p, ok)
			}
		}
	}
}

// P3.1: Read, of all numbers up to 18 digits: those that make a part are read, no others.
func TestReadNumbers(t *testing.T) {
	const most = 999999999999999999
	for _, num := range numbers() {
		for _, den := range numbers() {
			s := strconv.FormatUint(num, 10) + "/" + strconv.FormatUint(den, 10)
			want := api.Ratio{Num: num, Den: den}
			can := den > 0 && num <= den && den <= most
			if !can {
				want = api.Ratio{}
			}
			if p, ok := share.Read(s); p != want || ok != can {
				t.Errorf("Read(%q): %v, %t", s, p, ok)
			}
		}
		s := strconv.FormatUint(num, 10) + "%"
		if p, ok := share.Read(s); ok != (num <= 100) || ok && p != (api.Ratio{Num: num, Den: 100}) {
			t.Errorf("Read(%q): %v, %t", s, p, ok)
		}
	}
}
