package frame_test

import (
	"encoding/binary"
	"hash/crc32"
	"math/rand"
	"strings"
	"testing"

	"ogive/api"
	"ogive/frame"
)

// begin is what every frame begins with.
const begin = "OG\x01"

// sealed is a text with its sum behind it, by the library.
func sealed(s string) string {
	return string(binary.LittleEndian.AppendUint32([]byte(s), crc32.ChecksumIEEE([]byte(s))))
}

// framed is what Close answers, by the library.
func framed(kind byte, load string) string {
	head := append([]byte(begin), kind)
	return sealed(string(binary.AppendUvarint(head, uint64(len(load)))) + load)
}

// opened is what Open answers, by the library: each part is looked at on its own.
func opened(s string) (byte, string, bool) {
	if len(s) < 9 || s[:3] != begin {
		return 0, "", false
	}
	body := s[:len(s)-4]
	if sealed(body) != s {
		return 0, "", false
	}
	size, wide := binary.Uvarint([]byte(body[4:]))
	if wide <= 0 || size > 1<<18 || int(size) != len(body)-4-wide {
		return 0, "", false
	}
	// The library reads longer numbers, too.
	if len(binary.AppendUvarint(nil, size)) != wide {
		return 0, "", false
	}
	return body[3], body[4+wide:], true
}

// noise is a text of so many bytes, the same in every run.
func noise(random *rand.Rand, size int) string {
	s := make([]byte, size)
	random.Read(s)
	return string(s)
}

// loads are of all lengths at which the number of them has a byte more, and of their neighbours' lengths.
func loads() []string {
	list := []string{"", "\x00", "\xff", "a", "OG", begin, "\x00\x00\x00\x00", "\xff\xff\xff\xff", "\u00e9\x80", framed(1, ""), framed(6, "ab")}
	random := rand.New(rand.NewSource(9))
	for _, size := range []int{2, 3, 4, 5, 100, 126, 127, 128, 129, 255, 256, 1<<14 - 1, 1 << 14, 1<<14 + 1, 1<<18 - 1, 1 << 18} {
		list = append(list, noise(random, size))
	}
	return list
}

// short are those of the loads that are short, so that much can be done with each of them.
func short() []string {
	var list []string
	for _, load := range loads() {
		if len(load) <= 129 {
			list = append(list, load)
		}
	}
	return list
}

// mustOpen tells, if a text isn't opened to a kind and a load.
func mustOpen(t *testing.T, s string, kind byte, load string) {
	t.Helper()
	if k, l, err := frame.Open(s); k != kind || l != load || err != api.OK {
		t.Fatalf("kind %d, load of %d bytes: kind %d, load of %d, error %d", kind, len(load), k, len(l), err)
	}
}

// mustRefuse tells, if a text is opened, or anything is answered beside the error.
func mustRefuse(t *testing.T, name, s string) {
	t.Helper()
	if kind, load, err := frame.Open(s); kind != 0 || load != "" || err != api.ErrForm {
		t.Fatalf("%s: % x: kind %d, load % x, error %d", name, s, kind, load, err)
	}
}

// P5.1: Sum, at its example and other texts by name.
func TestSumKnown(t *testing.T) {
	cases := []struct {
		s   string
		sum uint32
	}{
		{"123456789", 0xcbf43926},
		{"", 0},
		{"\x00", 0xd202ef8d},
		{"\xff", 0xff000000},
		{"a", 0xe8b7be43},
		{"abc", 0x352441c2},
		{"\xff\xff\xff\xff", 0xffffffff},
		{"\x00\x00\x00\x00", 0x2144df1c},
		{strings.Repeat("\x00", 32), 0x190a55ad},
		{strings.Repeat("\xff", 32), 0xff6cab0b},
		{"The quick brown fox jumps over the lazy dog", 0x414fa339},
	}
	for _, c := range cases {
		if sum := frame.Sum(c.s); sum != c.sum {
			t.Errorf("Sum of % x: %08x, not %08x", c.s, sum, c.sum)
		}
	}
}

// P5.1: Sum, of all texts of at most two bytes, and of others of all lengths.
func TestSum(t *testing.T) {
	list := loads()
	for a := range 256 {
		list = append(list, string([]byte{byte(a)}))
		for b := range 256 {
			list = append(list, string([]byte{byte(a), byte(b)}))
		}
	}
	random := rand.New(rand.NewSource(10))
	for size := range 600 {
		list = append(list, noise(random, size))
	}
	list = append(list, noise(random, 1<<20), noise(random, 1<<20+3))
	for _, s := range list {
		if sum, want := frame.Sum(s), crc32.ChecksumIEEE([]byte(s)); sum != want {
			t.Fatalf("Sum of %d bytes: %08x, not %08x", len(s), sum, want)
		}
	}
}

// P5.1: the bytes of what is framed, by name.
func TestCloseBytes(t *testing.T) {
	cases := []struct {
		kind byte
		load string
		head string
	}{
		{0, "", "\x4f\x47\x01\x00\x00"},
		{6, "", "\x4f\x47\x01\x06\x00"},
		{127, "a", "\x4f\x47\x01\x7f\x01"},
		{128, "a", "\x4f\x47\x01\x80\x01"},
		{255, "abc", "\x4f\x47\x01\xff\x03"},
		{1, strings.Repeat("x", 127), "\x4f\x47\x01\x01\x7f"},
		{1, strings.Repeat("x", 128), "\x4f\x47\x01\x01\x80\x01"},
		{1, strings.Repeat("x", 300), "\x4f\x47\x01\x01\xac\x02"},
		{2, strings.Repeat("x", 1<<14-1), "\x4f\x47\x01\x02\xff\x7f"},
		{2, strings.Repeat("x", 1<<14), "\x4f\x47\x01\x02\x80\x80\x01"},
		{3, strings.Repeat("x", 1<<18-1), "\x4f\x47\x01\x03\xff\xff\x0f"},
		{3, strings.Repeat("x", 1<<18), "\x4f\x47\x01\x03\x80\x80\x10"},
	}
	for _, c := range cases {
		s, err := frame.Close(c.kind, c.load)
		if s != sealed(c.head+c.load) || err != api.OK {
			t.Errorf("kind %d, load of %d bytes: %d bytes, error %d", c.kind, len(c.load), len(s), err)
		}
		mustOpen(t, sealed(c.head+c.load), c.kind, c.load)
	}
}

// P5.1: what is framed, whole: the sum's lowest byte stands first.
func TestCloseWhole(t *testing.T) {
	whole := "\x4f\x47\x01\x06\x03abc\xe4\x55\xff\x88"
	if s, err := frame.Close(6, "abc"); s != whole || err != api.OK {
		t.Errorf("% x, error %d", s, err)
	}
	mustOpen(t, whole, 6, "abc")
}

// P5.1: Close and Open, of all kinds, and loads of all lengths.
func TestCloseOpen(t *testing.T) {
	for _, load := range loads() {
		for kind := range 256 {
			// Every kind of the long ones would take long, and tell no more.
			if len(load) > 1<<10 && kind%51 != 0 {
				continue
			}
			s, err := frame.Close(byte(kind), load)
			if s != framed(byte(kind), load) || err != api.OK {
				t.Fatalf("kind %d, load of %d bytes: %d bytes, error %d", kind, len(load), len(s), err)
			}
			mustOpen(t, s, byte(kind), load)
		}
	}
}

// P5.1: a load of more than MaxBytes bytes isn't framed.
func TestCloseLong(t *testing.T) {
	for _, size := range []int{api.MaxBytes + 1, api.MaxBytes + 2, 2 * api.MaxBytes, 1 << 21} {
		for _, kind := range []byte{0, 1, 255} {
			if s, err := frame.Close(kind, strings.Repeat("\x00", size)); s != "" || err != api.ErrLong {
				t.Errorf("kind %d, load of %d bytes: %d bytes, error %d", kind, size, len(s), err)
			}
		}
	}
}

// P5.1: nor is it opened, when somebody else framed it.
func TestOpenLong(t *testing.T) {
	mustOpen(t, framed(1, strings.Repeat("\x00", api.MaxBytes)), 1, strings.Repeat("\x00", api.MaxBytes))
	for _, size := range []int{api.MaxBytes + 1, api.MaxBytes + 2, 2 * api.MaxBytes, 1 << 21} {
		s := framed(1, strings.Repeat("\x00", size))
		if kind, load, err := frame.Open(s); kind != 0 || load != "" || err != api.ErrForm {
			t.Errorf("load of %d bytes: kind %d, load of %d, error %d", size, kind, len(load), err)
		}
	}
}

// P5.1: what isn't framed, though its sum is right.
func TestOpenWrong(t *testing.T) {
	nine := strings.Repeat("\xff", 9)
	wrong := []string{
		"", "O", "OG", begin, begin + "\x01",
		begin + "\x01\x01", begin + "\x01\x02a", begin + "\x01\x00a", begin + "\x01\x01ab",
		begin + "\x01\x80", begin + "\x01\x80\x00", begin + "\x01\x81\x00a", begin + "\x01\x80\x80\x00",
		begin + "\x01" + nine + "\x01", begin + "\x01" + nine + "\x02", begin + "\x01" + strings.Repeat("\x80", 30),
		"\x01\x01a", "OG\x00\x01\x01a", "OG\x02\x01\x01a", "OG\x81\x01\x01a", "GO\x01\x01\x01a", "og\x01\x01\x01a",
		"OH\x01\x01\x01a", "NG\x01\x01\x01a", "\x00" + begin + "\x01\x01a", "O\x00G\x01\x01\x01a", begin + "\x00\x01\x01a",
		begin + "\x01\x80\x80\x90\x00", begin + "\x01\x81\x80\x10" + strings.Repeat("a", 10),
	}
	for _, s := range wrong {
		mustRefuse(t, "wrong", sealed(s))
		mustRefuse(t, "wrong, without a sum", s)
	}
}

// P5.1: what isn't framed, since its sum is another one.
func TestOpenWrongSum(t *testing.T) {
	for _, load := range short() {
		s := framed(3, load)
		body := s[:len(s)-4]
		sum := crc32.ChecksumIEEE([]byte(body))
		mustOpen(t, string(binary.LittleEndian.AppendUint32([]byte(body), sum)), 3, load)
		mustRefuse(t, "the highest byte first", string(binary.BigEndian.AppendUint32([]byte(body), sum)))
		for _, other := range []uint32{^sum, 0, ^uint32(0), sum + 1, sum - 1, crc32.ChecksumIEEE([]byte(load)), crc32.ChecksumIEEE([]byte(body[3:])), crc32.ChecksumIEEE([]byte(body[4:]))} {
			mustRefuse(t, "another sum", string(binary.LittleEndian.AppendUint32([]byte(body), other)))
		}
		other := crc32.Checksum([]byte(body), crc32.MakeTable(crc32.Castagnoli))
		mustRefuse(t, "another polynomial", string(binary.LittleEndian.AppendUint32([]byte(body), other)))
	}
}

// P5.1: Open, of all texts of at most two bytes, and of many that are near to what is framed: just what Close answers is opened.
func TestOpenTexts(t *testing.T) {
	for a := range 256 {
		mustRefuse(t, "one byte", string([]byte{byte(a)}))
		for b := range 256 {
			mustRefuse(t, "two bytes", string([]byte{byte(a), byte(b)}))
		}
	}
	random := rand.New(rand.NewSource(11))
	seen := 0
	for range 200000 {
		head := []byte(begin)
		head[random.Intn(3)] ^= byte(random.Intn(8) / 7)
		head = append(head, byte(random.Intn(256)))
		size := random.Intn(6)
		if random.Intn(4) == 0 {
			head = append(head, byte(size)|128, byte(random.Intn(3)/2))
		} else {
			head = append(head, byte(size))
		}
		s := sealed(string(head) + noise(random, max(0, size+random.Intn(8)/6-random.Intn(8)/6)))
		kind, load, ok := opened(s)
		if !ok {
			mustRefuse(t, "near", s)
			continue
		}
		seen++
		mustOpen(t, s, kind, load)
		if again, err := frame.Close(kind, load); again != s || err != api.OK {
			t.Fatalf("% x: closed again % x, error %d", s, again, err)
		}
	}
	if seen < 1000 || seen > 199000 {
		t.Errorf("only %d were framed", seen)
	}
}

// turned is a text with so many bytes in a row turned, from a place on, at the bits that are set.
func turned(s string, at int, bits ...byte) string {
	list := []byte(s)
	for i, b := range bits {
		list[at+i] ^= b
	}
	return string(list)
}

// P5.2: with any bits of one byte turned what is framed isn't opened.
func TestTurnedByte(t *testing.T) {
	for _, load := range short() {
		for _, kind := range []byte{0, 1, 6, 255} {
			s := framed(kind, load)
			for at := range len(s) {
				for bits := 1; bits < 256; bits++ {
					mustRefuse(t, "a byte turned", turned(s, at, byte(bits)))
				}
			}
		}
	}
}

// P5.2: nor with any bits of two in a row.
func TestTurnedTwo(t *testing.T) {
	for _, load := range []string{"", "\x00", "ab"} {
		s := framed(2, load)
		for at := range len(s) - 1 {
			for bits := 1; bits < 1<<16; bits++ {
				mustRefuse(t, "two bytes turned", turned(s, at, byte(bits), byte(bits>>8)))
			}
		}
	}
}

// P5.2: nor with bits of three, or four.
func TestTurnedFour(t *testing.T) {
	random := rand.New(rand.NewSource(12))
	for _, load := range short() {
		s := framed(4, load)
		for at := range len(s) - 3 {
			mustRefuse(t, "all bits of three turned", turned(s, at, 255, 255, 255))
			mustRefuse(t, "all bits of four turned", turned(s, at, 255, 255, 255, 255))
			mustRefuse(t, "the outermost bits turned", turned(s, at, 1, 0, 0, 128))
			mustRefuse(t, "the outermost bits turned", turned(s, at, 128, 0, 0, 1))
			// The polynomial's own bits are what a sum would miss soonest, were there one bit more.
			mustRefuse(t, "the polynomial's bits turned", turned(s, at, 0x20, 0x83, 0xb8, 0xed))
			mustRefuse(t, "the polynomial's bits turned", turned(s, at, 0x04, 0xc1, 0x1d, 0xb7))
			for range 300 {
				bits := random.Uint32() | 1<<random.Intn(32)
				mustRefuse(t, "four bytes turned", turned(s, at, byte(bits), byte(bits>>8), byte(bits>>16), byte(bits>>24)))
			}
		}
	}
}

// P5.2: nor where the turned bytes tell another length, however long the load is.
func TestTurnedLength(t *testing.T) {
	random := rand.New(rand.NewSource(13))
	for _, load := range loads() {
		s := framed(5, load)
		for size := range 600 {
			head := binary.AppendUvarint(nil, uint64(size))
			was := s[4 : 4+len(head)]
			if string(head) != was {
				mustRefuse(t, "another length", s[:4]+string(head)+s[4+len(head):])
			}
		}
		for range 50 {
			at := 1 + random.Intn(4)
			bits := random.Uint32() | 1
			mustRefuse(t, "a head turned", turned(s, at, byte(bits), byte(bits>>8), byte(bits>>16), byte(bits>>24)))
		}
	}
}

// P5.2: cut at either end, or in the middle, it isn't opened.
func TestCut(t *testing.T) {
	for _, load := range short() {
		s := framed(1, load)
		for at := range len(s) {
			mustRefuse(t, "the end cut", s[:at])
			mustRefuse(t, "the beginning cut", s[at+1:])
			mustRefuse(t, "a byte cut out", s[:at]+s[at+1:])
		}
	}
	for _, load := range loads() {
		s := framed(1, load)
		for _, less := range []int{1, 2, 3, 4, 5} {
			mustRefuse(t, "the end cut", s[:len(s)-less])
			mustRefuse(t, "the beginning cut", s[less:])
		}
	}
}

// P5.2: with something behind, or ahead, it isn't opened.
func TestBehind(t *testing.T) {
	for _, load := range loads() {
		s := framed(1, load)
		more := []string{"\x00\x00", "\xff\xff\xff\xff", "\x00\x00\x00\x00", s, s[len(s)-4:], framed(1, "")}
		for b := range 256 {
			if len(load) < 1<<10 || b%51 == 0 {
				more = append(more, string([]byte{byte(b)}))
			}
		}
		for _, m := range more {
			mustRefuse(t, "something behind", s+m)
			mustRefuse(t, "something ahead", m+s)
			mustRefuse(t, "something behind, and a sum", sealed(s+m))
		}
	}
}
