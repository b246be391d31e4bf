package quill_test

import (
	"encoding/binary"
	"math"
	"math/rand"
	"slices"
	"strings"
	"testing"

	"ogive/api"
	"ogive/quill"
)

const top = math.MaxUint64

// numbers are those at which a byte more is needed, their neighbours, and others of all lengths, the same in every run.
func numbers() []uint64 {
	list := []uint64{0, 1, 2, 63, 64, 65, 100, 300, top, top - 1, api.MaxCount - 1, api.MaxCount, api.MaxCount + 1}
	for bits := 7; bits < 64; bits += 7 {
		list = append(list, 1<<bits-1, 1<<bits, 1<<bits+1)
	}
	random := rand.New(rand.NewSource(5))
	for len(list) < 200 {
		list = append(list, random.Uint64()>>random.Intn(64))
	}
	return list
}

// values are those of the numbers' bits, with either sign.
func values() []int64 {
	list := []int64{math.MinInt64, math.MinInt64 + 1, math.MaxInt64, -1, -64, -65, 63, 64}
	for _, n := range numbers() {
		list = append(list, int64(n), -int64(n))
	}
	return list
}

// plain is a number's bytes, by the library.
func plain(n uint64) string {
	return string(binary.AppendUvarint(nil, n))
}

// signed is a value's bytes, by the library.
func signed(x int64) string {
	return string(binary.AppendVarint(nil, x))
}

// told is the number at the beginning of a text, and how many bytes it has; by the library, which also reads longer ones.
func told(s string) (uint64, int, bool) {
	n, size := binary.Uvarint([]byte(s))
	if size <= 0 || plain(n) != s[:size] {
		return 0, 0, false
	}
	return n, size, true
}

// nat is what one number is written as.
func nat(n uint64) string {
	var q quill.Quill
	q.Nat(n)
	return q.Text()
}

// mustBad tells, if an eye isn't as a bad one is.
func mustBad(t *testing.T, name string, e *quill.Eye) {
	t.Helper()
	if !e.Bad() || e.Left() != 0 || e.Over() {
		t.Fatalf("%s: bad %t, left %d, over %t", name, e.Bad(), e.Left(), e.Over())
	}
}

// mustLeft tells, if an eye isn't as one is that has so many bytes left.
func mustLeft(t *testing.T, name string, e *quill.Eye, left int) {
	t.Helper()
	if e.Bad() || e.Left() != left || e.Over() != (left == 0) {
		t.Fatalf("%s: bad %t, left %d, not %d, over %t", name, e.Bad(), e.Left(), left, e.Over())
	}
}

// P4.1: the bytes of numbers, at the example and at the edges by name.
func TestNatBytes(t *testing.T) {
	cases := []struct {
		n uint64
		s string
	}{
		{0, "\x00"},
		{1, "\x01"},
		{127, "\x7f"},
		{128, "\x80\x01"},
		{255, "\xff\x01"},
		{256, "\x80\x02"},
		{300, "\xac\x02"},
		{1<<14 - 1, "\xff\x7f"},
		{1 << 14, "\x80\x80\x01"},
		{1<<63 - 1, "\xff\xff\xff\xff\xff\xff\xff\xff\x7f"},
		{1 << 63, "\x80\x80\x80\x80\x80\x80\x80\x80\x80\x01"},
		{top, "\xff\xff\xff\xff\xff\xff\xff\xff\xff\x01"},
	}
	for _, c := range cases {
		if s := nat(c.n); s != c.s {
			t.Errorf("Nat(%d): % x, not % x", c.n, s, c.s)
		}
		e := quill.On(c.s)
		if n := e.Nat(top); n != c.n || !e.Over() {
			t.Errorf("% x: %d, not %d", c.s, n, c.n)
		}
	}
}

// P4.1: the bytes of values, at the edges by name.
func TestIntBytes(t *testing.T) {
	cases := []struct {
		x int64
		s string
	}{
		{0, "\x00"},
		{-1, "\x01"},
		{1, "\x02"},
		{-2, "\x03"},
		{63, "\x7e"},
		{-64, "\x7f"},
		{64, "\x80\x01"},
		{-65, "\x81\x01"},
		{150, "\xac\x02"},
		{math.MaxInt64, "\xfe\xff\xff\xff\xff\xff\xff\xff\xff\x01"},
		{math.MinInt64, "\xff\xff\xff\xff\xff\xff\xff\xff\xff\x01"},
	}
	for _, c := range cases {
		var q quill.Quill
		q.Int(c.x)
		if s := q.Text(); s != c.s {
			t.Errorf("Int(%d): % x, not % x", c.x, s, c.s)
		}
		e := quill.On(c.s)
		if x := e.Int(); x != c.x || !e.Over() {
			t.Errorf("% x: %d, not %d", c.s, x, c.x)
		}
	}
}

// P4.1 and P4.2: lists of no, one and many numbers are written one behind the other, and read again.
func TestNatLists(t *testing.T) {
	list := numbers()
	for _, size := range []int{0, 1, 2, 3, len(list)} {
		var q quill.Quill
		q.Nat(list[:size]...)
		want := ""
		for _, n := range list[:size] {
			want += plain(n)
		}
		if s := q.Text(); s != want {
			t.Fatalf("Nat of %d numbers: % x, not % x", size, s, want)
		}
		e := quill.On(want)
		for _, n := range list[:size] {
			if got := e.Nat(top); got != n {
				t.Fatalf("Nat: %d, not %d", got, n)
			}
		}
		mustLeft(t, "numbers", e, 0)
	}
}

// P4.1 and P4.2: lists of no, one and many values are written one behind the other, and read again.
func TestIntLists(t *testing.T) {
	list := values()
	for _, size := range []int{0, 1, 2, 3, len(list)} {
		var q quill.Quill
		q.Int(list[:size]...)
		want := ""
		for _, x := range list[:size] {
			want += signed(x)
		}
		if s := q.Text(); s != want {
			t.Fatalf("Int of %d values: % x, not % x", size, s, want)
		}
		e := quill.On(want)
		for _, x := range list[:size] {
			if got := e.Int(); got != x {
				t.Fatalf("Int: %d, not %d", got, x)
			}
		}
		mustLeft(t, "values", e, 0)
	}
}

// P4.1: lists that are handed in stay as they were, spare room included.
func TestListsStay(t *testing.T) {
	var q quill.Quill
	room := []uint64{300, top, 7}
	q.Nat(room[:2]...)
	if !slices.Equal(room, []uint64{300, top, 7}) {
		t.Errorf("Nat changed its list: %v", room)
	}
	signs := []int64{-300, math.MinInt64, 7}
	q.Int(signs[:2]...)
	if !slices.Equal(signs, []int64{-300, math.MinInt64, 7}) {
		t.Errorf("Int changed its list: %v", signs)
	}
	was := q.Text()
	room[0], signs[0] = 1, 1
	if q.Text() != was {
		t.Errorf("what is written behind the call is seen: % x", q.Text())
	}
}

// P4.1: a Quill may be an empty one; Raw writes just the bytes it is given; Text may be asked at any time, and changes nothing.
func TestQuillTexts(t *testing.T) {
	var q quill.Quill
	if s := q.Text(); s != "" {
		t.Errorf("nothing written: % x", s)
	}
	q.Nat()
	q.Int()
	q.Raw("")
	if s := q.Text(); s != "" {
		t.Errorf("nothing written, thrice: % x", s)
	}
	var texts []string
	want := ""
	for i := range 300 {
		piece := string([]byte{byte(i), 0, 255 - byte(i)})
		q.Raw(piece)
		q.Nat(uint64(i) << 9)
		q.Int(-int64(i))
		want += piece + plain(uint64(i)<<9) + signed(-int64(i))
		if q.Text() != want || q.Text() != want {
			t.Fatalf("piece %d: % x, not % x", i, q.Text(), want)
		}
		texts = append(texts, q.Text())
	}
	for i, s := range texts {
		if s != want[:len(s)] {
			t.Errorf("text %d has changed: % x", i, s)
		}
	}
}

// P4.1: two Quills know nothing of one another, and a text may be written behind itself.
func TestQuillsApart(t *testing.T) {
	a, b := new(quill.Quill), &quill.Quill{}
	a.Raw("first")
	b.Raw("other")
	a.Raw(a.Text())
	b.Nat(5)
	if a.Text() != "firstfirst" || b.Text() != "other\x05" {
		t.Errorf("%q, %q", a.Text(), b.Text())
	}
}

// P4.1: a nil Quill writes nothing, and nothing panics.
func TestQuillNil(t *testing.T) {
	var q *quill.Quill
	q.Nat()
	q.Nat(1, 2)
	q.Int()
	q.Int(-1, 2)
	q.Raw("")
	q.Raw("some")
	if s := q.Text(); s != "" {
		t.Errorf("% x", s)
	}
}

// texts are all of at most two bytes, and long ones near to where a number ends or has no room.
func texts() []string {
	list := []string{""}
	for a := range 256 {
		list = append(list, string([]byte{byte(a)}))
		for b := range 256 {
			list = append(list, string([]byte{byte(a), byte(b)}))
		}
	}
	for size := range 13 {
		for _, fill := range []string{"\x80", "\xff", "\x81", "\xc0"} {
			for _, end := range []string{"", "\x00", "\x01", "\x02", "\x03", "\x40", "\x7e", "\x7f", "\x80", "\x80\x00", "\x01\x00", "\x01\x01"} {
				list = append(list, strings.Repeat(fill, size)+end)
			}
		}
	}
	random := rand.New(rand.NewSource(6))
	for range 5000 {
		s := make([]byte, random.Intn(14))
		for i := range s {
			s[i] = byte(random.Intn(256)) | byte(random.Intn(2)<<7)
		}
		list = append(list, string(s))
	}
	return list
}

// P4.1 and P4.2: all texts: just those that begin as a number is written are read, and what is read has just these bytes.
func TestNatTexts(t *testing.T) {
	for _, s := range texts() {
		want, size, ok := told(s)
		e := quill.On(s)
		n := e.Nat(top)
		if n != want {
			t.Fatalf("% x: %d, not %d", s, n, want)
		}
		if !ok {
			mustBad(t, "none", e)
			continue
		}
		mustLeft(t, "a number", e, len(s)-size)
		if nat(n) != s[:size] {
			t.Fatalf("% x: written again % x", s, nat(n))
		}
	}
}

// P4.1 and P4.2: values, of all texts.
func TestIntTexts(t *testing.T) {
	for _, s := range texts() {
		_, size, ok := told(s)
		e := quill.On(s)
		x := e.Int()
		if !ok {
			if x != 0 {
				t.Fatalf("% x: %d", s, x)
			}
			mustBad(t, "none", e)
			continue
		}
		mustLeft(t, "a value", e, len(s)-size)
		var q quill.Quill
		q.Int(x)
		if want, _ := binary.Varint([]byte(s)); x != want || q.Text() != s[:size] {
			t.Fatalf("% x: %d, not %d, written again % x", s, x, want, q.Text())
		}
	}
}

// P4.1: bytes that no number has, by name.
func TestNatWrong(t *testing.T) {
	nine := strings.Repeat("\xff", 9)
	wrong := []string{
		"", "\x80", "\xff", "\x80\x80", "\xac", nine, nine + "\xff", strings.Repeat("\x80", 10), strings.Repeat("\x80", 100),
		"\x80\x00", "\x81\x00", "\xff\x00", "\x80\x80\x00", "\x80\x00\x01", "\xac\x82\x00", nine + "\x00",
		nine + "\x02", nine + "\x03", nine + "\x7f", nine + "\x81", nine + "\x81\x00", nine + "\x80\x00", nine + "\x80\x01", nine + "\xff\x01", nine + "\x81\x01",
		strings.Repeat("\x80", 9) + "\x02", strings.Repeat("\x80", 10) + "\x01", strings.Repeat("\x80", 18) + "\x01",
	}
	for _, s := range wrong {
		for _, rest := range []string{"", "\x80", "\xff"} {
			e := quill.On(s + rest)
			if n := e.Nat(top); n != 0 {
				t.Errorf("% x: %d", s+rest, n)
			}
			mustBad(t, "Nat", e)
			e = quill.On(s + rest)
			if x := e.Int(); x != 0 {
				t.Errorf("% x: %d", s+rest, x)
			}
			mustBad(t, "Int", e)
		}
	}
}

// P4.2: bytes of a number are those of no other one, nor does one's begin as another one's.
func TestNatApart(t *testing.T) {
	list := numbers()
	for _, a := range list {
		for _, b := range list {
			if a != b && strings.HasPrefix(nat(a), nat(b)) {
				t.Errorf("%d is % x, %d is % x", a, nat(a), b, nat(b))
			}
		}
	}
}

// P4.1: Nat reads a number that is the most, and none above it.
func TestNatMost(t *testing.T) {
	for _, n := range numbers() {
		for _, most := range append(numbers(), n, n-1, n+1) {
			e := quill.On(plain(n) + "x")
			got := e.Nat(most)
			if n > most {
				if got != 0 {
					t.Fatalf("%d of at most %d: %d", n, most, got)
				}
				mustBad(t, "above", e)
				continue
			}
			if got != n {
				t.Fatalf("%d of at most %d: %d", n, most, got)
			}
			mustLeft(t, "below", e, 1)
		}
	}
}

// P4.1: Small reads a number that is the most, and none above it; below 0 the most is 0.
func TestSmall(t *testing.T) {
	mosts := []int{math.MinInt, math.MinInt + 1, -300, -2, -1, 0, 1, 2, 127, 128, 129, 299, 300, 301, 1 << 32, math.MaxInt - 1, math.MaxInt}
	for _, n := range numbers() {
		for _, most := range mosts {
			e := quill.On(plain(n) + "x")
			got := e.Small(most)
			if n > uint64(max(most, 0)) {
				if got != 0 {
					t.Fatalf("%d of at most %d: %d", n, most, got)
				}
				mustBad(t, "above", e)
				continue
			}
			if got < 0 || uint64(got) != n {
				t.Fatalf("%d of at most %d: %d", n, most, got)
			}
			mustLeft(t, "below", e, 1)
		}
	}
}

// P4.1: Count reads numbers from 1 to MaxCount alone.
func TestCount(t *testing.T) {
	for _, n := range numbers() {
		e := quill.On(plain(n) + "x")
		got := e.Count()
		if n < 1 || n > 1<<63-1 {
			if got != 0 {
				t.Fatalf("%d: %d", n, got)
			}
			mustBad(t, "no count", e)
			continue
		}
		if got != n {
			t.Fatalf("%d: %d", n, got)
		}
		mustLeft(t, "a count", e, 1)
	}
}

// P4.1: Small and Count read no texts that Nat doesn't read.
func TestSmallCountTexts(t *testing.T) {
	for _, s := range texts() {
		want, size, ok := told(s)
		e := quill.On(s)
		if n := e.Small(math.MaxInt); ok && want <= math.MaxInt {
			if n != int(want) {
				t.Fatalf("Small of % x: %d, not %d", s, n, want)
			}
			mustLeft(t, "Small", e, len(s)-size)
		} else {
			mustBad(t, "Small", e)
		}
		e = quill.On(s)
		if n := e.Count(); ok && want <= api.MaxCount && want > 0 {
			if n != want {
				t.Fatalf("Count of % x: %d, not %d", s, n, want)
			}
			mustLeft(t, "Count", e, len(s)-size)
		} else {
			mustBad(t, "Count", e)
		}
	}
}

// P4.1: Raw reads so many bytes: none, some and all of them, whatever they are.
func TestRaw(t *testing.T) {
	all := "a\x00\xff\x80\u00e9z"
	for first := range len(all) + 1 {
		e := quill.On(all)
		if s := e.Raw(first); s != all[:first] {
			t.Errorf("Raw(%d): %q", first, s)
		}
		mustLeft(t, "first", e, len(all)-first)
		if s := e.Raw(0); s != "" {
			t.Errorf("Raw(0): %q", s)
		}
		mustLeft(t, "none", e, len(all)-first)
		if s := e.Raw(len(all) - first); s != all[first:] {
			t.Errorf("Raw(%d): %q", len(all)-first, s)
		}
		mustLeft(t, "all", e, 0)
		if s := e.Raw(0); s != "" {
			t.Errorf("Raw(0): %q", s)
		}
		mustLeft(t, "none of none", e, 0)
	}
}

// P4.1: Raw of more bytes than are left, or of a number of them below 0, makes it bad, and reads nothing.
func TestRawWrong(t *testing.T) {
	for _, all := range []string{"", "a", "some bytes"} {
		for _, n := range []int{-1, -2, -len(all) - 1, math.MinInt, math.MinInt + 1, len(all) + 1, len(all) + 2, 1 << 40, math.MaxInt} {
			e := quill.On(all)
			if s := e.Raw(n); s != "" {
				t.Errorf("Raw(%d) of %q: %q", n, all, s)
			}
			mustBad(t, "Raw", e)
		}
	}
}

// mustReadNothing tells, if a bad eye reads something, or gets well.
func mustReadNothing(t *testing.T, name string, e *quill.Eye) {
	t.Helper()
	for range 2 {
		mustBad(t, name, e)
		if s := e.Raw(0); s != "" {
			t.Errorf("%s: Raw(0): %q", name, s)
		}
		if s := e.Raw(1); s != "" {
			t.Errorf("%s: Raw(1): %q", name, s)
		}
		if n, x, k, c := e.Nat(top), e.Int(), e.Small(100), e.Count(); n != 0 || x != 0 || k != 0 || c != 0 {
			t.Errorf("%s: %d, %d, %d, %d", name, n, x, k, c)
		}
		mustBad(t, name, e)
		e.Shut()
	}
	mustBad(t, name, e)
}

// P4.1: whatever makes an eye bad, it reads nothing any more, and nothing is left.
func TestBad(t *testing.T) {
	cases := []struct {
		name string
		s    string
		act  func(e *quill.Eye)
	}{
		{"shut", "\x01\x01\x01\x01", func(e *quill.Eye) { e.Shut() }},
		{"shut, of nothing", "", func(e *quill.Eye) { e.Shut() }},
		{"shut, behind some", "\x01\x01\x01\x01", func(e *quill.Eye) { e.Nat(1); e.Shut() }},
		{"shut, behind all", "\x01", func(e *quill.Eye) { e.Nat(1); e.Shut() }},
		{"too few bytes", "\x01\x01", func(e *quill.Eye) { e.Raw(3) }},
		{"below 0 bytes", "\x01\x01", func(e *quill.Eye) { e.Raw(-1) }},
		{"above the most", "\x05\x01\x01", func(e *quill.Eye) { e.Nat(4) }},
		{"too long", "\x81\x00\x01\x01", func(e *quill.Eye) { e.Nat(top) }},
		{"too long a value", "\x81\x00\x01\x01", func(e *quill.Eye) { e.Int() }},
		{"cut", "\x81", func(e *quill.Eye) { e.Nat(top) }},
		{"cut value", "\x81", func(e *quill.Eye) { e.Int() }},
		{"beyond 64 bits", strings.Repeat("\xff", 9) + "\x02\x01\x01", func(e *quill.Eye) { e.Nat(top) }},
		{"above what is small", "\x05\x01\x01", func(e *quill.Eye) { e.Small(4) }},
		{"above 0", "\x01\x01\x01", func(e *quill.Eye) { e.Small(-1) }},
		{"no count", "\x00\x01\x01", func(e *quill.Eye) { e.Count() }},
		{"too great a count", plain(1<<63) + "\x01\x01", func(e *quill.Eye) { e.Count() }},
	}
	for _, c := range cases {
		e := quill.On(c.s)
		c.act(e)
		mustReadNothing(t, c.name, e)
	}
}

// P4.1: a nil eye is bad, and never over, and nothing panics.
func TestEyeNil(t *testing.T) {
	var e *quill.Eye
	e.Shut()
	mustReadNothing(t, "nil", e)
	if s := e.Raw(-1); s != "" {
		t.Errorf("Raw(-1): %q", s)
	}
	if k := e.Small(-1); k != 0 {
		t.Errorf("Small(-1): %d", k)
	}
}

// P4.1: an eye on nothing is over at once, and isn't bad till something is read.
func TestEyeEmpty(t *testing.T) {
	e := quill.On("")
	if e == nil {
		t.Fatal("no eye")
	}
	mustLeft(t, "nothing", e, 0)
	mustLeft(t, "nothing, asked again", e, 0)
	e.Int()
	mustBad(t, "read", e)
}

// P4.1: two eyes, on the same bytes too, know nothing of one another.
func TestEyesApart(t *testing.T) {
	s := "\x01\x02\x03"
	a, b := quill.On(s), quill.On(s)
	if n := a.Nat(9); n != 1 {
		t.Errorf("first: %d", n)
	}
	a.Shut()
	mustBad(t, "shut", a)
	mustLeft(t, "other", b, 3)
	for want := uint64(1); want <= 3; want++ {
		if n := b.Nat(9); n != want {
			t.Errorf("other: %d, not %d", n, want)
		}
	}
	mustLeft(t, "other", b, 0)
}

// model is an eye that is made by the library's reading: what is left, and whether it is bad.
type model struct {
	left string
	bad  bool
}

// number reads one from least to most.
func (m *model) number(least, most uint64) uint64 {
	n, size, ok := told(m.left)
	if m.bad || !ok || n < least || n > most {
		m.left, m.bad = "", true
		return 0
	}
	m.left = m.left[size:]
	return n
}

// raw reads so many bytes.
func (m *model) raw(n int) string {
	if m.bad || n < 0 || n > len(m.left) {
		m.left, m.bad = "", true
		return ""
	}
	s := m.left[:n]
	m.left = m.left[n:]
	return s
}

// readBoth reads one thing by an eye and by its model, and tells whether both are the same.
func readBoth(random *rand.Rand, e *quill.Eye, m *model) bool {
	most := random.Uint64() >> random.Intn(64)
	switch random.Intn(5) {
	case 0:
		return e.Nat(most) == m.number(0, most)
	case 1:
		u := m.number(0, top)
		return e.Int() == int64(u>>1)^-int64(u&1)
	case 2:
		small := int(most)
		return e.Small(small) == int(m.number(0, uint64(max(small, 0))))
	case 3:
		return e.Count() == m.number(1, api.MaxCount)
	}
	size := random.Intn(8) - 1
	return e.Raw(size) == m.raw(size)
}

// P4.1: all calls of an eye, in every order, on any bytes.
func TestEveryOrder(t *testing.T) {
	random := rand.New(rand.NewSource(7))
	for range 20000 {
		var q quill.Quill
		for range random.Intn(8) {
			q.Nat(random.Uint64() >> random.Intn(64))
			q.Nat(uint64(random.Intn(2)))
			q.Raw(string([]byte{byte(random.Intn(256))}))
		}
		e, m := quill.On(q.Text()), &model{left: q.Text()}
		for range 12 {
			was := m.left
			if !readBoth(random, e, m) {
				t.Fatalf("% x: another answer", was)
			}
			if e.Left() != len(m.left) || e.Bad() != m.bad || e.Over() != (!m.bad && m.left == "") {
				t.Fatalf("% x: left %d, bad %t, over %t", was, e.Left(), e.Bad(), e.Over())
			}
		}
	}
}

// P4.2: what was written in any order is read again in it.
func TestWrittenAndRead(t *testing.T) {
	random := rand.New(rand.NewSource(8))
	list, signs := numbers(), values()
	for range 200 {
		var q quill.Quill
		var acts []func(e *quill.Eye) bool
		for range random.Intn(50) {
			n, x := list[random.Intn(len(list))], signs[random.Intn(len(signs))]
			s := strings.Repeat("\x80s", random.Intn(4))
			q.Nat(n)
			q.Raw(s)
			q.Int(x)
			acts = append(acts, func(e *quill.Eye) bool { return e.Nat(n) == n && e.Raw(len(s)) == s && e.Int() == x })
		}
		e := quill.On(q.Text())
		for i, act := range acts {
			if e.Over() || !act(e) {
				t.Fatalf("% x: thing %d isn't as it was written", q.Text(), i)
			}
		}
		mustLeft(t, "all read", e, 0)
	}
}

// P4.1: many bytes, written one behind the other; a number without an end isn't one.
func TestMany(t *testing.T) {
	var q quill.Quill
	for range 1 << 17 {
		q.Raw("\x80")
		q.Nat(0)
	}
	q.Raw(strings.Repeat("\x80", 1<<17))
	s := q.Text()
	if len(s) != 3<<17 {
		t.Fatalf("%d bytes", len(s))
	}
	e := quill.On(s[2<<17:])
	if n := e.Nat(top); n != 0 {
		t.Errorf("%d", n)
	}
	mustBad(t, "without an end", e)
	e = quill.On(s)
	for range 1 << 17 {
		e.Raw(1)
		e.Nat(0)
	}
	mustLeft(t, "half", e, 1<<17)
}
