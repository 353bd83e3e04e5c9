package bits_test

import (
	"fmt"
	"math"
	"slices"
	"strconv"
	"strings"
	"testing"

	"lapwing/api"
	"lapwing/bits"
)

// lineBits tells an octet's bits by the library's digits instead of by shifts, so that it doesn't share a fault with what it is held against.
func lineBits(octet byte) string {
	digits := []byte(fmt.Sprintf("%08b", octet))
	slices.Reverse(digits)
	return string(digits)
}

// allOctets is each octet once, rising.
func allOctets() string {
	var s strings.Builder
	for o := range 256 {
		s.WriteByte(byte(o))
	}
	return s.String()
}

// P1.1: Of, octets as their bits, the lowest first.
func TestOf(t *testing.T) {
	for _, x := range []struct{ octets, want string }{
		{"", ""},
		{"\x00", "00000000"},
		{"\x01", "10000000"},
		{"\x80", "00000001"},
		{"\xff", "11111111"},
		{"\xa1", "10000101"},
		{"\x7e\x03", "0111111011000000"},
		{"\x03\x7e", "1100000001111110"},
		{"0", "00001100"},
		{"\xc3\xa9", "1100001110010101"}, // bytes, not runes
		{"\x00\x00\x01", "000000000000000010000000"},
	} {
		if got := bits.Of(x.octets); got != x.want {
			t.Errorf("Of(%x) = %q, want %q", x.octets, got, x.want)
		}
	}
}

// P1.1: Of and Octets, of each octet alone, of each behind another, and of all in a row.
func TestOfAndOctetsOfEachOctet(t *testing.T) {
	row := ""
	for o := range 256 {
		row += lineBits(byte(o))
		for _, s := range []string{string([]byte{byte(o)}), string([]byte{0x5a, byte(o)})} {
			want := ""
			for i := range len(s) {
				want += lineBits(s[i])
			}
			holdBits(t, s, want)
		}
	}
	holdBits(t, allOctets(), row)
}

func holdBits(t *testing.T, octets, want string) {
	t.Helper()
	if got := bits.Of(octets); got != want {
		t.Errorf("Of(%x) = %q, want %q", octets, got, want)
	}
	if got, e := bits.Octets(want); got != octets || e != api.OK {
		t.Errorf("Octets(%q) = %x, %d, want %x, OK", want, got, e, octets)
	}
}

// P1.1: Octets' errors, and their order: what isn't bits is told ahead of what is too short.
func TestOctetsErrors(t *testing.T) {
	eight := "01010101"
	for _, x := range []struct {
		b    string
		want api.Errno
	}{
		{"0", api.ErrShort},
		{"1", api.ErrShort},
		{"1111111", api.ErrShort},
		{eight + "0", api.ErrShort},
		{eight + "1010101", api.ErrShort},
		{"2", api.ErrForm},
		{"/", api.ErrForm},
		{"0101010a", api.ErrForm},
		{"a1010101", api.ErrForm},
		{eight + "2", api.ErrForm},
		{"2" + eight, api.ErrForm},
		{eight + "0101 101", api.ErrForm},
		{eight + "\n", api.ErrForm},
		{"\x00\x01\x00\x01\x00\x01\x00\x01", api.ErrForm},
		{"\xb0\xb1\xb0\xb1\xb0\xb1\xb0\xb1", api.ErrForm},
		{"\u0661", api.ErrForm}, // a digit, but not a byte `1`
	} {
		if s, e := bits.Octets(x.b); s != "" || e != x.want {
			t.Errorf("Octets(%q) = %x, %d, want none, %d", x.b, s, e, x.want)
		}
	}
	for n := range 33 {
		want := api.OK
		if n%8 != 0 {
			want = api.ErrShort
		}
		s, e := bits.Octets(strings.Repeat("1", n))
		if e != want || e == api.OK && s != strings.Repeat("\xff", n/8) || e != api.OK && s != "" {
			t.Errorf("Octets of %d bits: %x, %d", n, s, e)
		}
	}
}

// P1.2: Good, of each byte that there is, at the beginning, in the middle and at the end.
func TestGood(t *testing.T) {
	if !bits.Good("") {
		t.Error("the empty text is bits")
	}
	for o := range 256 {
		c := string([]byte{byte(o)})
		want := c == "0" || c == "1"
		for _, b := range []string{c, c + "01", "0" + c + "1", "10" + c} {
			if got := bits.Good(b); got != want {
				t.Errorf("Good(%q) = %t", b, got)
			}
		}
	}
}

// P1.2: Flip, with places twice, outside, and at bytes that are no bits.
func TestFlip(t *testing.T) {
	for _, x := range []struct {
		b    string
		at   []int
		want string
	}{
		{"0110", nil, "0110"},
		{"0110", []int{}, "0110"},
		{"0110", []int{0}, "1110"},
		{"0110", []int{3}, "0111"},
		{"0110", []int{2, 1}, "0000"},
		{"0110", []int{0, 1, 2, 3}, "1001"},
		{"01", []int{1, 1}, "01"},
		{"01", []int{1, 0, 1}, "11"},
		{"01", []int{0, 0, 0}, "11"},
		{"01", []int{-1, 2, 3, math.MinInt, math.MaxInt}, "01"},
		{"01", []int{-1, 0, 2}, "11"},
		{"01", []int{math.MinInt, 1, math.MaxInt}, "00"},
		{"0102", []int{0, 1, 3, -1, 9, math.MinInt}, "1002"},
		{"a0/2", []int{0, 1, 2, 3}, "a1/2"},
		{"\x00\x01\xff", []int{0, 1, 2}, "\x00\x01\xff"},
		{"\u00e90", []int{0, 1, 2}, "\u00e91"}, // places are of bytes, not of runes
		{"", []int{0, -1, 1}, ""},
		{"", nil, ""},
	} {
		if got := bits.Flip(x.b, x.at...); got != x.want {
			t.Errorf("Flip(%q, %v) = %q, want %q", x.b, x.at, got, x.want)
		}
	}
}

// P1.2: each byte but `0` and `1` stays as it is.
func TestFlipEachByte(t *testing.T) {
	for o := range 256 {
		c := string([]byte{byte(o)})
		want := c
		switch c {
		case "0":
			want = "1"
		case "1":
			want = "0"
		}
		if got := bits.Flip("1"+c+"0", 1); got != "1"+want+"0" {
			t.Errorf("Flip at %q = %q", c, got)
		}
	}
}

// fieldByDigits tells a field by reading the octet's digits, as far as there are such.
func fieldByDigits(octet byte, low, count int) int {
	if low < 0 || low > 7 || count < 1 {
		return 0
	}
	digits := fmt.Sprintf("%08b", octet)
	digits = digits[:8-low]
	if count < len(digits) {
		digits = digits[len(digits)-count:]
	}
	n, err := strconv.ParseUint(digits, 2, 8)
	if err != nil {
		panic(err)
	}
	return int(n)
}

// P1.3: Field, of each octet, with low and count at and beyond their bounds.
func TestField(t *testing.T) {
	ends := []int{math.MinInt, math.MinInt + 1, math.MinInt32, -64, -8, -1, 0, 1, 2, 3, 4, 5, 6, 7, 8, 9, 16, 63, 64, 65, 256, math.MaxInt32, math.MaxInt - 7, math.MaxInt - 1, math.MaxInt}
	for o := range 256 {
		for _, low := range ends {
			for _, count := range ends {
				want := fieldByDigits(byte(o), low, count)
				if got := bits.Field(byte(o), low, count); got != want {
					t.Fatalf("Field(%02x, %d, %d) = %d, want %d", o, low, count, got, want)
				}
			}
		}
	}
}

// P1.3: fields of which the numbers are written out.
func TestFieldByHand(t *testing.T) {
	for _, x := range []struct {
		octet            byte
		low, count, want int
	}{
		{0xfd, 0, 1, 1},
		{0xfd, 1, 1, 0},
		{0xfd, 2, 6, 63},
		{0x81, 1, 7, 64},
		{0xab, 0, 8, 0xab},
		{0xab, 0, 9, 0xab},
		{0xab, 4, 4, 0xa},
		{0xab, 4, 5, 0xa},
		{0xab, 7, 1, 1},
		{0x80, 7, math.MaxInt, 1},
		{0xff, 1, math.MaxInt, 0x7f},
		{0xff, 8, 1, 0},
		{0xff, -1, 8, 0},
		{0xff, 0, 0, 0},
		{0xff, 0, -1, 0},
		{0xff, math.MinInt, math.MaxInt, 0},
		{0xff, math.MaxInt, math.MinInt, 0},
		{0xff, math.MaxInt, math.MaxInt, 0},
	} {
		if got := bits.Field(x.octet, x.low, x.count); got != x.want {
			t.Errorf("Field(%02x, %d, %d) = %d, want %d", x.octet, x.low, x.count, got, x.want)
		}
	}
}

type fields = [][2]int

// P1.4: Pack, the first field lowest, with nothing above all.
func TestPack(t *testing.T) {
	for _, x := range []struct {
		l    fields
		want byte
	}{
		{nil, 0},
		{fields{}, 0},
		{fields{{1, 0}}, 0},
		{fields{{1, 1}}, 1},
		{fields{{8, 0}}, 0},
		{fields{{8, 255}}, 255},
		{fields{{1, 1}, {7, 64}}, 0x81},
		{fields{{1, 1}, {1, 0}, {6, 63}}, 0xfd},
		{fields{{1, 0}, {1, 1}, {6, 63}}, 0xfe},
		{fields{{6, 63}, {1, 0}, {1, 1}}, 0xbf},
		{fields{{3, 5}, {2, 1}}, 0x0d},
		{fields{{7, 127}}, 0x7f},
		{fields{{4, 0xb}, {4, 0xa}}, 0xab},
		{fields{{1, 1}, {1, 1}, {1, 0}, {1, 1}, {1, 0}, {1, 1}, {1, 0}, {1, 1}}, 0xab},
	} {
		if got, e := bits.Pack(x.l...); got != x.want || e != api.OK {
			t.Errorf("Pack(%v) = %02x, %d, want %02x, OK", x.l, got, e, x.want)
		}
	}
}

// P1.4: Pack's errors, and their order: a bad field is told ahead of widths that are too many, wherever it stands.
func TestPackErrors(t *testing.T) {
	for _, x := range []struct {
		l    fields
		want api.Errno
	}{
		{fields{{0, 0}}, api.ErrArg},
		{fields{{-1, 0}}, api.ErrArg},
		{fields{{9, 0}}, api.ErrArg},
		{fields{{9, 511}}, api.ErrArg},
		{fields{{64, 0}}, api.ErrArg},
		{fields{{math.MinInt, 0}}, api.ErrArg},
		{fields{{math.MaxInt, 0}}, api.ErrArg},
		{fields{{math.MaxInt, math.MaxInt}}, api.ErrArg},
		{fields{{math.MinInt, math.MinInt}}, api.ErrArg},
		{fields{{4, math.MinInt}}, api.ErrArg},
		{fields{{8, math.MaxInt}}, api.ErrArg},
		{fields{{1, 1}, {0, 0}}, api.ErrArg},
		{fields{{1, 1}, {3, 8}}, api.ErrArg},
		{fields{{3, 8}, {1, 1}}, api.ErrArg},
		{fields{{8, 0}, {1, 0}}, api.ErrLong},
		{fields{{1, 0}, {8, 0}}, api.ErrLong},
		{fields{{4, 15}, {5, 31}}, api.ErrLong},
		{fields{{8, 255}, {8, 255}}, api.ErrLong},
		{fields{{3, 0}, {3, 0}, {3, 0}}, api.ErrLong},
		{fields{{1, 1}, {1, 1}, {1, 1}, {1, 1}, {1, 1}, {1, 1}, {1, 1}, {1, 1}, {1, 1}}, api.ErrLong},
		{fields{{8, 0}, {1, 2}}, api.ErrArg},
		{fields{{8, 0}, {1, 0}, {0, 0}}, api.ErrArg},
		{fields{{8, 0}, {8, 0}, {8, 0}, {2, -1}}, api.ErrArg},
		{fields{{8, 256}, {8, 0}}, api.ErrArg},
		{fields{{8, 0}, {math.MaxInt, 0}}, api.ErrArg},
	} {
		if got, e := bits.Pack(x.l...); got != 0 || e != x.want {
			t.Errorf("Pack(%v) = %02x, %d, want 0, %d", x.l, got, e, x.want)
		}
	}
	if got, e := bits.Pack(slices.Repeat(fields{{8, 1}}, 1<<16)...); got != 0 || e != api.ErrLong {
		t.Errorf("Pack of many fields = %02x, %d", got, e)
	}
}

// P1.4: numbers just within and just beyond each width.
func TestPackEdgesOfWidths(t *testing.T) {
	for width := 1; width <= 8; width++ {
		beyond := int(math.Pow(2, float64(width)))
		for n := range beyond {
			if got, e := bits.Pack([2]int{width, n}); int(got) != n || e != api.OK {
				t.Errorf("Pack({%d, %d}) = %02x, %d", width, n, got, e)
			}
		}
		for _, n := range []int{-1, beyond, beyond + 1, math.MinInt, math.MaxInt} {
			if got, e := bits.Pack([2]int{width, n}); got != 0 || e != api.ErrArg {
				t.Errorf("Pack({%d, %d}) = %02x, %d, want 0, ErrArg", width, n, got, e)
			}
		}
	}
}

// P1.3, P1.4: what was packed is found again, field by field, however an octet is cut into two or three.
func TestPackAndField(t *testing.T) {
	for o := range 256 {
		for first := 1; first <= 7; first++ {
			for second := 1; second <= 8-first; second++ {
				l := fields{{first, bits.Field(byte(o), 0, first)}, {second, bits.Field(byte(o), first, second)}}
				if third := 8 - first - second; third > 0 {
					l = append(l, [2]int{third, bits.Field(byte(o), first+second, third)})
				}
				if got, e := bits.Pack(l...); int(got) != o || e != api.OK {
					t.Fatalf("Pack(%v) = %02x, %d, want %02x", l, got, e, o)
				}
			}
		}
	}
}

// Rule 4: lists that are handed in aren't changed, and what lies behind their length is neither read nor written.
func TestListsAreLeft(t *testing.T) {
	at := []int{1, 0, 2, 2}
	if got := bits.Flip("000", at[:2]...); got != "110" || !slices.Equal(at, []int{1, 0, 2, 2}) {
		t.Errorf("Flip: %q, %v", got, at)
	}
	l := fields{{1, 1}, {2, 2}, {8, 255}, {0, -1}}
	if got, e := bits.Pack(l[:2]...); got != 5 || e != api.OK || !slices.Equal(l, fields{{1, 1}, {2, 2}, {8, 255}, {0, -1}}) {
		t.Errorf("Pack: %02x, %d, %v", got, e, l)
	}
}

// P1 and rule 7: long texts are no other than short ones, and the same call answers the same.
func TestLongTexts(t *testing.T) {
	s := strings.Repeat(allOctets(), 1<<10)
	b := bits.Of(s)
	if len(b) != 8*len(s) || !bits.Good(b) || b != bits.Of(s) {
		t.Fatalf("Of: %d bits", len(b))
	}
	if u, e := bits.Octets(b); u != s || e != api.OK {
		t.Errorf("Octets: %d octets, %d", len(u), e)
	}
	if u, e := bits.Octets(b + "x"); u != "" || e != api.ErrForm {
		t.Errorf("Octets: %d octets, %d, want ErrForm", len(u), e)
	}
	last := len(b) - 1
	if f := bits.Flip(b, last, last+1); f[:last] != b[:last] || f[last] == b[last] || bits.Flip(f, last) != b {
		t.Error("Flip of the last bit")
	}
}
