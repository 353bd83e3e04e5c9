package fcs_test

import (
	"fmt"
	"slices"
	"strings"
	"testing"

	"lapwing/api"
	"lapwing/fcs"
)

// wordsStep does what the chapter's words say of one octet with the digits of the register, the highest first, instead of with shifts.
func wordsStep(register uint16, octet byte) uint16 {
	digits := fmt.Sprintf("%016b", register)
	for _, bit := range lineBits(string([]byte{octet})) {
		lowest := rune(digits[15])
		digits = "0" + digits[:15]
		if lowest != bit {
			digits = unlikeDigits(digits, "1000010000001000")
		}
	}
	return number(digits)
}

func unlikeDigits(a, b string) string {
	out := []byte(a)
	for i := range out {
		out[i] = '0'
		if a[i] != b[i] {
			out[i] = '1'
		}
	}
	return string(out)
}

func number(digits string) uint16 {
	n := uint16(0)
	for _, d := range digits {
		n = n*2 + uint16(d-'0')
	}
	return n
}

// lineBits: the bits of octets as they go over the line, each octet's lowest first.
func lineBits(s string) string {
	var out strings.Builder
	for i := range len(s) {
		digits := fmt.Appendf(nil, "%08b", s[i])
		slices.Reverse(digits)
		out.Write(digits)
	}
	return out.String()
}

// division is the check sequence as Q.921 (2.7) has it, by long division of polynomials, with no register: its sixteen bits in the order in which they go over the line.
func division(s string) string {
	const generator = "10001000000100001" // x^16 + x^12 + x^5 + 1
	rest := []byte(lineBits(s) + strings.Repeat("0", 16))
	turn := func(i int) { rest[i] ^= 1 }
	for i := range 16 {
		turn(i)
	}
	for i := range len(rest) - 16 {
		if rest[i] == '0' {
			continue
		}
		for k, g := range generator {
			if g == '1' {
				turn(i + k)
			}
		}
	}
	rest = rest[len(rest)-16:]
	for i := range rest {
		turn(i)
	}
	return string(rest)
}

func allOctets() string {
	s := make([]byte, 256)
	for i := range s {
		s[i] = byte(i)
	}
	return string(s)
}

// texts are ordinary ones, empty, short and long, of octets that are no runes too.
func texts() []string {
	out := []string{
		"", "\x00", "\x01", "\x80", "\xff", "\x00\x00", "\xff\xff", "\x00\x00\x00", "123456789", "987654321",
		"\x00\x81\x7f", "\xfc\xff\x03\x0f\x14\x05\x01\xff", "\xc3\xa9", "\xc3", "\xa9\xc3", "\xf0\x9f\x90\xa6",
		allOctets(), strings.Repeat("\x00", 264), strings.Repeat("\xff", 264), strings.Repeat("lapwing", 1000),
	}
	for o := range 256 {
		out = append(out, string([]byte{byte(o)}), string([]byte{0x5a, byte(o)}), string([]byte{byte(o), 0x5a, 0xa5}))
	}
	return out
}

// P2.1: Step, what the words of the layer say, of every register.
func TestStepOfEveryRegister(t *testing.T) {
	for _, octet := range []byte{0x00, 0xff} {
		for register := range 1 << 16 {
			holdStep(t, uint16(register), octet)
		}
	}
}

// P2.1: Step, what the words of the layer say, of every octet.
func TestStepOfEveryOctet(t *testing.T) {
	for _, register := range []uint16{0x0000, 0x0001, 0x8000, 0xffff, 0x8408, 0x7bf7, 0x1234, 0xf0b8} {
		for octet := range 256 {
			holdStep(t, register, byte(octet))
		}
	}
}

func holdStep(t *testing.T, register uint16, octet byte) {
	t.Helper()
	if got, want := fcs.Step(register, octet), wordsStep(register, octet); got != want {
		t.Fatalf("Step(%04x, %02x) = %04x, want %04x", register, octet, got, want)
	}
}

// P2.1: Step, of every register with every octet: a step of an exclusive or is the exclusive or of the steps, so what holds of each alone holds of both.
func TestStepOfEveryRegisterAndOctet(t *testing.T) {
	var alone [256]uint16
	for octet := range alone {
		alone[octet] = wordsStep(0, byte(octet))
	}
	for register := range 1 << 16 {
		without := fcs.Step(uint16(register), 0)
		for octet, o := range alone {
			if got := fcs.Step(uint16(register), byte(octet)); got != without^o {
				t.Fatalf("Step(%04x, %02x) = %04x, want %04x", register, octet, got, without^o)
			}
		}
	}
}

// P2.1: Step at its edges, written out.
func TestStepWrittenOut(t *testing.T) {
	for _, x := range []struct {
		register uint16
		octet    byte
		want     uint16
	}{
		{0xffff, 0x00, 0x0f87},
		{0xffff, 0xff, 0x00ff}, // nothing is unlike: eight places down
		{0x0000, 0x00, 0x0000},
		{0x0000, 0x80, 0x8408}, // the last bit alone is unlike
		{0x8000, 0x00, 0x0080},
		{0x0100, 0x00, 0x0001},
		{0x0080, 0x00, 0x8408},
		{0x0080, 0x80, 0x0000},
	} {
		if got := fcs.Step(x.register, x.octet); got != x.want {
			t.Errorf("Step(%04x, %02x) = %04x, want %04x", x.register, x.octet, got, x.want)
		}
	}
}

// P2.1: Sum, written out.
func TestSumWrittenOut(t *testing.T) {
	for _, x := range []struct {
		s    string
		want uint16
	}{
		{"", 0x0000},
		{"123456789", 0x906e},
		{"\x00", 0xf078},
		{"\xff", 0xff00},
		{"\xff\xff", 0xffff},
	} {
		if got := fcs.Sum(x.s); got != x.want {
			t.Errorf("Sum(%x) = %04x, want %04x", x.s, got, x.want)
		}
	}
}

// P2.1: Sum, the register begun with ffff, behind all octets, turned.
func TestSumIsTheRegisterTurned(t *testing.T) {
	for _, s := range texts() {
		register := uint16(0xffff)
		for i := range len(s) {
			register = wordsStep(register, s[i])
		}
		if got, want := fcs.Sum(s), 0xffff-register; got != want {
			t.Errorf("Sum(%.20x..) of %d octets = %04x, want %04x", s, len(s), got, want)
		}
	}
}

// P2.1 and P2.2: what Seal puts behind is the check sequence of Q.921, bit by bit of the line, and Sum is the same as a number, its lower octet first.
func TestSealIsADivision(t *testing.T) {
	for _, s := range texts() {
		want := division(s)
		if got := lineBits(fcs.Seal(s)); got != lineBits(s)+want {
			t.Errorf("Seal(%.20x..) of %d octets ends with bits %s, want %s", s, len(s), got[max(0, len(got)-16):], want)
		}
		sum := fcs.Sum(s)
		if got := lineBits(string([]byte{byte(sum % 256), byte(sum / 256)})); got != want {
			t.Errorf("Sum(%.20x..) of %d octets has bits %s, want %s", s, len(s), got, want)
		}
	}
}

// P2.2: Seal, written out.
func TestSealWrittenOut(t *testing.T) {
	for s, want := range map[string]string{
		"":          "\x00\x00",
		"\x00":      "\x00\x78\xf0",
		"\xff":      "\xff\x00\xff",
		"123456789": "123456789\x6e\x90",
		"\x00\x00":  "\x00\x00\x47\x0f", // a right sequence already: sealed anew
	} {
		if got := fcs.Seal(s); got != want {
			t.Errorf("Seal(%x) = %x, want %x", s, got, want)
		}
	}
}

// sumOctets: the check sequence as two octets, its lower first.
func sumOctets(s string) string {
	sum := fcs.Sum(s)
	return string([]byte{byte(sum % 256), byte(sum / 256)})
}

// P2.2: Check takes what Seal made, and answers the octets ahead; also of what was sealed twice.
func TestCheckOfSealed(t *testing.T) {
	for _, s := range texts() {
		sealed := fcs.Seal(s)
		if got, e := fcs.Check(sealed); got != s || e != api.OK {
			t.Errorf("Check(Seal(%.20x..)) of %d octets = %.20x.., %d, want the octets, OK", s, len(s), got, e)
		}
		if got, e := fcs.Check(fcs.Seal(sealed)); got != sealed || e != api.OK {
			t.Errorf("Check of %.20x.. sealed twice = %.20x.., %d, want it sealed once, OK", s, got, e)
		}
	}
}

// P2.2: Check's errors and their order: fewer than two octets are too short, whatever they are; with an error the text is empty.
func TestCheckErrors(t *testing.T) {
	holdRefused(t, "", api.ErrShort)
	for octet := range 256 {
		holdRefused(t, string([]byte{byte(octet)}), api.ErrShort)
	}
	for _, s := range []string{
		"\x00\xf0\x78",      // the two octets the other way round
		"\x01\x78\xf0",      // another octet ahead
		"\x00\x87\x0f",      // the register, not turned
		"\x78\xf0",          // nothing ahead
		"\x78\xf0\x00",      // the sequence ahead
		"\x00\x00\x78\xf0",  // an octet more ahead
		"\x00\x78\xf0\x00",  // an octet more behind
		"\x00\x78",          // an octet less
		"123456789",         // never sealed
		"123456789\x90\x6e", // the other way round
		"123456789\x6e\x91", // the upper octet wrong
		"123456789\x6f\x90", // the lower octet wrong
		"\xff\xff",          // all ones, as on an idle line
		strings.Repeat("\x00", 300),
	} {
		holdRefused(t, s, api.ErrSum)
	}
}

func holdRefused(t *testing.T, s string, want api.Errno) {
	t.Helper()
	if got, e := fcs.Check(s); got != "" || e != want {
		t.Errorf("Check(%.20x) of %d octets = %.20x, %d, want nothing, %d", s, len(s), got, e, want)
	}
}

// P2.2: of all pairs of octets behind a text one is right.
func TestCheckOfEveryPair(t *testing.T) {
	for _, s := range []string{"", "\x00", "\xff", "123456789", "\xfc\xff\x03"} {
		right := sumOctets(s)
		for n := range 1 << 16 {
			pair := string([]byte{byte(n / 256), byte(n % 256)})
			got, e := fcs.Check(s + pair)
			if pair == right && (got != s || e != api.OK) {
				t.Fatalf("Check(%x) = %x, %d, want %x, OK", s+pair, got, e, s)
			}
			if pair != right && (got != "" || e != api.ErrSum) {
				t.Fatalf("Check(%x) = %x, %d, want nothing, ErrSum", s+pair, got, e)
			}
		}
	}
}

// P2.2: the two octets the other way round are wrong wherever they differ, and right where they don't.
func TestCheckOfTheOtherWayRound(t *testing.T) {
	for _, s := range texts() {
		pair := sumOctets(s)
		swapped := s + pair[1:] + pair[:1]
		if pair[0] != pair[1] {
			holdRefused(t, swapped, api.ErrSum)
		} else if got, e := fcs.Check(swapped); got != s || e != api.OK {
			t.Errorf("Check(%.20x..) = %.20x.., %d, want the octets, OK", swapped, got, e)
		}
	}
}

// P2.3: the register, begun with ffff, is f0b8 behind all that was sealed.
func TestRegisterBehindSealed(t *testing.T) {
	for _, s := range texts() {
		sealed, register := fcs.Seal(s), uint16(0xffff)
		for i := range len(sealed) {
			register = fcs.Step(register, sealed[i])
		}
		if register != 0xf0b8 {
			t.Errorf("the register behind Seal(%.20x..) of %d octets is %04x, want f0b8", s, len(s), register)
		}
	}
}

// turned: octets with the bits of a pattern turned, its lowest at a place of the line, the others behind it; what lies behind the last octet is left out.
func turned(s string, place int, pattern uint32) string {
	out := []byte(s)
	for k := range 32 {
		if at := place + k; pattern>>k&1 == 1 && at < 8*len(out) {
			out[at/8] ^= 1 << (at % 8)
		}
	}
	return string(out)
}

// P2.3: one bit turned, at each place of what was sealed: in the octets, and in the sequence.
func TestOneBitTurned(t *testing.T) {
	for _, s := range []string{"", "\x00", "\xff", "123456789", allOctets(), strings.Repeat("\xff", 264)} {
		sealed := fcs.Seal(s)
		for place := range 8 * len(sealed) {
			holdRefused(t, turned(sealed, place, 1), api.ErrSum)
		}
		for place := range 8 * len(s) {
			if other := turned(s, place, 1); fcs.Sum(other) == fcs.Sum(s) {
				t.Errorf("Sum of %.20x.. of %d octets is the same with bit %d turned", s, len(s), place)
			}
		}
	}
}

// P2.3: all ways to turn bits less than sixteen places apart, at each place of texts: the sequence is another.
func TestBitsTurnedNearOneAnother(t *testing.T) {
	for _, s := range []string{"\x00", "\xa5\x3c", "\x00\x81\x7f", "\xff\xff\xff\xff"} {
		sum := fcs.Sum(s)
		for place := range 8 * len(s) {
			for pattern := uint32(1); pattern < 1<<16; pattern += 2 {
				if fcs.Sum(turned(s, place, pattern)) == sum {
					t.Fatalf("Sum(%x) is the same with the bits %016b turned from place %d on", s, pattern, place)
				}
			}
		}
	}
}

// P2.3: the same of what was sealed, so that the bits lie in the sequence and across the seam too.
func TestBitsTurnedInSealed(t *testing.T) {
	for _, s := range []string{"", "\x00", "\xa5\x3c", "\xfc\xff\x03"} {
		sealed := fcs.Seal(s)
		for place := range 8 * len(sealed) {
			for pattern := uint32(1); pattern < 1<<16; pattern += 2 {
				if got, e := fcs.Check(turned(sealed, place, pattern)); got != "" || e != api.ErrSum {
					t.Fatalf("Check(%x) with the bits %016b turned from place %d on = %x, %d, want nothing, ErrSum", sealed, pattern, place, got, e)
				}
			}
		}
	}
}

// P2.3: sixteen places apart is too far: bits turned as the generator has them aren't seen.
func TestBitsTurnedTooFarApart(t *testing.T) {
	const generator = 1<<16 | 1<<11 | 1<<4 | 1 // in the order of the line: x^16, x^12, x^5, 1
	for _, s := range []string{"\x00\x00\x00", "123456789"} {
		for place := range 8*len(s) - 16 {
			other := turned(s, place, generator)
			if other == s || fcs.Sum(other) != fcs.Sum(s) {
				t.Errorf("Sum(%x) is %04x, Sum(%x) is %04x, want the same", s, fcs.Sum(s), other, fcs.Sum(other))
			}
		}
	}
}

// Rules 6 and 7: long texts, and the same answer each time.
func TestLongTexts(t *testing.T) {
	s := strings.Repeat(allOctets(), 1<<12)
	sealed := fcs.Seal(s)
	if len(sealed) != len(s)+2 || sealed[:len(s)] != s || sealed != fcs.Seal(s) {
		t.Errorf("Seal of %d octets: %d octets, or others each time", len(s), len(sealed))
	}
	if got, e := fcs.Check(sealed); got != s || e != api.OK {
		t.Errorf("Check of %d octets: %d octets, %d, want those sealed, OK", len(sealed), len(got), e)
	}
	holdRefused(t, turned(sealed, 8*len(s)-1, 1), api.ErrSum)
	holdRefused(t, turned(sealed, 8*len(s), 1), api.ErrSum)
}
