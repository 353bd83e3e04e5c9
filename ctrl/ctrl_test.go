package ctrl_test

import (
	"math"
	"strings"
	"testing"

	"lapwing/api"
	"lapwing/ctrl"
)

// kinds is the chapter's table: of each kind its number, its name, its first octet without numbers and P/F, and which numbers it has.
var kinds = []struct {
	kind   ctrl.Kind
	number int
	name   string
	first  int
	ns, nr bool
}{
	{ctrl.I, 0, "I", 0x00, true, true},
	{ctrl.RR, 1, "RR", 0x01, false, true},
	{ctrl.RNR, 2, "RNR", 0x05, false, true},
	{ctrl.REJ, 3, "REJ", 0x09, false, true},
	{ctrl.SABME, 4, "SABME", 0x6f, false, false},
	{ctrl.DM, 5, "DM", 0x0f, false, false},
	{ctrl.UI, 6, "UI", 0x03, false, false},
	{ctrl.DISC, 7, "DISC", 0x43, false, false},
	{ctrl.UA, 8, "UA", 0x63, false, false},
	{ctrl.FRMR, 9, "FRMR", 0x87, false, false},
}

// noKinds are next to the kinds, at places where a number cut to fewer bits would look like one, and far out.
var noKinds = []ctrl.Kind{
	math.MinInt, math.MinInt + 1, math.MinInt + 4, math.MinInt32, -1 << 32, -1<<32 + 4, -1 << 16, -256, -255, -10, -9, -4, -3, -2, -1,
	ctrl.Kinds, ctrl.Kinds + 1, 12, 15, 16, 17, 63, 64, 127, 128, 255, 256, 257, 260, 265, 1 << 16, 1<<16 + 4, 1 << 32, 1<<32 + 1, 1<<32 + 9,
	math.MaxInt32, math.MaxInt - 1, math.MaxInt,
}

// beyond are numbers that are neither N(S) nor N(R), chosen likewise.
var beyond = []int{
	math.MinInt, math.MinInt + 1, math.MinInt + 3, math.MinInt + 127, math.MinInt + 128, math.MinInt32, -1 << 32, -1 << 16, -257, -256, -255,
	-129, -128, -127, -126, -64, -2, -1,
	128, 129, 130, 191, 192, 254, 255, 256, 257, 383, 384, 999, 1 << 16, 1<<16 + 5, 1 << 32, 1<<32 + 5, 1<<32 + 127, 1 << 62,
	math.MaxInt32, math.MaxInt - 127, math.MaxInt - 1, math.MaxInt,
}

// within are numbers at the bounds and between.
var within = []int{0, 1, 2, 3, 63, 64, 65, 126, 127}

// each goes through all control fields that there are, with their octets, told by sums as the chapter tells them.
func each(do func(c ctrl.Control, octets string)) {
	for _, k := range kinds {
		for _, pf := range []bool{false, true} {
			for ns := range count(k.ns) {
				for nr := range count(k.nr) {
					do(ctrl.Control{Kind: k.kind, PF: pf, NS: ns, NR: nr}, octets(k.first, k.nr, pf, ns, nr))
				}
			}
		}
	}
}

func count(has bool) int {
	if has {
		return 128
	}
	return 1
}

func octets(first int, numbered, pf bool, ns, nr int) string {
	one, sixteen := 0, 0
	if pf {
		one, sixteen = 1, 0x10
	}
	if numbered {
		return string([]byte{byte(first + 2*ns), byte(2*nr + one)})
	}
	return string([]byte{byte(first + sixteen)})
}

// P5.1: the kinds' numbers, what Numbered tells of each, and its name.
func TestKinds(t *testing.T) {
	for _, k := range kinds {
		if int(k.kind) != k.number {
			t.Errorf("%s is %d, want %d", k.name, int(k.kind), k.number)
		}
		if got, want := k.kind.Numbered(), k.number <= 3; got != want {
			t.Errorf("%s.Numbered() = %t", k.name, got)
		}
		if got := k.kind.Name(); got != k.name {
			t.Errorf("Kind(%d).Name() = %q, want %q", k.number, got, k.name)
		}
	}
	if int(ctrl.Kinds) != len(kinds) {
		t.Errorf("Kinds is %d, want %d", int(ctrl.Kinds), len(kinds))
	}
}

// P5.1: what is no kind has no name, and isn't numbered.
func TestNoKinds(t *testing.T) {
	for _, k := range noKinds {
		if k.Numbered() || k.Name() != "" {
			t.Errorf("Kind(%d): %t, %q, want false, none", int(k), k.Numbered(), k.Name())
		}
	}
	for n := range 1 << 12 {
		below, above := ctrl.Kind(-1-n), ctrl.Kinds+ctrl.Kind(n)
		if below.Numbered() || below.Name() != "" || above.Numbered() || above.Name() != "" {
			t.Errorf("Kind(%d), Kind(%d): %q, %q, want none", int(below), int(above), below.Name(), above.Name())
		}
	}
}

// P5.2, P5.3: Put and Get, written out: each kind, with P/F set and not set.
func TestWrittenOut(t *testing.T) {
	for _, x := range []struct {
		c      ctrl.Control
		octets string
	}{
		{ctrl.Control{Kind: ctrl.I, NS: 3, NR: 2, PF: true}, "\x06\x05"}, // the chapter's example
		{ctrl.Control{Kind: ctrl.I}, "\x00\x00"},
		{ctrl.Control{Kind: ctrl.I, PF: true}, "\x00\x01"},
		{ctrl.Control{Kind: ctrl.I, NS: 1}, "\x02\x00"},
		{ctrl.Control{Kind: ctrl.I, NR: 1}, "\x00\x02"},
		{ctrl.Control{Kind: ctrl.I, NS: 64, NR: 63}, "\x80\x7e"},
		{ctrl.Control{Kind: ctrl.I, NS: 127}, "\xfe\x00"},
		{ctrl.Control{Kind: ctrl.I, NR: 127}, "\x00\xfe"},
		{ctrl.Control{Kind: ctrl.I, NS: 127, NR: 127}, "\xfe\xfe"},
		{ctrl.Control{Kind: ctrl.I, NS: 127, NR: 127, PF: true}, "\xfe\xff"},
		{ctrl.Control{Kind: ctrl.RR}, "\x01\x00"},
		{ctrl.Control{Kind: ctrl.RR, NR: 1, PF: true}, "\x01\x03"},
		{ctrl.Control{Kind: ctrl.RR, NR: 127}, "\x01\xfe"},
		{ctrl.Control{Kind: ctrl.RNR}, "\x05\x00"},
		{ctrl.Control{Kind: ctrl.RNR, NR: 64, PF: true}, "\x05\x81"},
		{ctrl.Control{Kind: ctrl.RNR, NR: 127, PF: true}, "\x05\xff"},
		{ctrl.Control{Kind: ctrl.REJ}, "\x09\x00"},
		{ctrl.Control{Kind: ctrl.REJ, PF: true}, "\x09\x01"},
		{ctrl.Control{Kind: ctrl.REJ, NR: 127, PF: true}, "\x09\xff"},
		{ctrl.Control{Kind: ctrl.SABME}, "\x6f"},
		{ctrl.Control{Kind: ctrl.SABME, PF: true}, "\x7f"},
		{ctrl.Control{Kind: ctrl.DM}, "\x0f"},
		{ctrl.Control{Kind: ctrl.DM, PF: true}, "\x1f"},
		{ctrl.Control{Kind: ctrl.UI}, "\x03"},
		{ctrl.Control{Kind: ctrl.UI, PF: true}, "\x13"},
		{ctrl.Control{Kind: ctrl.DISC}, "\x43"},
		{ctrl.Control{Kind: ctrl.DISC, PF: true}, "\x53"},
		{ctrl.Control{Kind: ctrl.UA}, "\x63"},
		{ctrl.Control{Kind: ctrl.UA, PF: true}, "\x73"},
		{ctrl.Control{Kind: ctrl.FRMR}, "\x87"},
		{ctrl.Control{Kind: ctrl.FRMR, PF: true}, "\x97"},
	} {
		holdPut(t, x.c, x.octets)
		holdGet(t, x.octets, x.c, len(x.octets))
	}
}

// P5.2, P5.3: Put and Get, of all control fields.
func TestEachControl(t *testing.T) {
	met := map[string]ctrl.Control{}
	each(func(c ctrl.Control, octets string) {
		if other, there := met[octets]; there {
			t.Fatalf("%v and %v have the octets %x", c, other, octets)
		}
		met[octets] = c
		holdPut(t, c, octets)
		holdGet(t, octets, c, len(octets))
	})
	if want := 2 * (128*128 + 3*128 + 6); len(met) != want {
		t.Errorf("%d control fields, want %d", len(met), want)
	}
}

func holdPut(t *testing.T, c ctrl.Control, want string) {
	t.Helper()
	if got, e := ctrl.Put(c); got != want || e != api.OK {
		t.Errorf("Put(%v) = %x, %d, want %x, OK", c, got, e, want)
	}
}

func holdGet(t *testing.T, s string, want ctrl.Control, octets int) {
	t.Helper()
	if got, n, e := ctrl.Get(s); got != want || n != octets || e != api.OK {
		t.Errorf("Get(%.20x) of %d octets = %v, %d, %d, want %v, %d, OK", s, len(s), got, n, e, want, octets)
	}
}

// P5.2: a number out of its bounds is refused, if its kind has it; else it counts for nothing.
func TestPutOfNumbersBeyond(t *testing.T) {
	for _, k := range kinds {
		for _, pf := range []bool{false, true} {
			for _, number := range beyond {
				for _, other := range within {
					holdNumbers(t, ctrl.Control{Kind: k.kind, PF: pf, NS: number, NR: other}, k.ns, octets(k.first, k.nr, pf, 0, other))
					holdNumbers(t, ctrl.Control{Kind: k.kind, PF: pf, NS: other, NR: number}, k.nr, octets(k.first, k.nr, pf, 0, 0))
				}
				for _, other := range beyond {
					holdNumbers(t, ctrl.Control{Kind: k.kind, PF: pf, NS: other, NR: number}, k.nr, octets(k.first, k.nr, pf, 0, 0))
				}
			}
		}
	}
}

func holdNumbers(t *testing.T, c ctrl.Control, refused bool, octets string) {
	t.Helper()
	if refused {
		holdPutRefuses(t, c, api.ErrArg)
	} else {
		holdPut(t, c, octets)
	}
}

func holdPutRefuses(t *testing.T, c ctrl.Control, want api.Errno) {
	t.Helper()
	if got, e := ctrl.Put(c); got != "" || e != want {
		t.Errorf("Put(%v) = %x, %d, want none, %d", c, got, e, want)
	}
}

// P5.2: a number within its bounds that its kind doesn't have counts for nothing either.
func TestPutOfNumbersThatAKindHasNot(t *testing.T) {
	for _, k := range kinds {
		if k.ns {
			continue
		}
		for _, pf := range []bool{false, true} {
			for ns := range 128 {
				for _, nr := range within {
					holdPut(t, ctrl.Control{Kind: k.kind, PF: pf, NS: ns, NR: nr}, octets(k.first, k.nr, pf, 0, nr))
				}
			}
		}
	}
}

// P5.2: what is no kind is refused, whatever else there is, and ahead of numbers that would be refused too.
func TestPutOfNoKind(t *testing.T) {
	for _, k := range noKinds {
		for _, pf := range []bool{false, true} {
			for _, number := range append([]int{0, 1, 127}, beyond...) {
				holdPutRefuses(t, ctrl.Control{Kind: k, PF: pf}, api.ErrForm)
				holdPutRefuses(t, ctrl.Control{Kind: k, PF: pf, NS: number}, api.ErrForm)
				holdPutRefuses(t, ctrl.Control{Kind: k, PF: pf, NR: number}, api.ErrForm)
				holdPutRefuses(t, ctrl.Control{Kind: k, PF: pf, NS: number, NR: number}, api.ErrForm)
			}
		}
	}
}

// begins is the kind whose control fields begin with an octet, by the octet.
func begins() map[byte]ctrl.Kind {
	first := map[byte]ctrl.Kind{}
	each(func(c ctrl.Control, octets string) { first[octets[0]] = c.Kind })
	return first
}

// P5.3: Get of no octet, and of each octet alone: one that begins no control field is told ahead of the second one that isn't there.
func TestGetOfOneOctet(t *testing.T) {
	holdGetRefuses(t, "", api.ErrShort)
	first := begins()
	if want := 128 + 3 + 12; len(first) != want {
		t.Fatalf("%d octets begin a control field, want %d", len(first), want)
	}
	for o := range 256 {
		s := string([]byte{byte(o)})
		k, there := first[byte(o)]
		switch {
		case !there:
			holdGetRefuses(t, s, api.ErrForm)
		case k <= ctrl.REJ:
			holdGetRefuses(t, s, api.ErrShort)
		default:
			holdGet(t, s, ctrl.Control{Kind: k, PF: o&0x10 != 0}, 1)
		}
	}
}

func holdGetRefuses(t *testing.T, s string, want api.Errno) {
	t.Helper()
	if got, n, e := ctrl.Get(s); got != (ctrl.Control{}) || n != 0 || e != want {
		t.Errorf("Get(%.20x) of %d octets = %v, %d, %d, want none, 0, %d", s, len(s), got, n, e, want)
	}
}

// P5.3: Get of octets that look like those of a kind, but for one bit or some.
func TestGetOfWrongOctets(t *testing.T) {
	for _, o := range []string{
		"\x0d", "\x11", "\x15", "\x19", "\x21", "\x41", "\x81", "\x85", "\x89", "\xf1", "\x1d", // of RR, RNR, REJ, with bits that must be 0
		"\x07", "\x0b", "\x17", "\x23", "\x2f", "\x4f", "\x67", "\x83", "\x8f", "\xaf", "\xbf", "\xc3", "\xe3", "\xef", "\xff", // of no kind here, SABM and XID among them
	} {
		for _, rest := range []string{"", "\x00", "\x01", "\x03", "\xff", "\x00\x00", "\x6f\x6f"} {
			holdGetRefuses(t, o+rest, api.ErrForm)
		}
	}
}

// P5.3: Get of each pair of octets, with more behind and without: it is told how many of them are the control field's.
func TestGetOfEachPair(t *testing.T) {
	good := map[string]ctrl.Control{}
	each(func(c ctrl.Control, octets string) { good[octets] = c })
	for n := range 1 << 16 {
		s := string([]byte{byte(n / 256), byte(n % 256)})
		for _, rest := range []string{"", "\x00", "\xff\x6f"} {
			one, isOne := good[s[:1]]
			two, isTwo := good[s]
			switch {
			case isOne && isTwo:
				t.Fatalf("%x: a control field of one octet, and of two", s)
			case isOne:
				holdGet(t, s+rest, one, 1)
			case isTwo:
				holdGet(t, s+rest, two, 2)
			default:
				holdGetRefuses(t, s+rest, api.ErrForm)
			}
		}
	}
}

// P5.3: what stands behind a control field counts for nothing, however much it is.
func TestGetWithMuchBehind(t *testing.T) {
	for _, rest := range []string{"z", "\x06\x05", strings.Repeat("\x00", 260), strings.Repeat("\xff", 1<<20)} {
		holdGet(t, "\x06\x05"+rest, ctrl.Control{Kind: ctrl.I, NS: 3, NR: 2, PF: true}, 2)
		holdGet(t, "\x01\xfe"+rest, ctrl.Control{Kind: ctrl.RR, NR: 127}, 2)
		holdGet(t, "\x7f"+rest, ctrl.Control{Kind: ctrl.SABME, PF: true}, 1)
		holdGet(t, "\x03"+rest, ctrl.Control{Kind: ctrl.UI}, 1)
		holdGetRefuses(t, "\x0d"+rest, api.ErrForm)
	}
}
