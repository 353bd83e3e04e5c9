package addr_test

import (
	"fmt"
	"math"
	"strconv"
	"strings"
	"testing"

	"lapwing/addr"
	"lapwing/api"
)

// beyond are numbers that are neither a SAPI nor a TEI: next to the bounds, at places where a number cut to fewer bits would look like a good one, and far out.
var beyond = []int{
	math.MinInt, math.MinInt + 1, math.MinInt + 63, math.MinInt + 64, math.MinInt + 127, math.MinInt32, -1 << 16, -257, -256, -255,
	-193, -192, -129, -128, -127, -126, -65, -64, -63, -2, -1,
	128, 129, 191, 192, 193, 255, 256, 257, 319, 320, 382, 383, 384, 1 << 16, 1<<16 + 64, 1 << 32, 1<<32 + 64, 1<<32 + 127,
	math.MaxInt32, math.MaxInt - 64, math.MaxInt - 1, math.MaxInt,
}

func address(sapi, tei int, cr bool) addr.Address {
	return addr.Address{Link: addr.Link{SAPI: sapi, TEI: tei}, CR: cr}
}

// each goes through all addresses that there are.
func each(do func(addr.Address)) {
	for sapi := range 64 {
		for tei := range 128 {
			do(address(sapi, tei, false))
			do(address(sapi, tei, true))
		}
	}
}

// octets tells an address's octets by digits, the highest first, instead of by shifts, so that it doesn't share a fault with what it is held against.
func octets(a addr.Address) string {
	cr := "0"
	if a.CR {
		cr = "1"
	}
	return octet(fmt.Sprintf("%06b", a.Link.SAPI)+cr+"0") + octet(fmt.Sprintf("%07b", a.Link.TEI)+"1")
}

func octet(digits string) string {
	n, err := strconv.ParseUint(digits, 2, 8)
	if err != nil {
		panic(err)
	}
	return string([]byte{byte(n)})
}

// P4.1: the kinds are apart, and None is the zero value.
func TestKindsByNumber(t *testing.T) {
	for want, k := range []addr.Kind{addr.None, addr.Fixed, addr.Automatic, addr.Group} {
		if int(k) != want {
			t.Errorf("kind %d, want %d", k, want)
		}
	}
}

// P4.1: KindOf on both sides of each bound.
func TestKindOf(t *testing.T) {
	for _, x := range []struct {
		tei  int
		want addr.Kind
	}{
		{-2, addr.None}, {-1, addr.None},
		{0, addr.Fixed}, {1, addr.Fixed}, {62, addr.Fixed}, {63, addr.Fixed},
		{64, addr.Automatic}, {65, addr.Automatic}, {100, addr.Automatic}, {125, addr.Automatic}, {126, addr.Automatic},
		{127, addr.Group},
		{128, addr.None}, {129, addr.None},
	} {
		if got := addr.KindOf(x.tei); got != x.want {
			t.Errorf("KindOf(%d) = %d, want %d", x.tei, got, x.want)
		}
	}
}

// P4.1: every TEI has a kind, as many of each as the document says, and nothing else has one.
func TestKindOfEach(t *testing.T) {
	count := map[addr.Kind]int{}
	for tei := range 128 {
		count[addr.KindOf(tei)]++
	}
	if count[addr.None] != 0 || count[addr.Fixed] != 64 || count[addr.Automatic] != 63 || count[addr.Group] != 1 {
		t.Errorf("how many of each kind: %v", count)
	}
	for _, n := range beyond {
		if got := addr.KindOf(n); got != addr.None {
			t.Errorf("KindOf(%d) = %d, want None", n, got)
		}
	}
	for n := 128; n < 1<<12; n++ {
		if addr.KindOf(n) != addr.None || addr.KindOf(127-n) != addr.None {
			t.Errorf("KindOf(%d), KindOf(%d): %d, %d, want None", n, 127-n, addr.KindOf(n), addr.KindOf(127-n))
		}
	}
}

// P4.2: Put and Get, written out.
func TestWrittenOut(t *testing.T) {
	for _, x := range []struct {
		a      addr.Address
		octets string
	}{
		{address(0, 0, false), "\x00\x01"},
		{address(0, 0, true), "\x02\x01"},
		{address(0, 64, false), "\x00\x81"},
		{address(0, 64, true), "\x02\x81"}, // the chapter's example
		{address(0, 63, false), "\x00\x7f"},
		{address(0, 126, true), "\x02\xfd"},
		{address(0, 127, false), "\x00\xff"},
		{address(0, 1, false), "\x00\x03"},
		{address(1, 0, false), "\x04\x01"},
		{address(16, 65, true), "\x42\x83"},
		{address(32, 64, false), "\x80\x81"},
		{address(62, 2, false), "\xf8\x05"},
		{address(63, 0, true), "\xfe\x01"},
		{address(63, 127, false), "\xfc\xff"},
		{address(63, 127, true), "\xfe\xff"},
	} {
		holdBoth(t, x.a, x.octets)
	}
}

// P4.2: Put and Get, of all addresses.
func TestEachAddress(t *testing.T) {
	each(func(a addr.Address) { holdBoth(t, a, octets(a)) })
}

func holdBoth(t *testing.T, a addr.Address, octets string) {
	t.Helper()
	if got, e := addr.Put(a); got != octets || e != api.OK {
		t.Errorf("Put(%v) = %x, %d, want %x, OK", a, got, e, octets)
	}
	if got, e := addr.Get(octets); got != a || e != api.OK {
		t.Errorf("Get(%x) = %v, %d, want %v, OK", octets, got, e, a)
	}
}

// P4.2: Put refuses what isn't a SAPI or a TEI, one of them or both.
func TestPutRefuses(t *testing.T) {
	sapis := append([]int{64, 65, 126, 127}, beyond...)
	for _, cr := range []bool{false, true} {
		for _, sapi := range sapis {
			for _, tei := range []int{0, 63, 64, 126, 127} {
				holdPutRefuses(t, address(sapi, tei, cr))
			}
			for _, tei := range beyond {
				holdPutRefuses(t, address(sapi, tei, cr))
			}
		}
		for _, tei := range beyond {
			for _, sapi := range []int{0, 1, 32, 62, 63} {
				holdPutRefuses(t, address(sapi, tei, cr))
			}
		}
	}
}

func holdPutRefuses(t *testing.T, a addr.Address) {
	t.Helper()
	if got, e := addr.Put(a); got != "" || e != api.ErrArg {
		t.Errorf("Put(%v) = %x, %d, want none, ErrArg", a, got, e)
	}
}

// P4.2: Get of no octet and of one, whatever it is: too few are told ahead of a wrong bit.
func TestGetTooShort(t *testing.T) {
	holdGetRefuses(t, "", api.ErrShort)
	for o := range 256 {
		holdGetRefuses(t, string([]byte{byte(o)}), api.ErrShort)
	}
}

// P4.2: Get of each pair of octets: the two lowest bits say whether it is an address.
func TestGetOfEachPair(t *testing.T) {
	good := map[string]addr.Address{}
	each(func(a addr.Address) { good[octets(a)] = a })
	for n := range 1 << 16 {
		s := string([]byte{byte(n / 256), byte(n % 256)})
		isAddress := s[0]%2 == 0 && s[1]%2 == 1
		if a, there := good[s]; there != isAddress {
			t.Fatalf("%x: is it an address? %t", s, there)
		} else if there {
			holdBoth(t, a, s)
		} else {
			holdGetRefuses(t, s, api.ErrForm)
		}
	}
}

func holdGetRefuses(t *testing.T, s string, want api.Errno) {
	t.Helper()
	if got, e := addr.Get(s); got != (addr.Address{}) || e != want {
		t.Errorf("Get(%.20x) of %d octets = %v, %d, want none, %d", s, len(s), got, e, want)
	}
}

// P4.2: what stands behind the first two octets counts for nothing, neither to mend them nor to spoil them.
func TestGetWithMoreBehind(t *testing.T) {
	for _, rest := range []string{"\x00", "\x01", "\xff", "\x02\x81", "\x01\x00", "rest", strings.Repeat("\xff", 300), strings.Repeat("\x00", 1<<20)} {
		for _, a := range []addr.Address{address(0, 64, true), address(0, 0, false), address(63, 127, false), address(21, 85, true)} {
			if got, e := addr.Get(octets(a) + rest); got != a || e != api.OK {
				t.Errorf("Get(%x) with %d octets behind = %v, %d, want %v, OK", octets(a), len(rest), got, e, a)
			}
		}
		for _, s := range []string{"\x01\x81", "\x00\x80", "\x01\x80", "\xff\xff", "\x00\x00", "\x03\x00"} {
			holdGetRefuses(t, s+rest, api.ErrForm)
		}
	}
}

// P4.3: Make and Command, commands and responses of both sides.
func TestMakeAndCommand(t *testing.T) {
	link := addr.Link{SAPI: 0, TEI: 64}
	for _, x := range []struct{ command, network, cr bool }{
		{true, true, true},
		{false, true, false},
		{true, false, false},
		{false, false, true},
	} {
		a := addr.Make(link, x.command, x.network)
		if want := (addr.Address{Link: link, CR: x.cr}); a != want {
			t.Errorf("Make(%v, %t, %t) = %v, want %v", link, x.command, x.network, a, want)
		}
		sent := addr.Address{Link: link, CR: x.cr}
		if got := sent.Command(x.network); got != x.command {
			t.Errorf("%v.Command(%t) = %t", sent, x.network, got)
		}
	}
}

// P4.3: what was made is told again, whatever the link; to the other side the same address says the contrary.
func TestMakeAndCommandOfAnyLink(t *testing.T) {
	numbers := append([]int{0, 1, 62, 63, 64, 65, 126, 127}, beyond...)
	for _, sapi := range numbers {
		for _, tei := range numbers {
			link := addr.Link{SAPI: sapi, TEI: tei}
			for n := range 4 {
				command, network := n%2 == 1, n/2 == 1
				a := addr.Make(link, command, network)
				if a.Link != link || a.Command(network) != command || a.Command(!network) == command {
					t.Fatalf("Make(%v, %t, %t) = %v, a command of the network: %t", link, command, network, a, a.Command(true))
				}
			}
		}
	}
}

// P4.2 and P4.3: the chapter's example, from the link to the octets and back.
func TestExample(t *testing.T) {
	made := addr.Make(addr.Link{SAPI: api.Signal, TEI: api.FirstTEI}, true, true)
	s, e := addr.Put(made)
	if s != "\x02\x81" || e != api.OK {
		t.Fatalf("Put(%v) = %x, %d, want 0281, OK", made, s, e)
	}
	if got, e := addr.Get(s); got != made || e != api.OK || !got.Command(true) || got.Command(false) {
		t.Errorf("Get(%x) = %v, %d", s, got, e)
	}
}
