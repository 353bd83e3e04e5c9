package frame_test

import (
	"fmt"
	"math"
	"strings"
	"testing"

	"lapwing/addr"
	"lapwing/api"
	"lapwing/ctrl"
	"lapwing/fcs"
	"lapwing/frame"
)

// kinds are the words of the chapters, kind by kind: its first octet without numbers and P/F, which numbers it has, what it may be, and how much information it may have.
var kinds = []struct {
	kind              ctrl.Kind
	first             int
	ns, nr            bool
	command, response bool
	least, most       int
}{
	{ctrl.I, 0x00, true, true, true, false, 0, 260},
	{ctrl.RR, 0x01, false, true, true, true, 0, 0},
	{ctrl.RNR, 0x05, false, true, true, true, 0, 0},
	{ctrl.REJ, 0x09, false, true, true, true, 0, 0},
	{ctrl.SABME, 0x6f, false, false, true, false, 0, 0},
	{ctrl.DM, 0x0f, false, false, false, true, 0, 0},
	{ctrl.UI, 0x03, false, false, true, false, 0, 260},
	{ctrl.DISC, 0x43, false, false, true, false, 0, 0},
	{ctrl.UA, 0x63, false, false, false, true, 0, 0},
	{ctrl.FRMR, 0x87, false, false, false, true, 5, 5},
}

// noKinds are next to the kinds, at places where a number cut to fewer bits would look like one, and far out.
var noKinds = []ctrl.Kind{
	math.MinInt, math.MinInt + 1, math.MinInt + 6, math.MinInt32, -1 << 32, -1<<32 + 6, -1 << 16, -256, -250, -10, -9, -6, -2, -1,
	ctrl.Kinds, ctrl.Kinds + 1, 12, 15, 16, 63, 64, 127, 128, 255, 256, 262, 265, 1 << 16, 1<<16 + 6, 1 << 32, 1<<32 + 1, 1<<32 + 9,
	math.MaxInt32, math.MaxInt - 1, math.MaxInt,
}

// beyond are numbers that are no N(S), N(R), SAPI or TEI, chosen likewise.
var beyond = []int{
	math.MinInt, math.MinInt + 64, math.MinInt32, -1 << 32, -256, -255, -128, -127, -64, -2, -1,
	128, 129, 192, 255, 256, 257, 320, 999, 1 << 16, 1 << 32, 1<<32 + 64, math.MaxInt32, math.MaxInt - 1, math.MaxInt,
}

// lengths are numbers of octets of information at the bounds and between.
var lengths = []int{0, 1, 2, 4, 5, 6, 10, 128, 256, 259, 260, 261, 262, 264, 265, 512, 516, 520, 1000}

var bools = []bool{false, true}

var links = []addr.Link{
	{}, {SAPI: 0, TEI: 1}, {SAPI: 0, TEI: 63}, {SAPI: 0, TEI: 64}, {SAPI: 0, TEI: 126}, {SAPI: 0, TEI: 127},
	{SAPI: 1, TEI: 0}, {SAPI: 16, TEI: 85}, {SAPI: 62, TEI: 127}, {SAPI: 63, TEI: 0}, {SAPI: 63, TEI: 127},
}

// text: so many octets, all sorts of them.
func text(n int) string {
	s := make([]byte, n)
	for i := range s {
		s[i] = byte(i*7 + 0xf9)
	}
	return string(s)
}

func number(set bool, n int) int {
	if set {
		return n
	}
	return 0
}

// octets: those of a frame ahead of its check sequence, told by sums as the chapters tell them; of a kind that there is.
func octets(f frame.Frame, network bool) string {
	k := kinds[f.Kind]
	cr := number(f.Command == network, 2)
	out := []byte{byte(4*f.Link.SAPI + cr), byte(2*f.Link.TEI + 1)}
	if k.nr {
		out = append(out, byte(k.first+number(k.ns, 2*f.NS)), byte(2*f.NR+number(f.PF, 1)))
	} else {
		out = append(out, byte(k.first+number(f.PF, 0x10)))
	}
	return string(out) + f.Info
}

// told: a frame without the numbers that its kind hasn't.
func told(f frame.Frame) frame.Frame {
	k := kinds[f.Kind]
	f.NS, f.NR = number(k.ns, f.NS), number(k.nr, f.NR)
	return f
}

// show: a frame in print, its information in sixteens and not all of it.
func show(f frame.Frame) string {
	return fmt.Sprintf("{%v %t %d %t %d %d %.20x of %d}", f.Link, f.Command, int(f.Kind), f.PF, f.NS, f.NR, f.Info, len(f.Info))
}

func holdPut(t *testing.T, f frame.Frame, network bool, want string) {
	t.Helper()
	if got, e := frame.Put(f, network); got != want || e != api.OK {
		t.Fatalf("Put(%s, %t) = %.20x, %d, want %.20x, OK", show(f), network, got, e, want)
	}
}

func holdPutRefuses(t *testing.T, f frame.Frame, network bool, want api.Errno) {
	t.Helper()
	if got, e := frame.Put(f, network); got != "" || e != want {
		t.Fatalf("Put(%s, %t) = %.20x, %d, want none, %d", show(f), network, got, e, want)
	}
}

func holdGet(t *testing.T, s string, network bool, want frame.Frame) {
	t.Helper()
	if got, e := frame.Get(s, network); got != want || e != api.OK {
		t.Fatalf("Get(%.20x, %t) of %d octets = %s, %d, want %s, OK", s, network, len(s), show(got), e, show(want))
	}
}

func holdGetRefuses(t *testing.T, s string, network bool, want api.Errno) {
	t.Helper()
	if got, e := frame.Get(s, network); got != (frame.Frame{}) || e != want {
		t.Fatalf("Get(%.20x, %t) of %d octets = %s, %d, want none, %d", s, network, len(s), show(got), e, want)
	}
}

// P6.1: May, of each kind, and of what is none.
func TestMay(t *testing.T) {
	for n, k := range kinds {
		if int(k.kind) != n {
			t.Fatalf("row %d is of kind %d", n, k.kind)
		}
		if got := frame.May(k.kind, true); got != k.command {
			t.Errorf("May(%s, true) = %t", k.kind.Name(), got)
		}
		if got := frame.May(k.kind, false); got != k.response {
			t.Errorf("May(%s, false) = %t", k.kind.Name(), got)
		}
	}
	for _, k := range noKinds {
		if frame.May(k, true) || frame.May(k, false) {
			t.Errorf("May(%d): %t, %t, want false", int(k), frame.May(k, true), frame.May(k, false))
		}
	}
}

// P6.1: Carries, of each kind with each number of octets, and with numbers far out.
func TestCarries(t *testing.T) {
	for _, k := range kinds {
		for n := -300; n <= 1100; n++ {
			if got, want := frame.Carries(k.kind, n), n >= k.least && n <= k.most; got != want {
				t.Errorf("Carries(%s, %d) = %t", k.kind.Name(), n, got)
			}
		}
		for _, n := range []int{
			math.MinInt, math.MinInt + 5, math.MinInt + 260, math.MinInt32, -1 << 32, -1<<32 + 5, -1 << 16,
			1 << 16, 1<<16 + 5, 1<<16 + 260, 1 << 32, 1<<32 + 5, 1<<32 + 260, math.MaxInt32, math.MaxInt - 1, math.MaxInt,
		} {
			if frame.Carries(k.kind, n) {
				t.Errorf("Carries(%s, %d) = true", k.kind.Name(), n)
			}
		}
	}
}

// P6.1: what is no kind carries nothing, not even no octets.
func TestCarriesOfNoKind(t *testing.T) {
	for _, k := range noKinds {
		for _, n := range append([]int{math.MinInt, -5, -1, math.MaxInt}, lengths...) {
			if frame.Carries(k, n) {
				t.Errorf("Carries(%d, %d) = true", int(k), n)
			}
		}
	}
}

// P6.2, P6.3: frames written out, with their check sequences; the first is the chapter's example.
func TestWrittenOut(t *testing.T) {
	link := addr.Link{SAPI: 0, TEI: 64}
	for _, x := range []struct {
		f       frame.Frame
		network bool
		octets  string
	}{
		{frame.Frame{Link: link, Kind: ctrl.RR, NR: 1, PF: true}, false, "\x02\x81\x01\x03\xdb\xb8"},
		{frame.Frame{Link: link, Command: true, Kind: ctrl.RR, NR: 1, PF: true}, true, "\x02\x81\x01\x03\xdb\xb8"},
		{frame.Frame{Link: link, Command: true, Kind: ctrl.SABME, PF: true}, true, "\x02\x81\x7f\x10\x6d"},
		{frame.Frame{Link: link, Kind: ctrl.DM}, false, "\x02\x81\x0f\x97\x1e"},
		{frame.Frame{Link: link, Command: true, Kind: ctrl.UI}, true, "\x02\x81\x03\xfb\xd4"},
		{frame.Frame{Link: link, Command: true, Kind: ctrl.I, NS: 1, Info: "ab"}, false, "\x00\x81\x02\x00ab\x71\x73"},
		{frame.Frame{Link: link, Command: true, Kind: ctrl.I, NS: 3, NR: 2, PF: true}, false, "\x00\x81\x06\x05\x93\xa9"},
		{frame.Frame{Link: link, Kind: ctrl.FRMR, Info: "abcde"}, true, "\x00\x81\x87abcde\x1a\x55"},
		{
			frame.Frame{Link: addr.Link{SAPI: api.Manage, TEI: api.Broadcast}, Command: true, Kind: ctrl.UI, Info: "\x0f\x01\x02\x01\xff"},
			false, "\xfc\xff\x03\x0f\x01\x02\x01\xff\x0d\xac",
		},
	} {
		holdPut(t, x.f, x.network, x.octets)
		holdGet(t, x.octets, x.network, x.f)
	}
}

// each goes through frames of all kinds, commands and responses, may they be or not, with good and bad information.
func each(numbers []int, links []addr.Link, do func(f frame.Frame, network bool)) {
	for _, k := range kinds {
		for n := range 8 {
			network, command, pf := n&1 != 0, n&2 != 0, n&4 != 0
			for _, number := range numbers {
				for i, link := range links {
					for _, length := range lengths {
						other := numbers[(i+length)%len(numbers)]
						do(frame.Frame{Link: link, Command: command, Kind: k.kind, PF: pf, NS: number, NR: other, Info: text(length)}, network)
					}
				}
			}
		}
	}
}

// P6.2, P6.3: Put and Get, of frames with numbers and links within their bounds: told again if they may be, else refused, with ErrForm ahead of ErrLong.
func TestEachFrame(t *testing.T) {
	each([]int{0, 1, 63, 64, 126, 127}, links, func(f frame.Frame, network bool) {
		k := kinds[f.Kind]
		sealed := fcs.Seal(octets(f, network))
		switch {
		case f.Command && !k.command || !f.Command && !k.response:
			holdPutRefuses(t, f, network, api.ErrForm)
			holdGetRefuses(t, sealed, network, api.ErrForm)
		case len(f.Info) < k.least || len(f.Info) > k.most:
			holdPutRefuses(t, f, network, api.ErrLong)
			holdGetRefuses(t, sealed, network, api.ErrLong)
		default:
			holdPut(t, f, network, sealed)
			holdGet(t, sealed, network, told(f))
		}
	})
}

// P6.2, P6.3: each number of I, and of RR, RNR, REJ; each link.
func TestEachNumberAndLink(t *testing.T) {
	for n := range 128 {
		for sapi := range 64 {
			link := addr.Link{SAPI: sapi, TEI: n}
			for _, f := range []frame.Frame{
				{Link: link, Command: true, Kind: ctrl.I, NS: n, NR: 2 * sapi, Info: "x"},
				{Link: link, Kind: ctrl.RR, NR: n},
				{Link: link, Command: true, Kind: ctrl.RNR, NR: n, PF: true},
				{Link: link, Kind: ctrl.REJ, NR: n, PF: true},
				{Link: link, Command: true, Kind: ctrl.DISC, PF: true},
			} {
				for _, network := range bools {
					sealed := fcs.Seal(octets(f, network))
					holdPut(t, f, network, sealed)
					holdGet(t, sealed, network, f)
				}
			}
		}
	}
}

// putError: what P6.2's sentence answers of a frame, in its order.
func putError(f frame.Frame) api.Errno {
	if f.Kind < 0 || int(f.Kind) >= len(kinds) {
		return api.ErrForm
	}
	k := kinds[f.Kind]
	within := func(n, most int) bool { return n >= 0 && n <= most }
	switch {
	case f.Command && !k.command || !f.Command && !k.response:
		return api.ErrForm
	case k.ns && !within(f.NS, 127) || k.nr && !within(f.NR, 127):
		return api.ErrArg
	case !within(f.Link.SAPI, 63) || !within(f.Link.TEI, 127):
		return api.ErrArg
	case len(f.Info) < k.least || len(f.Info) > k.most:
		return api.ErrLong
	}
	return api.OK
}

func holdPutWords(t *testing.T, f frame.Frame, network bool) {
	t.Helper()
	if want := putError(f); want != api.OK {
		holdPutRefuses(t, f, network, want)
	} else {
		holdPut(t, f, network, fcs.Seal(octets(f, network)))
	}
}

// P6.2: numbers and links on both sides of their bounds, with all that may be wrong beside them at once; numbers that a kind hasn't count for nothing.
func TestPutOrderOfErrors(t *testing.T) {
	wrong := []addr.Link{
		{SAPI: 63, TEI: 127}, {SAPI: 64, TEI: 127}, {SAPI: 63, TEI: 128}, {SAPI: -1, TEI: 0}, {SAPI: 0, TEI: -1},
		{SAPI: 127, TEI: 64}, {SAPI: math.MinInt, TEI: math.MaxInt}, {SAPI: 1 << 32, TEI: 64}, {SAPI: 0, TEI: 1<<32 + 64},
	}
	each([]int{0, 127, 128, -1, math.MinInt, math.MaxInt, 1 << 32}, wrong, func(f frame.Frame, network bool) {
		holdPutWords(t, f, network)
	})
}

// P6.2: each wrong number alone.
func TestPutOfNumbersBeyond(t *testing.T) {
	for _, k := range kinds {
		for _, network := range bools {
			for _, n := range beyond {
				good := frame.Frame{Link: addr.Link{TEI: 64}, Command: k.command, Kind: k.kind, NS: 1, NR: 2, Info: text(k.least)}
				for _, spoil := range []func(*frame.Frame){
					func(f *frame.Frame) { f.NS = n },
					func(f *frame.Frame) { f.NR = n },
					func(f *frame.Frame) { f.NS, f.NR = n, n },
					func(f *frame.Frame) { f.Link.SAPI = n },
					func(f *frame.Frame) { f.Link.TEI = n },
				} {
					f := good
					spoil(&f)
					holdPutWords(t, f, network)
				}
			}
		}
	}
}

// P6.2: what is no kind is refused first, whatever else is wrong.
func TestPutOfNoKind(t *testing.T) {
	for _, k := range noKinds {
		for n := range 8 {
			network, command, pf := n&1 != 0, n&2 != 0, n&4 != 0
			for _, number := range []int{0, 127, 128, -1, math.MinInt, math.MaxInt} {
				for _, length := range []int{0, 5, 260, 261} {
					link := addr.Link{SAPI: number, TEI: number}
					holdPutRefuses(t, frame.Frame{Command: command, Kind: k, PF: pf, NS: number, NR: number, Info: text(length)}, network, api.ErrForm)
					holdPutRefuses(t, frame.Frame{Link: link, Command: command, Kind: k, PF: pf, Info: text(length)}, network, api.ErrForm)
				}
			}
		}
	}
}

// P6.2: the order of errors, written out: one thing after the other is mended.
func TestPutMended(t *testing.T) {
	f := frame.Frame{Kind: ctrl.Kinds, NS: 128, NR: 128, Link: addr.Link{SAPI: 64, TEI: 128}, Info: text(261)}
	holdPutRefuses(t, f, true, api.ErrForm)
	f.Kind = ctrl.I // a response, which I mayn't be
	holdPutRefuses(t, f, true, api.ErrForm)
	f.Command = true
	holdPutRefuses(t, f, true, api.ErrArg)
	f.NS = 127
	holdPutRefuses(t, f, true, api.ErrArg)
	f.NR = 127
	holdPutRefuses(t, f, true, api.ErrArg)
	f.Link.SAPI = 63
	holdPutRefuses(t, f, true, api.ErrArg)
	f.Link.TEI = 127
	holdPutRefuses(t, f, true, api.ErrLong)
	f.Info = text(260)
	holdPut(t, f, true, fcs.Seal("\xfe\xff\xfe\xfe"+text(260)))
}

// P6.3: fewer octets than a check sequence has are ErrSum too, and a wrong sequence is told ahead of all else.
func TestGetOfWrongSums(t *testing.T) {
	for _, network := range bools {
		holdGetRefuses(t, "", network, api.ErrSum)
		for o := range 256 {
			holdGetRefuses(t, string([]byte{byte(o)}), network, api.ErrSum)
		}
		for _, s := range []string{
			"", "\x02", "\x03\x81\x03", "\x02\x80\x03", "\x02\x81", "\x02\x81\x01", "\x02\x81\xaf", "\x00\x81\x7f",
			"\x02\x81\x7fx", "\x02\x81\x00\x00", "\x02\x81\x03abc", "\x02\x81\x03" + text(261), text(1 << 16),
		} {
			sealed := fcs.Seal(s)
			last := len(sealed) - 1
			holdGetRefuses(t, sealed[:last], network, api.ErrSum)
			holdGetRefuses(t, sealed+"\x00", network, api.ErrSum)
			holdGetRefuses(t, sealed[:last]+string([]byte{sealed[last] ^ 0x80}), network, api.ErrSum)
			holdGetRefuses(t, string([]byte{sealed[0] ^ 1})+sealed[1:], network, api.ErrSum)
		}
	}
}

// P6.3: a frame with one bit turned, wherever, is an invalid one.
func TestGetOfOneBitTurned(t *testing.T) {
	for _, f := range []frame.Frame{
		{Link: addr.Link{TEI: 64}, Kind: ctrl.RR, NR: 1, PF: true},
		{Link: addr.Link{TEI: 64}, Command: true, Kind: ctrl.I, NS: 3, NR: 2, Info: text(260)},
		{Link: addr.Link{SAPI: 63, TEI: 127}, Command: true, Kind: ctrl.UI, Info: "\x0f\x01\x02\x01\xff"},
	} {
		sealed := fcs.Seal(octets(f, true))
		for place := range 8 * len(sealed) {
			turned := []byte(sealed)
			turned[place/8] ^= 1 << (place % 8)
			holdGetRefuses(t, string(turned), true, api.ErrSum)
		}
		holdGet(t, sealed, true, f)
	}
}

// P6.3: octets that are wrong in one thing or more, with a right check sequence: the order of errors, written out.
func TestGetRefuses(t *testing.T) {
	for _, x := range []struct {
		s    string
		want api.Errno
	}{
		{"", api.ErrShort}, // no address
		{"\x02", api.ErrShort},
		{"\x03", api.ErrShort},    // too short ahead of its lowest bit
		{"\x03\x81", api.ErrForm}, // a wrong address ahead of no control field
		{"\x02\x80", api.ErrForm},
		{"\x03\x81\x03", api.ErrForm},
		{"\x02\x80\x03", api.ErrForm},
		{"\x03\x81\x01", api.ErrForm},  // ahead of half a control field
		{"\x03\x81\x7fx", api.ErrForm}, // ahead of information
		{"\x02\x81", api.ErrShort},     // no control field
		{"\x02\x81\x00", api.ErrShort}, // half of one: I, RR, RNR, REJ
		{"\x02\x81\x01", api.ErrShort},
		{"\x02\x81\x05", api.ErrShort},
		{"\x02\x81\x09", api.ErrShort},
		{"\x00\x81\x00", api.ErrShort},            // half of one, of a response that I mayn't be
		{"\x02\x81\xaf", api.ErrForm},             // XID, which is none here
		{"\x02\x81\x11", api.ErrForm},             // RR with a bit that must be 0
		{"\x02\x81\xaf" + text(261), api.ErrForm}, // ahead of too much information
		{"\x00\x81\x7f", api.ErrForm},             // SABME, a response
		{"\x00\x81\x00\x00", api.ErrForm},         // I, a response
		{"\x00\x81\x03", api.ErrForm},             // UI, a response
		{"\x00\x81\x53", api.ErrForm},             // DISC, a response
		{"\x02\x81\x0f", api.ErrForm},             // DM, a command
		{"\x02\x81\x73", api.ErrForm},             // UA, a command
		{"\x02\x81\x87abcde", api.ErrForm},        // FRMR, a command
		{"\x02\x81\x87", api.ErrForm},             // and without information
		{"\x00\x81\x7fx", api.ErrForm},            // ahead of information that it mayn't have
		{"\x00\x81\x03" + text(261), api.ErrForm},
		{"\x02\x81\x7fx", api.ErrLong},         // SABME with information
		{"\x02\x81\x43x", api.ErrLong},         // DISC
		{"\x00\x81\x0fx", api.ErrLong},         // DM
		{"\x00\x81\x63x", api.ErrLong},         // UA
		{"\x02\x81\x01\x00x", api.ErrLong},     // RR
		{"\x00\x81\x05\x00x", api.ErrLong},     // RNR
		{"\x00\x81\x09\x00abcde", api.ErrLong}, // REJ
		{"\x00\x81\x87", api.ErrLong},          // FRMR with less than five octets, and with more
		{"\x00\x81\x87abcd", api.ErrLong},
		{"\x00\x81\x87abcdef", api.ErrLong},
		{"\x02\x81\x03" + text(261), api.ErrLong},     // UI
		{"\x02\x81\x02\x04" + text(261), api.ErrLong}, // I
		{"\x02\x81\x03" + text(1<<20), api.ErrLong},
	} {
		holdGetRefuses(t, fcs.Seal(x.s), true, x.want)
	}
}

// getError: what P6.3's sentence answers of octets ahead of a right check sequence, in its order; 0x02 is the C/R bit.
func getError(s string, network bool) api.Errno {
	switch {
	case len(s) < 2:
		return api.ErrShort
	case s[0]%2 == 1 || s[1]%2 == 0:
		return api.ErrForm
	case len(s) == 2:
		return api.ErrShort
	}
	command := (s[0]&0x02 != 0) == network
	for _, k := range kinds {
		first := int(s[2])
		if k.ns && first%2 != 0 || !k.ns && first != k.first && (k.nr || first != k.first+0x10) {
			continue
		}
		info := len(s) - 3 - number(k.nr, 1)
		switch {
		case info < 0:
			return api.ErrShort
		case command && !k.command || !command && !k.response:
			return api.ErrForm
		case info < k.least || info > k.most:
			return api.ErrLong
		}
		return api.OK
	}
	return api.ErrForm
}

// holdGetWords: what Get tells is what the words say, and Put of it makes the same octets.
func holdGetWords(t *testing.T, s string, network bool) {
	t.Helper()
	sealed := fcs.Seal(s)
	if want := getError(s, network); want != api.OK {
		holdGetRefuses(t, sealed, network, want)
		return
	}
	f, e := frame.Get(sealed, network)
	if e != api.OK || octets(f, network) != s || f != told(f) {
		t.Fatalf("Get(%.20x, %t) of %d octets = %s, %d, want its frame, OK", sealed, network, len(sealed), show(f), e)
	}
	holdPut(t, f, network, sealed)
}

// P6.3: each octet alone, and each pair.
func TestGetOfFewOctets(t *testing.T) {
	for _, network := range bools {
		holdGetWords(t, "", network)
		for n := range 1 << 8 {
			holdGetWords(t, string([]byte{byte(n)}), network)
		}
		for n := range 1 << 16 {
			holdGetWords(t, string([]byte{byte(n / 256), byte(n % 256)}), network)
		}
	}
}

// P6.3: each first octet of a control field, behind good and wrong addresses, with octets behind it of each number that matters.
func TestGetOfEachControl(t *testing.T) {
	for _, address := range []string{"\x00\x01", "\x02\x01", "\x00\x81", "\x02\x81", "\xfc\xff", "\xfe\xff", "\x01\x81", "\x03\x81", "\x00\x80", "\x02\x80"} {
		for first := range 256 {
			ahead := address + string([]byte{byte(first)})
			for _, network := range bools {
				for second := range 256 {
					holdGetWords(t, ahead+string([]byte{byte(second)}), network)
				}
				for _, length := range lengths {
					holdGetWords(t, ahead+text(length), network)
				}
			}
		}
	}
}

// P6.2, P6.3: to the other side the same octets are the contrary: a response in place of a command.
func TestOfTheOtherSide(t *testing.T) {
	for _, network := range bools {
		for _, k := range kinds {
			for _, command := range bools {
				f := frame.Frame{Link: addr.Link{TEI: 64}, Command: command, Kind: k.kind, PF: true, Info: text(k.least)}
				if !frame.May(k.kind, command) {
					continue
				}
				sealed, e := frame.Put(f, network)
				if e != api.OK {
					t.Fatalf("Put(%s, %t): %d", show(f), network, e)
				}
				if f.Command = !command; k.command && k.response {
					holdGet(t, sealed, !network, f)
				} else {
					holdGetRefuses(t, sealed, !network, api.ErrForm)
				}
			}
		}
	}
}

// Rules 6 and 7: texts of any length, and the same answer each time.
func TestLongTexts(t *testing.T) {
	f := frame.Frame{Link: addr.Link{TEI: 64}, Command: true, Kind: ctrl.UI, Info: strings.Repeat("\xff", 1<<20)}
	for range 2 {
		holdPutRefuses(t, f, true, api.ErrLong)
		holdGetRefuses(t, fcs.Seal(octets(f, true)), true, api.ErrLong)
		holdGetRefuses(t, f.Info, true, api.ErrSum)
	}
}
