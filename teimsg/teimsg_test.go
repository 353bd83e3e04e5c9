package teimsg_test

import (
	"fmt"
	"math"
	"strings"
	"testing"

	"lapwing/addr"
	"lapwing/api"
	"lapwing/ctrl"
	"lapwing/frame"
	"lapwing/teimsg"
)

// kinds are the chapter's types in its order, with who sends them.
var kinds = []struct {
	kind    teimsg.Type
	name    string
	network bool
}{
	{teimsg.Request, "Request", false},
	{teimsg.Assigned, "Assigned", true},
	{teimsg.Denied, "Denied", true},
	{teimsg.CheckRequest, "CheckRequest", true},
	{teimsg.CheckResponse, "CheckResponse", false},
	{teimsg.Remove, "Remove", true},
	{teimsg.Verify, "Verify", false},
}

// noTypes are next to the types, at places where a number cut to fewer bits would look like one, and far out.
var noTypes = []teimsg.Type{
	math.MinInt, math.MinInt + 1, math.MinInt + 2, math.MinInt32, -1 << 32, -1<<32 + 1, -1 << 16, -1<<16 + 2, -256, -255, -254, -249, -8, -7, -2, -1, 0,
	8, 9, 10, 15, 16, 17, 18, 127, 128, 129, 130, 255, 256, 257, 258, 263, 264, 1 << 16, 1<<16 + 1, 1<<16 + 2, 1 << 32, 1<<32 + 1, 1<<32 + 7,
	math.MaxInt32, math.MaxInt - 1, math.MaxInt,
}

// goodRis and goodAis are at their bounds and between.
var (
	goodRis = []int{0, 1, 127, 128, 254, 255, 256, 257, 258, 5125, 32767, 32768, 65279, 65280, 65281, 65534, 65535}
	goodAis = []int{0, 1, 2, 62, 63, 64, 65, 125, 126, 127}
)

// badRis and badAis are chosen like noTypes.
var (
	badRis = []int{
		math.MinInt, math.MinInt + 1, math.MinInt + 258, math.MinInt32, -1 << 32, -1<<32 + 1, -65537, -65536, -65535, -65534, -32768, -256, -255, -2, -1,
		65536, 65537, 65791, 65792, 131071, 131072, 1 << 24, 1 << 32, 1<<32 + 258, math.MaxInt32, math.MaxInt - 1, math.MaxInt,
	}
	badAis = []int{
		math.MinInt, math.MinInt + 64, math.MinInt32, -1 << 32, -1<<32 + 64, -65536, -256, -255, -129, -128, -127, -64, -2, -1,
		128, 129, 192, 254, 255, 256, 257, 320, 1 << 16, 1 << 32, 1<<32 + 64, math.MaxInt32, math.MaxInt - 1, math.MaxInt,
	}
)

var bools = []bool{false, true}

var messageLink = addr.Link{SAPI: 63, TEI: 127}

// octets: those of a good message, told by quotients and sums as the chapter tells them.
func octets(m teimsg.Message) string {
	return string([]byte{15, byte(m.Ri / 256), byte(m.Ri % 256), byte(m.Type), byte(2*m.Ai + 1)})
}

// carrier: the frame of those octets.
func carrier(info string) frame.Frame {
	return frame.Frame{Link: messageLink, Command: true, Kind: ctrl.UI, Info: info}
}

func show(f frame.Frame) string {
	return fmt.Sprintf("{%v %t %d %t %d %d %.20x of %d}", f.Link, f.Command, int(f.Kind), f.PF, f.NS, f.NR, f.Info, len(f.Info))
}

func holdPut(t *testing.T, m teimsg.Message, want string) {
	t.Helper()
	if got, e := teimsg.Put(m); got != want || e != api.OK {
		t.Fatalf("Put(%v) = %x, %d, want %x, OK", m, got, e, want)
	}
	if f, e := teimsg.Frame(m); f != carrier(want) || e != api.OK {
		t.Fatalf("Frame(%v) = %s, %d, want %s, OK", m, show(f), e, show(carrier(want)))
	}
}

func holdPutRefuses(t *testing.T, m teimsg.Message, want api.Errno) {
	t.Helper()
	if got, e := teimsg.Put(m); got != "" || e != want {
		t.Fatalf("Put(%v) = %x, %d, want none, %d", m, got, e, want)
	}
	if f, e := teimsg.Frame(m); f != (frame.Frame{}) || e != want {
		t.Fatalf("Frame(%v) = %s, %d, want none, %d", m, show(f), e, want)
	}
}

func holdGet(t *testing.T, s string, want teimsg.Message) {
	t.Helper()
	if got, e := teimsg.Get(s); got != want || e != api.OK {
		t.Fatalf("Get(%x) = %v, %d, want %v, OK", s, got, e, want)
	}
}

func holdGetRefuses(t *testing.T, s string, want api.Errno) {
	t.Helper()
	if got, e := teimsg.Get(s); got != (teimsg.Message{}) || e != want {
		t.Fatalf("Get(%.20x) of %d octets = %v, %d, want none, %d", s, len(s), got, e, want)
	}
}

func holdOf(t *testing.T, f frame.Frame, network bool, want teimsg.Message) {
	t.Helper()
	if got, ok := teimsg.Of(f, network); got != want || !ok {
		t.Fatalf("Of(%s, %t) = %v, %t, want %v, true", show(f), network, got, ok, want)
	}
}

func holdOfNone(t *testing.T, f frame.Frame, network bool) {
	t.Helper()
	if got, ok := teimsg.Of(f, network); got != (teimsg.Message{}) || ok {
		t.Fatalf("Of(%s, %t) = %v, %t, want none, false", show(f), network, got, ok)
	}
}

// eachGood goes through messages of all types with numbers at their bounds and between.
func eachGood(do func(m teimsg.Message, network bool)) {
	for _, k := range kinds {
		for _, ri := range goodRis {
			for _, ai := range goodAis {
				do(teimsg.Message{Type: k.kind, Ri: ri, Ai: ai}, k.network)
			}
		}
	}
}

// P7.1: the types are 1 to 7, in the chapter's order.
func TestTypes(t *testing.T) {
	for i, k := range kinds {
		if int(k.kind) != i+1 {
			t.Errorf("%s is %d, want %d", k.name, int(k.kind), i+1)
		}
	}
}

// P7.1: FromNetwork, of each type, and of what is none.
func TestFromNetwork(t *testing.T) {
	for _, k := range kinds {
		if got := k.kind.FromNetwork(); got != k.network {
			t.Errorf("%s.FromNetwork() = %t", k.name, got)
		}
	}
	for _, n := range noTypes {
		if n.FromNetwork() {
			t.Errorf("Type(%d).FromNetwork() = true", int(n))
		}
	}
}

// P7.1, P7.2: messages written out; the first is the chapter's example.
func TestWrittenOut(t *testing.T) {
	for _, x := range []struct {
		m       teimsg.Message
		octets  string
		network bool
	}{
		{teimsg.Message{Type: teimsg.Request, Ri: 258, Ai: 127}, "\x0f\x01\x02\x01\xff", false},
		{teimsg.Message{Type: teimsg.Request, Ri: 5125, Ai: 127}, "\x0f\x14\x05\x01\xff", false},
		{teimsg.Message{Type: teimsg.Assigned, Ri: 5125, Ai: 64}, "\x0f\x14\x05\x02\x81", true},
		{teimsg.Message{Type: teimsg.Denied, Ri: 255, Ai: 127}, "\x0f\x00\xff\x03\xff", true},
		{teimsg.Message{Type: teimsg.CheckRequest, Ai: 126}, "\x0f\x00\x00\x04\xfd", true},
		{teimsg.Message{Type: teimsg.CheckResponse, Ri: 256, Ai: 126}, "\x0f\x01\x00\x05\xfd", false},
		{teimsg.Message{Type: teimsg.Remove}, "\x0f\x00\x00\x06\x01", true},
		{teimsg.Message{Type: teimsg.Verify, Ri: 65535, Ai: 64}, "\x0f\xff\xff\x07\x81", false},
	} {
		holdPut(t, x.m, x.octets)
		holdGet(t, x.octets, x.m)
		holdOf(t, carrier(x.octets), x.network, x.m)
		holdOfNone(t, carrier(x.octets), !x.network)
	}
}

// P7.1, P7.2: good messages are made and read again, by the side that sends them and by no other.
func TestGoodMessages(t *testing.T) {
	eachGood(func(m teimsg.Message, network bool) {
		holdPut(t, m, octets(m))
		holdGet(t, octets(m), m)
		holdOf(t, carrier(octets(m)), network, m)
		holdOfNone(t, carrier(octets(m)), !network)
	})
}

// P7.1: each Ri, and each Ai of each type.
func TestEachNumber(t *testing.T) {
	for ri := range 65536 {
		m := teimsg.Message{Type: kinds[ri%7].kind, Ri: ri, Ai: ri % 128}
		holdPut(t, m, octets(m))
		holdGet(t, octets(m), m)
	}
	for _, k := range kinds {
		for ai := range 128 {
			m := teimsg.Message{Type: k.kind, Ri: 258, Ai: ai}
			holdPut(t, m, octets(m))
			holdGet(t, octets(m), m)
		}
	}
}

// P7.1, P7.2: what is no type is refused first, whatever else is wrong.
func TestPutOfNoType(t *testing.T) {
	for _, n := range noTypes {
		for _, ri := range append([]int{0, 258, 65535}, badRis...) {
			for _, ai := range append([]int{0, 127}, badAis...) {
				holdPutRefuses(t, teimsg.Message{Type: n, Ri: ri, Ai: ai}, api.ErrForm)
			}
		}
	}
}

// P7.1, P7.2: a Ri, or an Ai, or both, that can't be.
func TestPutOfNumbersBeyond(t *testing.T) {
	for _, k := range kinds {
		for _, ri := range badRis {
			for _, ai := range append(goodAis[:len(goodAis):len(goodAis)], badAis...) {
				holdPutRefuses(t, teimsg.Message{Type: k.kind, Ri: ri, Ai: ai}, api.ErrArg)
			}
		}
		for _, ai := range badAis {
			for _, ri := range goodRis {
				holdPutRefuses(t, teimsg.Message{Type: k.kind, Ri: ri, Ai: ai}, api.ErrArg)
			}
		}
	}
}

// P7.1, P7.2: the order of errors, written out: one thing after the other is mended.
func TestPutMended(t *testing.T) {
	m := teimsg.Message{Type: 8, Ri: 65536, Ai: 128}
	holdPutRefuses(t, m, api.ErrForm)
	m.Type = 0
	holdPutRefuses(t, m, api.ErrForm)
	m.Type = teimsg.Verify
	holdPutRefuses(t, m, api.ErrArg)
	m.Ri = -1
	holdPutRefuses(t, m, api.ErrArg)
	m.Ri = 65535
	holdPutRefuses(t, m, api.ErrArg)
	m.Ai = -1
	holdPutRefuses(t, m, api.ErrArg)
	m.Ai = 127
	holdPut(t, m, "\x0f\xff\xff\x07\xff")
}

// getError: what P7.1's sentence answers of octets, in its order.
func getError(s string) api.Errno {
	switch {
	case len(s) < 5:
		return api.ErrShort
	case len(s) > 5:
		return api.ErrLong
	case s[0] != 15 || s[3] < 1 || s[3] > 7 || s[4]%2 == 0:
		return api.ErrForm
	}
	return api.OK
}

// holdGetWords: what Get tells is what the words say, and what Of tells of the frame with these octets follows it.
func holdGetWords(t *testing.T, s string) {
	t.Helper()
	if want := getError(s); want != api.OK {
		holdGetRefuses(t, s, want)
		holdOfNone(t, carrier(s), false)
		holdOfNone(t, carrier(s), true)
		return
	}
	want := teimsg.Message{Type: teimsg.Type(s[3]), Ri: 256*int(s[1]) + int(s[2]), Ai: int(s[4]) / 2}
	holdGet(t, s, want)
	holdPut(t, want, s)
	network := kinds[s[3]-1].network
	holdOf(t, carrier(s), network, want)
	holdOfNone(t, carrier(s), !network)
}

// P7.1: Get's errors, written out, and their order: the number of octets is told ahead of what they are.
func TestGetRefuses(t *testing.T) {
	for _, x := range []struct {
		s    string
		want api.Errno
	}{
		{"", api.ErrShort},
		{"\x0f", api.ErrShort},
		{"\x0f\x00\x00\x01", api.ErrShort},
		{"\x0e\x00\x00\x01", api.ErrShort}, // ahead of the first octet
		{"\x0f\x00\x00\x08", api.ErrShort}, // ahead of the type
		{"\x0f\x00\x00\x01\x01\x01", api.ErrLong},
		{"\x0e\x00\x00\x01\x01\x01", api.ErrLong},
		{"\x0f\x00\x00\x00\x01\x01", api.ErrLong},
		{"\x0f\x00\x00\x01\x00\x00", api.ErrLong},
		{"\x00\x00\x00\x00\x00\x00", api.ErrLong},
		{"\x0f\x00\x00\x01\x01\x0f\x00\x00\x01\x01", api.ErrLong}, // two messages
		{"\x0e\x00\x00\x01\x01", api.ErrForm},
		{"\x10\x00\x00\x01\x01", api.ErrForm},
		{"\x8f\x00\x00\x01\x01", api.ErrForm},
		{"\x0f\x00\x00\x00\x01", api.ErrForm},
		{"\x0f\x00\x00\x08\x01", api.ErrForm},
		{"\x0f\x00\x00\x81\x01", api.ErrForm},
		{"\x0f\x00\x00\x01\x00", api.ErrForm},
		{"\x0f\x00\x00\x01\xfe", api.ErrForm},
		{"\x00\x00\x00\x00\x00", api.ErrForm}, // all three at once
		{"\xff\xff\xff\xff\xfe", api.ErrForm},
		{"\x0f\x00\x00\x08\x00", api.ErrForm}, // two of them
		{"\x0e\x00\x00\x01\x00", api.ErrForm},
		{"\x0e\x00\x00\x08\x01", api.ErrForm},
	} {
		holdGetRefuses(t, x.s, x.want)
		holdGetWords(t, x.s)
	}
}

// P7.1, P7.2: each octet at each place of a message.
func TestGetOfEachOctet(t *testing.T) {
	for _, s := range []string{
		"\x0f\x01\x02\x01\xff", "\x0f\xff\x00\x02\x81", "\x0f\x00\xff\x06\x01", "\x0f\x00\x00\x07\x80", "\x0f\x14\x05\x08\x81", "\x0d\x14\x05\x04\x81", "\x00\x00\x00\x00\x00",
	} {
		for place := range len(s) {
			for o := range 256 {
				holdGetWords(t, s[:place]+string([]byte{byte(o)})+s[place+1:])
			}
		}
	}
}

// P7.1, P7.2: each fourth octet with each fifth, behind a first that is right and one that isn't.
func TestGetOfEachTypeAndEnd(t *testing.T) {
	for _, ahead := range []string{"\x0f\x12\x34", "\x1f\x12\x34"} {
		for n := range 1 << 16 {
			holdGetWords(t, ahead+string([]byte{byte(n / 256), byte(n % 256)}))
		}
	}
}

// P7.1, P7.2: other numbers of octets, of a message's own and of others.
func TestGetOfOtherLengths(t *testing.T) {
	for _, s := range []string{"\x0f\x01\x02\x01\xff", "\x0f\x00\x00\x06\x01", "\x00\x00\x00\x00\x00", "\xff\xff\xff\xff\xff"} {
		row := strings.Repeat(s, 60)
		for n := range len(row) + 1 {
			holdGetWords(t, row[:n])
		}
	}
	for _, n := range []int{1 << 8, 1<<8 + 5, 1 << 16, 1<<16 + 5, 1 << 20} {
		holdGetWords(t, "\x0f\x01\x02\x01\xff"+strings.Repeat("\x01", n-5))
	}
}

// P7.2: P, and numbers that UI hasn't, count for nothing to Of.
func TestOfWithWhatCountsForNothing(t *testing.T) {
	eachGood(func(m teimsg.Message, network bool) {
		for _, n := range []int{math.MinInt, -1, 0, 1, 127, 128, math.MaxInt} {
			for _, pf := range bools {
				f := carrier(octets(m))
				f.PF, f.NS, f.NR = pf, n, -1-n
				holdOf(t, f, network, m)
				holdOfNone(t, f, !network)
			}
		}
	})
}

// P7.2: frames of another link are none, be it in the SAPI alone, in the TEI alone, or in both.
func TestOfAnotherLink(t *testing.T) {
	sapis := []int{math.MinInt, -1, 0, 1, 16, 62, 64, 127, 319, 1<<32 + 63, math.MaxInt}
	teis := []int{math.MinInt, -1, 0, 1, 63, 64, 126, 128, 255, 383, 1<<32 + 127, math.MaxInt}
	links := []addr.Link{{SAPI: 127, TEI: 63}}
	for _, sapi := range sapis {
		links = append(links, addr.Link{SAPI: sapi, TEI: 127})
		for _, tei := range teis {
			links = append(links, addr.Link{SAPI: sapi, TEI: tei})
		}
	}
	for _, tei := range teis {
		links = append(links, addr.Link{SAPI: 63, TEI: tei})
	}
	eachOther(t, func(f frame.Frame) (others []frame.Frame) {
		for _, l := range links {
			f.Link = l
			others = append(others, f)
		}
		return others
	})
}

// P7.2: frames of another kind are none, also of what is no kind.
func TestOfAnotherKind(t *testing.T) {
	kinds := []ctrl.Kind{math.MinInt, -250, -6, -1, ctrl.Kinds, ctrl.Kinds + 1, 22, 256, 262, 1<<32 + 6, math.MaxInt}
	for k := range ctrl.Kinds {
		if k != ctrl.UI {
			kinds = append(kinds, k)
		}
	}
	eachOther(t, func(f frame.Frame) (others []frame.Frame) {
		for _, k := range kinds {
			f.Kind = k
			others = append(others, f)
		}
		return others
	})
}

// P7.2: responses are none, of UI and of kinds that may be responses.
func TestOfAResponse(t *testing.T) {
	eachOther(t, func(f frame.Frame) (others []frame.Frame) {
		f.Command = false
		for _, k := range []ctrl.Kind{ctrl.UI, ctrl.RR, ctrl.UA, ctrl.FRMR} {
			f.Kind = k
			others = append(others, f)
		}
		return others
	})
}

// eachOther holds that what is made of a message's frame is none any more, whichever side sends it, with P and without.
func eachOther(t *testing.T, made func(frame.Frame) []frame.Frame) {
	t.Helper()
	for _, k := range kinds {
		for _, pf := range bools {
			f := carrier(octets(teimsg.Message{Type: k.kind, Ri: 5125, Ai: 64}))
			f.PF = pf
			for _, other := range made(f) {
				holdOfNone(t, other, false)
				holdOfNone(t, other, true)
			}
		}
	}
}

// P7.2: no frame at all is none.
func TestOfTheZeroFrame(t *testing.T) {
	for _, network := range bools {
		holdOfNone(t, frame.Frame{}, network)
	}
}

// P7.2: the frame of a message is one that layer 6 sends and reads, as the octets of Q.921 are.
func TestFrameGoesThroughLayer6(t *testing.T) {
	eachGood(func(m teimsg.Message, network bool) {
		f, e := teimsg.Frame(m)
		if e != api.OK {
			t.Fatalf("Frame(%v): %d", m, e)
		}
		sealed, e := frame.Put(f, network)
		first := "\xfc"
		if network {
			first = "\xfe"
		}
		if want := first + "\xff\x03" + octets(m); e != api.OK || sealed[:len(sealed)-2] != want {
			t.Fatalf("frame.Put of Frame(%v) = %x, %d, want %x and the check sequence, OK", m, sealed, e, want)
		}
		come, e := frame.Get(sealed, network)
		if e != api.OK {
			t.Fatalf("frame.Get(%x): %d", sealed, e)
		}
		holdOf(t, come, network, m)
	})
}
