package hdlc_test

import (
	"fmt"
	"math/rand"
	"regexp"
	"slices"
	"strings"
	"testing"

	"lapwing/api"
	"lapwing/hdlc"
)

const (
	flag       = "01111110"
	mostOctets = 266 // MaxInfo + 6
)

var (
	abort = hdlc.Event{Kind: hdlc.Abort}
	bad   = hdlc.Event{Kind: hdlc.Bad}
)

func frame(octets string) hdlc.Event { return hdlc.Event{Kind: hdlc.Frame, Octets: octets} }

func events(l ...hdlc.Event) []hdlc.Event { return l }

// show tells events without bytes that can't be read.
func show(l []hdlc.Event) string {
	var out []string
	for _, e := range l {
		out = append(out, fmt.Sprintf("%d:%x", e.Kind, e.Octets))
	}
	return strings.Join(out, " ")
}

func ones(n int) string { return strings.Repeat("1", n) }

// lineBits tells octets' bits by the library's digits, each octet's lowest bit first.
func lineBits(s string) string {
	var out strings.Builder
	for i := range len(s) {
		digits := fmt.Appendf(nil, "%08b", s[i])
		slices.Reverse(digits)
		out.Write(digits)
	}
	return out.String()
}

// octetsOf is lineBits backwards.
func octetsOf(b string) string {
	var out []byte
	for i := 0; i < len(b); i += 8 {
		octet := byte(0)
		for k := 7; k >= 0; k-- {
			octet = octet*2 + b[i+k] - '0'
		}
		out = append(out, octet)
	}
	return string(out)
}

// wordsStuff counts 1s as the chapter's words do.
func wordsStuff(b string) string {
	out, row := "", 0
	for i := range len(b) {
		if b[i] != '1' {
			out, row = out+"0", 0
			continue
		}
		out, row = out+"1", row+1
		if row == 5 {
			out, row = out+"0", 0
		}
	}
	return out
}

var (
	noBit    = regexp.MustCompile(`[^01]`)
	turns    = regexp.MustCompile(`^1*?1{7}|^1{6}0|01{7}|01{6}0`)
	stuffing = regexp.MustCompile(`1{5}0`)
)

// wordsFeed tells what is met in a whole line at once: it cuts the line at its flags and at its aborts, instead of going through it bit by bit.
func wordsFeed(line string) []hdlc.Event {
	line = noBit.ReplaceAllString(line, "")
	var met []hdlc.Event
	begun := -1 // where a frame began; -1 while hunting
	for at := 0; at < len(line); {
		// From the 0 ahead on: two flags may share it.
		from := max(at-1, 0)
		next := turns.FindStringIndex(line[from:])
		if next == nil {
			break
		}
		at = from + next[1]
		isFlag := line[at-1] == '0'
		if begun >= 0 && isFlag {
			met = append(met, wordsContent(line[begun:at-2])...) // without its sixth 1 and its last 0
		}
		if begun >= 0 && !isFlag {
			met = append(met, abort)
		}
		begun = at
		if !isFlag {
			begun = -1
			rest := strings.IndexByte(line[at:], '0')
			if rest < 0 {
				break
			}
			at += rest + 1
		}
	}
	return met
}

func wordsContent(between string) []hdlc.Event {
	content := stuffing.ReplaceAllString(between, "11111")
	content = content[:max(len(content)-6, 0)]
	switch {
	case content == "":
		return nil
	case len(content) > 8*(260+6), len(content)%8 != 0:
		return events(bad)
	}
	return events(frame(octetsOf(content)))
}

// bitTexts goes through all bits of a length, in rising order.
func bitTexts(length int, each func(b string)) {
	for n := range 1 << length {
		each(fmt.Sprintf("%0*b", length, n)[:length])
	}
}

func feed(pieces ...string) []hdlc.Event {
	d := hdlc.New()
	var met []hdlc.Event
	for _, p := range pieces {
		met = append(met, d.Feed(p)...)
	}
	return met
}

func holdFeed(t *testing.T, line string, want []hdlc.Event) {
	t.Helper()
	if got := feed(line); !slices.Equal(got, want) {
		t.Errorf("Feed(%.80q) = %.200s, want %.200s", line, show(got), show(want))
	}
}

// P3.1: Stuff, ordinary bits, its edges, and bytes that aren't bits.
func TestStuff(t *testing.T) {
	for _, x := range []struct{ b, want string }{
		{"", ""},
		{"0", "0"},
		{"1", "1"},
		{"1111", "1111"},
		{"11111", "111110"},
		{"111110", "1111100"},
		{"111111", "1111101"},
		{"1111111", "11111011"},
		{"1111111111", "111110111110"},
		{"11110111110", "111101111100"},
		{"1111011111", "1111 0 11111 0"},
		{ones(16), "11111 0 11111 0 11111 0 1"},
		{flag, "011111010"},
		{"x", "0"},
		{"1x1", "101"},
		{"11111x", "1111100"},
		{"1111x1", "111101"},
		{"1111\x001", "111101"},
		{"1111é1", "1111 00 1"}, // two bytes
		{"1\xff1", "101"},
		{"23 \n", "0000"},
	} {
		want := strings.ReplaceAll(x.want, " ", "")
		if got := hdlc.Stuff(x.b); got != want {
			t.Errorf("Stuff(%q) = %q, want %q", x.b, got, want)
		}
	}
}

// P3.1: Unstuff, its edges, and its errors in their order: what isn't bits or has six 1s ahead of what ends behind five.
func TestUnstuff(t *testing.T) {
	for _, x := range []struct {
		b, want string
		e       api.Errno
	}{
		{"", "", api.OK},
		{"0", "0", api.OK},
		{"1111", "1111", api.OK},
		{"11111", "", api.ErrShort},
		{"011111", "", api.ErrShort},
		{"11111011111", "", api.ErrShort},
		{"111110", "11111", api.OK},
		{"1111100", "111110", api.OK},
		{"1111101", "111111", api.OK},
		{"111110111110", "1111111111", api.OK},
		{"01111101", "0111111", api.OK},
		{"111111", "", api.ErrForm},
		{"1111111", "", api.ErrForm},
		{flag, "", api.ErrForm},
		{"11111101010", "", api.ErrForm},
		{"010101111110", "", api.ErrForm},
		{"111111011111", "", api.ErrForm},
		{"x11111", "", api.ErrForm},
		{"11111x", "", api.ErrForm},
		{"2", "", api.ErrForm},
		{"0 1", "", api.ErrForm},
		{"01\x00", "", api.ErrForm},
		{"0é1", "", api.ErrForm},
		{"\xff", "", api.ErrForm},
	} {
		if got, e := hdlc.Unstuff(x.b); got != x.want || e != x.e {
			t.Errorf("Unstuff(%q) = %q, %d, want %q, %d", x.b, got, e, x.want, x.e)
		}
	}
}

// P3.1: Stuff and Unstuff of all short bits: Unstuff answers those whose stuffed ones it is handed, as the promise says, and refuses those that are nobody's.
func TestStuffAndUnstuffOfAllShortBits(t *testing.T) {
	const longest = 14
	whose := map[string]string{}
	for length := range longest + 1 {
		bitTexts(length, func(b string) {
			want := wordsStuff(b)
			if got := hdlc.Stuff(b); got != want {
				t.Errorf("Stuff(%q) = %q, want %q", b, got, want)
			}
			whose[want] = b
		})
	}
	for length := range longest + 1 {
		bitTexts(length, func(b string) {
			want, e := "", api.OK
			switch {
			case strings.Contains(b, ones(6)):
				e = api.ErrForm
			case strings.HasSuffix(b, ones(5)):
				e = api.ErrShort
			default:
				want = whose[b]
			}
			if got, gotE := hdlc.Unstuff(b); got != want || gotE != e {
				t.Errorf("Unstuff(%q) = %q, %d, want %q, %d", b, got, gotE, want, e)
			}
		})
	}
}

// P3.1: Stuff and Unstuff of long bits.
func TestStuffAndUnstuffOfLongBits(t *testing.T) {
	const rows = 100000
	plain, stuffed := ones(5*rows), strings.Repeat("111110", rows)
	if got := hdlc.Stuff(plain); got != stuffed {
		t.Errorf("%d 1s aren't stuffed well: %d bits", len(plain), len(got))
	}
	if got, e := hdlc.Unstuff(stuffed); got != plain || e != api.OK {
		t.Errorf("%d stuffed bits: %d bits, %d", len(stuffed), len(got), e)
	}
}

// P3.1: Encode, a flag, the stuffed bits, a flag.
func TestEncode(t *testing.T) {
	if hdlc.Flag != flag {
		t.Errorf("Flag = %q", hdlc.Flag)
	}
	for _, x := range []struct{ octets, want string }{
		{"", "01111110 01111110"},
		{"\x00", "01111110 00000000 01111110"},
		{"\x01", "01111110 10000000 01111110"},
		{"\x7e", "01111110 011111010 01111110"},
		{"\x1f", "01111110 111110000 01111110"},
		{"\xf8", "01111110 000111110 01111110"},
		{"\xff\xff", "01111110 1111101111101111101 01111110"},
		{"\xf0\x03", "01111110 00001111 1 0 1000000 01111110"}, // the five 1s lie across two octets
		{"é", "01111110 11000011 10010101 01111110"},
	} {
		want := strings.ReplaceAll(x.want, " ", "")
		if got := hdlc.Encode(x.octets); got != want {
			t.Errorf("Encode(%x) = %q, want %q", x.octets, got, want)
		}
	}
	octets := ""
	for o := range 256 {
		octets += string([]byte{byte(o)})
		one := octets[o:]
		if got := hdlc.Encode(one); got != flag+wordsStuff(lineBits(one))+flag {
			t.Errorf("Encode(%x) = %q", one, got)
		}
	}
	if got := hdlc.Encode(octets); got != flag+wordsStuff(lineBits(octets))+flag {
		t.Errorf("Encode of each octet once = %q", got)
	}
	if got, want := hdlc.Encode(strings.Repeat("\x00", 10000)), flag+strings.Repeat("0", 80000)+flag; got != want {
		t.Errorf("Encode of 10000 octets: %d bits, want %d", len(got), len(want))
	}
}

// P3.2: what is met, each case of the chapter's words.
func TestFeed(t *testing.T) {
	for _, x := range []struct {
		line string
		want []hdlc.Event
	}{
		{"", nil},
		{"0", nil},
		{"1", nil},
		{flag, nil},
		{flag + flag, nil},
		{flag + flag + flag, nil},
		{hdlc.Encode("ab"), events(frame("ab"))},
		{hdlc.Encode("\x00"), events(frame("\x00"))},
		{hdlc.Encode("\xff"), events(frame("\xff"))},
		{hdlc.Encode("\x7e\x7e"), events(frame("\x7e\x7e"))},
		{hdlc.Encode("a") + hdlc.Encode("b"), events(frame("a"), frame("b"))},
		// One flag ends a frame, and begins the next one.
		{flag + lineBits("a") + flag + lineBits("b") + flag, events(frame("a"), frame("b"))},
		// Hunting: what stands ahead of the first flag is nothing.
		{lineBits("a") + flag, nil},
		{"10101" + hdlc.Encode("a"), events(frame("a"))},
		{"11111" + hdlc.Encode("a"), events(frame("a"))},
		{"1111111" + hdlc.Encode("a"), events(frame("a"))},
		{ones(40) + "0" + hdlc.Encode("a"), events(frame("a"))},
		// A 0 behind just six 1s ends a flag, if no bit came ahead of them, too.
		{"111111" + "0" + lineBits("a") + flag, events(frame("a"))},
		{"11111" + "0" + lineBits("a") + flag, nil},
		{"1111111" + "0" + lineBits("a") + flag, nil},
		// Two flags share a 0.
		{flag + "1111110", nil},
		{flag + "1111110" + "1111110", nil},
		{flag + "1111110" + lineBits("a") + flag, events(frame("a"))},
		{flag + lineBits("a") + flag + "1111110" + lineBits("b") + flag, events(frame("a"), frame("b"))},
		// Contents of a few bits.
		{flag + "0" + flag, events(bad)},
		{flag + "1" + flag, events(bad)},
		{flag + "1010" + flag, events(bad)},
		{flag + "11111" + flag, events(bad)},
		{flag + "0000000" + flag, events(bad)},
		{flag + "00000000" + flag, events(frame("\x00"))},
		{flag + "000000000" + flag, events(bad)},
		{flag + "000000000000000" + flag, events(bad)},
		{flag + "0000000000000000" + flag, events(frame("\x00\x00"))},
		{flag + "00000000000000000" + flag, events(bad)},
		{flag + "1010" + flag + lineBits("a") + flag, events(bad, frame("a"))},
		// Five 1s: the 0 behind them isn't of the content, also behind the flag, and ahead of the next one.
		{flag + "11111" + "0" + "000" + flag, events(frame("\x1f"))},
		{flag + "000" + "11111" + "0" + flag, events(frame("\xf8"))},
		{flag + "111110" + "111" + flag, events(frame("\xff"))},
		{flag + "1111" + "0000" + flag, events(frame("\x0f"))},
		// If the flag's 0 stands behind five 1s, six bits are lost all the same.
		{flag + "000" + "11111" + flag, events(bad)},
		{flag + "0000" + "11111" + flag, events(frame("\xf0"))},
		// Seven 1s in a row.
		{flag + ones(6), nil},
		{flag + ones(7), events(abort)},
		{flag + ones(8), events(abort)},
		{flag + ones(40), events(abort)},
		{flag + ones(40) + "0" + ones(40), events(abort)},
		{flag + "1010" + ones(7) + "0" + hdlc.Encode("a"), events(abort, frame("a"))},
		{flag + lineBits("a") + "0" + ones(7) + "0" + lineBits("b") + flag, events(abort)},
		{flag + lineBits("a") + ones(7) + flag, events(abort)},
		{flag + lineBits("a") + ones(7) + flag + lineBits("b") + flag, events(abort, frame("b"))},
		{flag + lineBits("a") + ones(7) + "0" + flag + lineBits("b") + flag + ones(7), events(abort, frame("b"), abort)},
		{ones(7) + flag + ones(7), events(abort)},
		// A content is not carried over an abort, nor over a flag.
		{flag + "1010" + ones(7) + flag + "1010" + flag, events(abort, bad)},
		{flag + "1010" + flag + "1010" + flag, events(bad, bad)},
		// Other bytes are passed over, also within a row of 1s.
		{"01111110x0111y1110", nil},
		{"x01y11\x0011é10 " + lineBits("a") + "\n011\xff11110", events(frame("a"))},
		{flag + "111x111" + "1", events(abort)},
		{flag + "111x11" + "0" + "000" + flag, events(frame("\x1f"))},
		{"xyz 23", nil},
	} {
		holdFeed(t, x.line, x.want)
	}
}

// P3.2: a content that is just as long as it may be, and longer ones; stuffed 0s don't count.
func TestFeedOfLongContents(t *testing.T) {
	for _, octet := range []string{"a", "\x00", "\xff", "\x7e"} {
		for _, n := range []int{mostOctets - 1, mostOctets} {
			s := strings.Repeat(octet, n)
			holdFeed(t, hdlc.Encode(s), events(frame(s)))
		}
		for _, n := range []int{mostOctets + 1, mostOctets + 2, 2 * mostOctets, 10000} {
			s := strings.Repeat(octet, n)
			holdFeed(t, hdlc.Encode(s), events(bad))
			holdFeed(t, hdlc.Encode(s)+hdlc.Encode("b"), events(bad, frame("b")))
			holdFeed(t, flag+hdlc.Stuff(lineBits(s))+ones(7)+hdlc.Encode("b"), events(abort, frame("b")))
		}
	}
	for n := 8*mostOctets - 20; n < 8*mostOctets+40; n++ {
		want := events(bad)
		if n <= 8*mostOctets && n%8 == 0 {
			want = events(frame(strings.Repeat("\x00", n/8)))
		}
		holdFeed(t, flag+strings.Repeat("0", n)+flag, want)
	}
}

// P3.2: all short lines, behind a flag and behind none, against what the chapter's words say of a line as a whole.
func TestFeedOfAllShortLines(t *testing.T) {
	for length := range 17 {
		bitTexts(length, func(b string) {
			holdFeed(t, b, wordsFeed(b))
			holdFeed(t, flag+b, wordsFeed(flag+b))
			holdFeed(t, flag+b+flag, wordsFeed(flag+b+flag))
		})
		if t.Failed() {
			return // longer lines would fail by the thousand
		}
	}
}

// randomLine is made of what a decoder meets, with some noise.
func randomLine(r *rand.Rand) string {
	line := ""
	for range 1 + r.Intn(12) {
		switch r.Intn(8) {
		case 0, 1:
			line += hdlc.Encode(randomOctets(r, r.Intn(5)))
		case 2:
			line += flag
		case 3:
			line += ones(r.Intn(20))
		case 4:
			line += "x\x00é"
		case 5:
			line += hdlc.Stuff(lineBits(randomOctets(r, r.Intn(3))))
		case 6:
			line += "1111110"
		default:
			line += fmt.Sprintf("%b", r.Intn(1<<10))
		}
	}
	return line
}

func randomOctets(r *rand.Rand, n int) string {
	s := make([]byte, n)
	for i := range s {
		s[i] = byte(r.Intn(256))
		if r.Intn(3) == 0 {
			s[i] = 0xff
		}
	}
	return string(s)
}

// P3.2, P3.3: lines of all sorts, whole and in pieces.
func TestFeedOfManyLines(t *testing.T) {
	r := rand.New(rand.NewSource(921))
	for range 20000 {
		line := randomLine(r)
		want := wordsFeed(line)
		holdFeed(t, line, want)
		var pieces []string
		for rest := line; rest != ""; {
			n := r.Intn(len(rest) + 1)
			pieces = append(pieces, rest[:n])
			rest = rest[n:]
		}
		if got := feed(pieces...); !slices.Equal(got, want) {
			t.Fatalf("pieces %q: %s, want %s", pieces, show(got), show(want))
		}
	}
}

// P3.3: pieces cut at each one and each two places, and one by one; each event is met by the bit that ends it.
func TestFeedOfPieces(t *testing.T) {
	line := "101" + hdlc.Encode("\xff\x7e") + "1111110" + "11x010" + flag + "11" + ones(7) + "0" + hdlc.Encode("a") + ones(16)
	want := events(frame("\xff\x7e"), bad, abort, frame("a"), abort)
	holdFeed(t, line, want)
	for i := range len(line) + 1 {
		for j := i; j <= len(line); j++ {
			if got := feed(line[:i], line[i:j], "", line[j:]); !slices.Equal(got, want) {
				t.Fatalf("cut at %d and %d: %s, want %s", i, j, show(got), show(want))
			}
		}
	}
	d := hdlc.New()
	var met []hdlc.Event
	for i := range len(line) {
		met = append(met, d.Feed(line[i:i+1])...)
		if so := wordsFeed(line[:i+1]); !slices.Equal(met, so) {
			t.Fatalf("behind %d bytes: %s, want %s", i+1, show(met), show(so))
		}
	}
}

// P3.3: a frame that is as long as it may be, and one that is too long, bit by bit.
func TestFeedOfLongContentsInPieces(t *testing.T) {
	longest := strings.Repeat("\xff", mostOctets)
	for _, x := range []struct {
		octets string
		want   []hdlc.Event
	}{
		{longest, events(frame(longest), frame("b"))},
		{longest + "\x00", events(bad, frame("b"))},
	} {
		pieces := strings.Split(hdlc.Encode(x.octets)+hdlc.Encode("b"), "")
		if got := feed(pieces...); !slices.Equal(got, x.want) {
			t.Errorf("%d octets, bit by bit: %d events", len(x.octets), len(got))
		}
	}
}

// noise is bits without six 1s in a row, too few for a frame of four octets.
func noise(r *rand.Rand) string {
	b := ""
	for len(b) < r.Intn(21) {
		b += ones(r.Intn(6)) + "0"
	}
	return b + ones(r.Intn(6))
}

// P3.3: frames one behind the other, with noise and flags between, are met, each once, in order.
func TestFeedOfFramesInARow(t *testing.T) {
	r := rand.New(rand.NewSource(2921))
	for range 3000 {
		line := noise(r)
		var sent []hdlc.Event
		for range r.Intn(6) {
			s := randomOctets(r, 4+r.Intn(6))
			if r.Intn(50) == 0 {
				s = randomOctets(r, mostOctets)
			}
			sent = append(sent, frame(s))
			line += hdlc.Encode(s)
			for range r.Intn(3) {
				line += noise(r) + strings.Repeat(flag, 1+r.Intn(2))
			}
			if r.Intn(2) == 0 {
				line += noise(r)
			}
		}
		met := slices.DeleteFunc(feed(line), func(e hdlc.Event) bool { return len(e.Octets) < 4 })
		if !slices.Equal(met, sent) {
			t.Fatalf("of %q %s were met, want %s", line, show(met), show(sent))
		}
	}
}

// P3.3: of frames with nothing but flags between, nothing else is met; an empty one is nothing.
func TestFeedOfFramesAndFlags(t *testing.T) {
	line, want := "", events()
	for o := range 256 {
		s := string([]byte{byte(o)})
		line += hdlc.Encode(s) + strings.Repeat(flag, o%3) + hdlc.Encode("")
		want = append(want, frame(s))
	}
	holdFeed(t, line, want)
}

// P3.2: Idle, at fourteen, fifteen and more 1s, in pieces, with other bytes among them, hunting or not.
func TestIdle(t *testing.T) {
	for _, x := range []struct {
		line string
		want bool
	}{
		{"", false},
		{"1", false},
		{ones(7), false},
		{ones(14), false},
		{ones(15), true},
		{ones(16), true},
		{ones(1000), true},
		{"0" + ones(14), false},
		{"0" + ones(15), true},
		{ones(15) + "0", false},
		{ones(1000) + "0", false},
		{ones(15) + "0" + ones(14), false},
		{ones(15) + "0" + ones(15), true},
		{ones(7) + "0" + ones(8), false},
		{ones(7) + "x" + ones(8), true},
		{ones(15) + "x\x00é", true},
		{ones(14) + "xyz", false},
		{flag + ones(14), false},
		{flag + ones(15), true},
		{flag + lineBits("a") + ones(14), false},
		{flag + lineBits("a") + ones(15), true},
		{ones(15) + flag, false},
		{strings.Repeat("11111"+"0", 3), false},
	} {
		whole, single := hdlc.New(), hdlc.New()
		whole.Feed(x.line)
		for i := range len(x.line) {
			single.Feed(x.line[i : i+1])
		}
		if whole.Idle() != x.want || single.Idle() != x.want {
			t.Errorf("behind %q: idle %t, bit by bit %t, want %t", x.line, whole.Idle(), single.Idle(), x.want)
		}
	}
}

// P3.2: to ask whether the line is idle changes nothing.
func TestIdleChangesNothing(t *testing.T) {
	d := hdlc.New()
	line := hdlc.Encode("a") + ones(20)
	var met []hdlc.Event
	for i := range len(line) {
		met = append(met, d.Feed(line[i:i+1])...)
		if d.Idle() != d.Idle() {
			t.Errorf("behind %d bits Idle differs", i+1)
		}
	}
	if want := events(frame("a"), abort); !slices.Equal(met, want) {
		t.Errorf("%s, want %s", show(met), show(want))
	}
}

// P3.2: a nil decoder meets nothing and isn't idle; a new one is none.
func TestNilDecoder(t *testing.T) {
	var d *hdlc.Decoder
	if met := d.Feed(hdlc.Encode("a") + ones(20)); len(met) != 0 {
		t.Errorf("a nil decoder met %v", met)
	}
	if d.Idle() {
		t.Error("a nil decoder is idle")
	}
	if hdlc.New() == nil {
		t.Error("New() is nil")
	}
}

// P2: decoders have nothing to do with one another.
func TestDecodersApart(t *testing.T) {
	a, b := hdlc.New(), hdlc.New()
	line := hdlc.Encode("a")
	half := len(line) / 2
	a.Feed(line[:half])
	if met := b.Feed(line[half:]); len(met) != 0 {
		t.Errorf("one decoder met %v of what came to another", met)
	}
	b.Feed(ones(20))
	if a.Idle() || !b.Idle() {
		t.Errorf("idle %t, %t, want false, true", a.Idle(), b.Idle())
	}
	if met := a.Feed(line[half:]); !slices.Equal(met, events(frame("a"))) {
		t.Errorf("%v, want a frame", met)
	}
}

// Rule 4: what was answered stays as it was, and what is done to it changes no later answer.
func TestAnswersApart(t *testing.T) {
	d := hdlc.New()
	first := d.Feed(hdlc.Encode("first") + flag + "1010" + flag)
	second := d.Feed(hdlc.Encode("other"))
	if !slices.Equal(first, events(frame("first"), bad)) || !slices.Equal(second, events(frame("other"))) {
		t.Fatalf("%v, %v", first, second)
	}
	for i := range first {
		first[i] = abort
	}
	_ = append(first, abort)
	third := d.Feed(hdlc.Encode("third"))
	if !slices.Equal(second, events(frame("other"))) || !slices.Equal(third, events(frame("third"))) {
		t.Errorf("%v, %v", second, third)
	}
}

// The chapter's section 'Functions': the kinds' numbers.
func TestKinds(t *testing.T) {
	if hdlc.Frame != 0 || hdlc.Abort != 1 || hdlc.Bad != 2 {
		t.Errorf("kinds %d, %d, %d, want 0, 1, 2", hdlc.Frame, hdlc.Abort, hdlc.Bad)
	}
}
