package source_test

import (
	"fmt"
	"math"
	"slices"
	"strconv"
	"strings"
	"testing"

	"lapwing/api"
	"lapwing/source"
	"lapwing/teimsg"
)

// The automatic TEIs, the group's, and the greatest Ri, by numbers that were written out.
const (
	first    = 64
	last     = 126
	many     = 63
	all      = 127
	greatest = 65535
)

// others are numbers that are no automatic TEIs, some of which look like one if they are cut to fewer bits, or are taken modulo 64 or 128.
var others = []int{
	63, 62, 3, 1, 0, 127, 128, 129, 190, 191, 192, 254, 255, 256, 320, 382,
	-1, -2, -63, -64, -65, -126, -127, -128, -192,
	65536, 65600, 65662, -65536 + 64, math.MaxInt32, math.MinInt32, 1<<32 + 64, 1<<32 + 126, -1<<32 + 64,
	math.MaxInt - 1, math.MaxInt, math.MinInt, math.MinInt + 1, math.MinInt + 64, math.MinInt + 126,
}

// kinds and types are named here as steps and effects are written.
var (
	kinds = map[string]source.Kind{"given": source.Given, "freed": source.Freed, "start": source.Start, "stop": source.Stop}
	types = map[string]teimsg.Type{
		"Request": teimsg.Request, "Assigned": teimsg.Assigned, "Denied": teimsg.Denied, "CheckRequest": teimsg.CheckRequest,
		"CheckResponse": teimsg.CheckResponse, "Remove": teimsg.Remove, "Verify": teimsg.Verify,
	}
)

// message: one that is written as Type/Ri/Ai, the type by its name or by a number.
func message(word string) teimsg.Message {
	parts := strings.Split(word, "/")
	kind, ok := types[parts[0]]
	if !ok {
		kind = teimsg.Type(number(parts[0]))
	}
	return teimsg.Message{Type: kind, Ri: number(parts[1]), Ai: number(parts[2])}
}

func number(word string) int {
	n, err := strconv.Atoi(word)
	if err != nil {
		panic(err)
	}
	return n
}

// effects: those that are written as words with blanks between: a message that is sent, or given:64, freed:64, start:64, stop:64.
func effects(words string) []source.Effect {
	var out []source.Effect
	for _, word := range strings.Fields(words) {
		if strings.Contains(word, "/") {
			out = append(out, source.Effect{Kind: source.Send, Message: message(word)})
			continue
		}
		name, tei, _ := strings.Cut(word, ":")
		kind, ok := kinds[name]
		if !ok {
			panic(word)
		}
		out = append(out, source.Effect{Kind: kind, TEI: number(tei)})
	}
	return out
}

// do: a step, which is a message that comes, or check:64, audit, remove:64, over:64.
func do(s *source.Source, step string) ([]source.Effect, api.Errno) {
	if strings.Contains(step, "/") {
		return s.Message(message(step)), api.OK
	}
	name, tei, _ := strings.Cut(step, ":")
	switch name {
	case "check":
		return s.Check(number(tei))
	case "audit":
		return s.Audit(), api.OK
	case "remove":
		return s.Remove(number(tei))
	case "over":
		return s.Timeout(number(tei)), api.OK
	}
	panic(step)
}

func hold(t *testing.T, s *source.Source, step, want string) {
	t.Helper()
	if got, e := do(s, step); !slices.Equal(got, effects(want)) || e != api.OK {
		t.Fatalf("%s: %v, %v, want %q, %v", step, got, e, want, effects(want))
	}
}

// holdNothing: has each of these steps no effects?
func holdNothing(t *testing.T, s *source.Source, steps ...string) {
	t.Helper()
	for _, step := range steps {
		hold(t, s, step, "")
	}
}

// holdRefused: is the step refused with that error, and is all as it was?
func holdRefused(t *testing.T, s *source.Source, step string, want api.Errno) {
	t.Helper()
	before := has(s)
	if got, e := do(s, step); len(got) != 0 || e != want {
		t.Fatalf("%s: %v, %v, want none, %v", step, got, e, want)
	}
	holdHas(t, s, before)
}

// has: what a source tells of itself: its TEIs, behind them its checks, each with how often it asked and its answers.
func has(s *source.Source) string {
	words := strings.Trim(fmt.Sprint(s.List()), "[]")
	for _, c := range s.Checks() {
		words += fmt.Sprintf(" %d?%d,%d", c.TEI, c.Asked, c.Answers)
	}
	return strings.TrimSpace(words)
}

func holdHas(t *testing.T, s *source.Source, want string) {
	t.Helper()
	if got := has(s); got != want {
		t.Fatalf("it has %q, want %q", got, want)
	}
}

// at: words with a TEI in the place of each @.
func at(tei int, words string) string { return strings.ReplaceAll(words, "@", strconv.Itoa(tei)) }

// each: words, once for each of the TEIs from one to another.
func each(from, to int, words string) string {
	var out []string
	for tei := from; tei <= to; tei++ {
		out = append(out, at(tei, words))
	}
	return strings.Join(out, " ")
}

// behind: a source behind some steps, whatever they tell.
func behind(steps string) *source.Source {
	s := source.New()
	for _, step := range strings.Fields(steps) {
		do(s, step)
	}
	return s
}

// assigned: steps behind which the first so many TEIs are assigned.
func assigned(many int) string { return strings.Repeat(" Request/1/127", many) }

// eachTEI goes through the automatic TEIs.
func eachTEI(do func(tei int)) {
	for tei := first; tei <= last; tei++ {
		do(tei)
	}
}

// belowFirst: the TEIs that aren't automatic, and the two numbers ahead of them.
func belowFirst() []int {
	var out []int
	for n := -2; n < first; n++ {
		out = append(out, n)
	}
	return out
}

// afterwards are steps that tell whether two sources have anything that the other one hasn't.
func afterwards() []string {
	steps := strings.Fields("Request/9/127 Request/9/127 CheckResponse/0/65 over:66 over:64 check:65 Verify/0/64 CheckResponse/0/64 over:67 Request/9/127")
	for tei := first - 1; tei <= last+1; tei++ {
		steps = append(steps, at(tei, "Verify/3/@"), at(tei, "CheckResponse/2/@"), at(tei, "over:@"), at(tei, "check:@"))
	}
	return append(steps, strings.Fields("Request/9/127 audit Request/9/127 remove:64 remove:100 Request/9/127 over:65 over:65 audit")...)
}

// holdSame: do two sources answer alike from here on?
func holdSame(t *testing.T, a, b *source.Source, why string) {
	t.Helper()
	if one, two := has(a), has(b); one != two {
		t.Fatalf("%s: it has %q, want %q", why, one, two)
	}
	for _, step := range afterwards() {
		got, e := do(a, step)
		want, f := do(b, step)
		if !slices.Equal(got, want) || e != f || !slices.Equal(a.List(), b.List()) || !slices.Equal(a.Checks(), b.Checks()) {
			t.Fatalf("%s: then %s: %v, %v, %q, want %v, %v, %q", why, step, got, e, has(a), want, f, has(b))
		}
	}
}

// places are steps behind which a source has none, some, or all TEIs, with and without checks of each shape, once round its pool or not.
func places() []string {
	return []string{
		"",
		assigned(1),
		assigned(4),
		assigned(4) + " check:64 check:66",
		assigned(4) + " check:65 CheckResponse/0/65 Verify/0/66 over:66",
		assigned(5) + " audit CheckResponse/0/64 over:66 over:67 over:67 remove:68",
		assigned(9) + " audit over:64 over:64 CheckResponse/0/65 CheckResponse/0/65 CheckResponse/0/66 over:66 remove:70",
		assigned(62),
		assigned(63),
		assigned(63) + " audit",
		assigned(64),
		assigned(64) + " remove:100 over:90 over:90 CheckResponse/0/80 over:70",
		assigned(63) + " remove:64 remove:65" + assigned(1),
	}
}

// The chapter's first example.
func TestExampleRequest(t *testing.T) {
	s := source.New()
	hold(t, s, "Request/7/127", "Assigned/7/64 given:64")
	holdHas(t, s, "64")
}

// The chapter's second example.
func TestExampleCheck(t *testing.T) {
	s := behind("Request/7/127")
	hold(t, s, "check:64", "CheckRequest/0/64 start:64")
	hold(t, s, "CheckResponse/0/64", "")
	hold(t, s, "CheckResponse/0/64", "Remove/0/64 Remove/0/64 stop:64 freed:64")
	holdHas(t, s, "")
}

// Words of this layer: what is done is told by these kinds, in this order.
func TestKinds(t *testing.T) {
	for i, k := range []source.Kind{source.Send, source.Given, source.Freed, source.Start, source.Stop} {
		if int(k) != i {
			t.Errorf("kind %d is %d", i, int(k))
		}
	}
}

// What an effect doesn't have is 0: a message has no TEI of its own beside it, and nothing else has a message.
func TestEffects(t *testing.T) {
	s := source.New()
	got := s.Message(teimsg.Message{Type: teimsg.Request, Ri: 7, Ai: 127})
	if want := []source.Effect{{Message: teimsg.Message{Type: teimsg.Assigned, Ri: 7, Ai: 64}}, {Kind: source.Given, TEI: 64}}; !slices.Equal(got, want) {
		t.Errorf("%v, want %v", got, want)
	}
	got, _ = s.Check(64)
	if want := []source.Effect{{Message: teimsg.Message{Type: teimsg.CheckRequest, Ai: 64}}, {Kind: source.Start, TEI: 64}}; !slices.Equal(got, want) {
		t.Errorf("%v, want %v", got, want)
	}
	got, _ = s.Remove(64)
	removal := source.Effect{Message: teimsg.Message{Type: teimsg.Remove, Ai: 64}}
	if want := []source.Effect{removal, removal, {Kind: source.Stop, TEI: 64}, {Kind: source.Freed, TEI: 64}}; !slices.Equal(got, want) {
		t.Errorf("%v, want %v", got, want)
	}
}

// holdIdle: does it do nothing, whatever it is asked, and refuse with that error?
func holdIdle(t *testing.T, s *source.Source) {
	t.Helper()
	for _, step := range afterwards() {
		want := api.OK
		if strings.HasPrefix(step, "check") || strings.HasPrefix(step, "remove") {
			want = api.ErrNil
		}
		holdRefused(t, s, step, want)
	}
	for _, n := range others {
		holdRefused(t, s, at(n, "check:@"), api.ErrNil)
		holdRefused(t, s, at(n, "remove:@"), api.ErrNil)
		holdNothing(t, s, at(n, "over:@"), at(n, "@/0/64"), at(n, "Request/@/127"), at(n, "Request/0/@"), at(n, "CheckResponse/0/@"), at(n, "Verify/0/@"))
	}
	holdHas(t, s, "")
}

// What is said of a nil source, with good arguments and with wrong ones.
func TestNil(t *testing.T) { holdIdle(t, nil) }

// A source that New didn't make does as little as a nil one.
func TestOfNobody(t *testing.T) { holdIdle(t, &source.Source{}) }

// P15.1: a new source has assigned nothing, and checks nothing.
func TestNew(t *testing.T) {
	s := source.New()
	holdHas(t, s, "")
	eachTEI(func(tei int) {
		hold(t, s, at(tei, "CheckResponse/0/@"), at(tei, "Remove/0/@"))
		hold(t, s, at(tei, "Verify/0/@"), at(tei, "Remove/0/@"))
		holdRefused(t, s, at(tei, "check:@"), api.ErrNone)
		holdNothing(t, s, at(tei, "over:@"))
	})
	hold(t, s, "audit", "CheckRequest/0/127")
	holdHas(t, s, "")
}

// P15.1: Request is answered with its Ri, whatever that is.
func TestRequestRi(t *testing.T) {
	for _, ri := range []int{0, 1, 7, 63, 64, 127, 128, 255, 256, 5125, 32767, 32768, 65534, greatest} {
		s := source.New()
		hold(t, s, at(ri, "Request/@/127"), at(ri, "Assigned/@/64 given:64"))
		hold(t, s, at(ri, "Request/@/127"), at(ri, "Assigned/@/65 given:65"))
		hold(t, s, at(ri, "Request/@/80"), at(ri, "Denied/@/80"))
		full := behind(assigned(many))
		hold(t, full, at(ri, "Request/@/127"), at(ri, "Denied/@/127 CheckRequest/0/127 ")+each(first, last, "start:@"))
	}
}

// P15.1: Request with an Ai other than Broadcast is denied with that Ai, and nothing else happens, also if none is left or checks are under way.
func TestRequestOther(t *testing.T) {
	for _, place := range places() {
		a, b := behind(place), behind(place)
		for ai := range all {
			hold(t, a, at(ai, "Request/12345/@"), at(ai, "Denied/12345/@"))
			holdHas(t, a, has(b))
		}
		holdSame(t, a, b, place)
	}
}

// P15.1: as many Requests as there are automatic TEIs are answered with one each; one more is denied, and audits; so is each that follows.
func TestRequestAll(t *testing.T) {
	s := source.New()
	for i := range many {
		hold(t, s, at(i, "Request/@/127"), at(i, "Assigned/@/")+at(first+i, "@ given:@"))
		holdHas(t, s, each(first, first+i, "@"))
	}
	for ri := range 3 {
		hold(t, s, at(ri, "Request/@/127"), at(ri, "Denied/@/127 CheckRequest/0/127 ")+each(first, last, "start:@"))
		holdHas(t, s, each(first, last, "@")+" "+each(first, last, "@?1,0"))
		holdNothing(t, s, "CheckResponse/0/70", "CheckResponse/0/126")
	}
}

// P15.1: a Request that finds none audits as Audit does: checks under way begin anew.
func TestRequestAudits(t *testing.T) {
	for _, place := range []string{"", " check:64 check:100", " audit", " audit over:64 CheckResponse/0/65 over:66 CheckResponse/0/126", " check:126 over:126"} {
		a, b := behind(assigned(many)+place), behind(assigned(many)+place)
		hold(t, a, "Request/65535/127", "Denied/65535/127 CheckRequest/0/127 "+each(first, last, "start:@"))
		hold(t, b, "audit", "CheckRequest/0/127 "+each(first, last, "start:@"))
		holdSame(t, a, b, place)
	}
}

// P15.1: behind a TEI that was freed the pool goes on, and comes back to it when it has gone round.
func TestRequestGoesOn(t *testing.T) {
	for _, freeing := range []string{"remove:@", "check:@ over:@ over:@", "check:@ CheckResponse/0/@ CheckResponse/0/@"} {
		for tei := first; tei < last; tei++ {
			s := behind(assigned(tei-first+1) + " " + at(tei, freeing))
			holdHas(t, s, each(first, tei-1, "@"))
			for next := tei + 1; next <= last; next++ {
				hold(t, s, "Request/7/127", at(next, "Assigned/7/@ given:@"))
			}
			hold(t, s, "Request/7/127", at(tei, "Assigned/7/@ given:@"))
			hold(t, s, "Request/8/127", "Denied/8/127 CheckRequest/0/127 "+each(first, last, "start:@"))
		}
	}
}

// P15.1: one that was freed of all that are assigned is given again, whichever it is.
func TestRequestLastFree(t *testing.T) {
	eachTEI(func(tei int) {
		s := behind(assigned(many) + at(tei, " remove:@"))
		hold(t, s, "Request/0/127", at(tei, "Assigned/0/@ given:@"))
		hold(t, s, "Request/0/127", "Denied/0/127 CheckRequest/0/127 "+each(first, last, "start:@"))
	})
}

// P15.1: a TEI that is given again is under no check of the time before.
func TestRequestAnew(t *testing.T) {
	for _, freeing := range []string{"remove:64", "over:64 over:64", "CheckResponse/0/64 CheckResponse/0/64"} {
		s := behind(assigned(many) + " check:64 " + freeing + " Request/1/127")
		holdHas(t, s, each(first, last, "@"))
		holdNothing(t, s, "over:64", "CheckResponse/0/64", "CheckResponse/0/64", "CheckResponse/0/64")
		hold(t, s, "Verify/0/64", "CheckRequest/0/64 start:64")
	}
}

// badMessages are those that layer 7 doesn't put: by their types, their Ris and their Ais, alone and together.
func badMessages() []string {
	types := []string{"Request", "Assigned", "Denied", "CheckRequest", "CheckResponse", "Remove", "Verify"}
	least, most := strconv.Itoa(math.MinInt), strconv.Itoa(math.MaxInt)
	var out []string
	for _, bad := range []string{"0", "8", "9", "-1", "-7", "-255", "257", "261", "263", "65541", "4294967297", least, most} {
		for _, ai := range []string{"127", "64", "65", "70", "3"} {
			out = append(out, bad+"/0/"+ai)
		}
	}
	for _, kind := range types {
		for _, ri := range []string{"-1", "-2", "-65536", "65536", "65537", "131072", "4294967296", least, most} {
			out = append(out, kind+"/"+ri+"/127", kind+"/"+ri+"/64", kind+"/"+ri+"/65", kind+"/"+ri+"/99", kind+"/"+ri+"/128")
		}
		for _, ai := range []string{"-1", "-64", "-63", "-1024", "128", "192", "193", "255", "256", "320", "65600", "4294967360", least, most} {
			out = append(out, kind+"/0/"+ai, kind+"/65535/"+ai)
		}
	}
	return out
}

// P15.1: a message of which layer 7's Put has an error does nothing, and changes nothing.
func TestBadMessages(t *testing.T) {
	for _, place := range places() {
		a, b := behind(place), behind(place)
		for _, bad := range badMessages() {
			if _, e := teimsg.Put(message(bad)); e == api.OK {
				t.Fatalf("%s isn't bad", bad)
			}
			holdNothing(t, a, bad)
			holdHas(t, a, has(b))
		}
		holdSame(t, a, b, place)
	}
}

// P15.1: messages that the network itself sends do nothing, and change nothing.
func TestNetworkMessages(t *testing.T) {
	for _, place := range places() {
		a, b := behind(place), behind(place)
		for _, kind := range []string{"Assigned", "Denied", "CheckRequest", "Remove"} {
			for ai := range all + 1 {
				holdNothing(t, a, at(ai, kind+"/0/@"), at(ai, kind+"/65535/@"))
			}
		}
		holdSame(t, a, b, place)
	}
}

// P15.1: CheckResponse of a TEI under a check is one answer more; the second one removes the TEI; those that follow are of one that isn't assigned.
func TestCheckResponse(t *testing.T) {
	eachTEI(func(tei int) {
		s := behind(assigned(many) + at(tei, " check:@"))
		left := strings.TrimSpace(each(first, tei-1, "@") + " " + each(tei+1, last, "@"))
		holdHas(t, s, each(first, last, "@")+at(tei, " @?1,0"))
		holdNothing(t, s, at(tei, "CheckResponse/0/@"))
		holdHas(t, s, each(first, last, "@")+at(tei, " @?1,1"))
		hold(t, s, at(tei, "CheckResponse/0/@"), at(tei, "Remove/0/@ Remove/0/@ stop:@ freed:@"))
		holdHas(t, s, left)
		for range 3 {
			hold(t, s, at(tei, "CheckResponse/0/@"), at(tei, "Remove/0/@"))
			holdHas(t, s, left)
		}
	})
}

// P15.1: the Ri of an answer counts for nothing, and none is told: Ri is 0.
func TestCheckResponseRi(t *testing.T) {
	s := behind(assigned(2) + " check:64")
	holdNothing(t, s, "CheckResponse/65535/64")
	hold(t, s, "CheckResponse/7/64", "Remove/0/64 Remove/0/64 stop:64 freed:64")
	hold(t, s, "CheckResponse/65535/64", "Remove/0/64")
	hold(t, s, "Verify/65535/64", "Remove/0/64")
	hold(t, s, "Verify/65535/65", "CheckRequest/0/65 start:65")
}

// P15.1: CheckResponse behind the second asking counts as behind the first.
func TestCheckResponseSecond(t *testing.T) {
	s := behind(assigned(1) + " check:64 over:64")
	holdHas(t, s, "64 64?2,0")
	holdNothing(t, s, "CheckResponse/0/64")
	holdHas(t, s, "64 64?2,1")
	hold(t, s, "CheckResponse/0/64", "Remove/0/64 Remove/0/64 stop:64 freed:64")
	holdHas(t, s, "")
}

// P15.1: CheckResponse of one TEI isn't an answer of another one.
func TestCheckResponseOfOthers(t *testing.T) {
	s := behind(assigned(4) + " audit")
	holdNothing(t, s, "CheckResponse/0/64", "CheckResponse/0/66", "CheckResponse/0/67")
	holdHas(t, s, "64 65 66 67 64?1,1 65?1,0 66?1,1 67?1,1")
	hold(t, s, "CheckResponse/0/66", "Remove/0/66 Remove/0/66 stop:66 freed:66")
	holdHas(t, s, "64 65 67 64?1,1 65?1,0 67?1,1")
}

// P15.1: CheckResponse of one that is assigned and under no check, of one that isn't automatic, and of Broadcast, does nothing and changes nothing.
func TestCheckResponseNothing(t *testing.T) {
	for _, place := range []string{"", " check:66", " check:64 CheckResponse/0/64 over:64"} {
		a, b := behind(assigned(3)+place), behind(assigned(3)+place)
		for range 3 {
			holdNothing(t, a, "CheckResponse/0/64", "CheckResponse/0/65", "CheckResponse/9/127")
			for ai := range first {
				holdNothing(t, a, at(ai, "CheckResponse/0/@"))
			}
		}
		holdSame(t, a, b, place)
	}
}

// P15.1: CheckResponse and Verify of an automatic TEI that isn't assigned are answered with one Remove, and change nothing.
func TestOfUnassigned(t *testing.T) {
	for _, kind := range []string{"CheckResponse", "Verify"} {
		for n := range many {
			a, b := behind(assigned(n)+" audit"), behind(assigned(n)+" audit")
			for tei := first + n; tei <= last; tei++ {
				hold(t, a, at(tei, kind+"/0/@"), at(tei, "Remove/0/@"))
				hold(t, a, at(tei, kind+"/258/@"), at(tei, "Remove/0/@"))
			}
			holdSame(t, a, b, kind)
		}
	}
}

// P15.1: Verify of one that is assigned and under no check checks it, as Check does.
func TestVerify(t *testing.T) {
	eachTEI(func(tei int) {
		a, b := behind(assigned(many)), behind(assigned(many))
		hold(t, a, at(tei, "Verify/77/@"), at(tei, "CheckRequest/0/@ start:@"))
		hold(t, b, at(tei, "check:@"), at(tei, "CheckRequest/0/@ start:@"))
		holdHas(t, a, each(first, last, "@")+at(tei, " @?1,0"))
		holdSame(t, a, b, at(tei, "@"))
	})
}

// P15.1: Verify of one under a check, of one that isn't automatic, and of Broadcast, does nothing and changes nothing, whatever the check has.
func TestVerifyNothing(t *testing.T) {
	for _, place := range []string{" check:64", " check:64 CheckResponse/0/64", " check:64 over:64", " check:64 over:64 CheckResponse/0/64", " audit"} {
		a, b := behind(assigned(2)+place), behind(assigned(2)+place)
		for range 3 {
			holdNothing(t, a, "Verify/0/64", "Verify/7/64", "Verify/0/127")
			for ai := range first {
				holdNothing(t, a, at(ai, "Verify/0/@"))
			}
		}
		holdSame(t, a, b, place)
	}
}

// P15.2: Check of each that is assigned asks, without answers, and leaves the others.
func TestCheck(t *testing.T) {
	s := behind(assigned(many))
	for tei := last; tei >= first; tei-- {
		hold(t, s, at(tei, "check:@"), at(tei, "CheckRequest/0/@ start:@"))
		holdHas(t, s, each(first, last, "@")+" "+each(tei, last, "@?1,0"))
	}
}

// P15.2: a TEI may be checked again when a check of it is done.
func TestCheckAgain(t *testing.T) {
	s := behind(assigned(2))
	for range 3 {
		hold(t, s, "check:64", "CheckRequest/0/64 start:64")
		holdHas(t, s, "64 65 64?1,0")
		holdNothing(t, s, "CheckResponse/0/64", "over:64")
		holdHas(t, s, "64 65")
	}
}

// P15.2: Check of one that isn't assigned is ErrNone: of automatic ones, of each other number, of those that were freed.
func TestCheckNone(t *testing.T) {
	for _, place := range places() {
		a, b := behind(place), behind(place)
		for _, n := range others {
			holdRefused(t, a, at(n, "check:@"), api.ErrNone)
		}
		eachTEI(func(tei int) {
			if !slices.Contains(a.List(), tei) {
				holdRefused(t, a, at(tei, "check:@"), api.ErrNone)
			}
		})
		holdSame(t, a, b, place)
	}
}

// P15.2: Check of one under a check is ErrThere, however the check came to be, and leaves how often it asked, and its answers.
func TestCheckThere(t *testing.T) {
	for _, place := range []string{" check:64", " Verify/0/64", " audit", " check:64 CheckResponse/0/64", " check:64 over:64", " audit over:64 CheckResponse/0/64"} {
		a, b := behind(assigned(3)+place), behind(assigned(3)+place)
		for range 3 {
			holdRefused(t, a, "check:64", api.ErrThere)
		}
		holdSame(t, a, b, place)
	}
}

// P15.2: Audit of none, of each number of TEIs, of all: one CheckRequest, and a check of each, rising.
func TestAudit(t *testing.T) {
	for n := range many + 1 {
		s := behind(assigned(n))
		hold(t, s, "audit", "CheckRequest/0/127 "+each(first, first+n-1, "start:@"))
		holdHas(t, s, strings.TrimSpace(each(first, first+n-1, "@")+" "+each(first, first+n-1, "@?1,0")))
	}
}

// P15.2: Audit of some, which were given out of order: rising all the same.
func TestAuditSome(t *testing.T) {
	s := behind(assigned(many) + " remove:64 remove:65 remove:66 remove:100 remove:126" + assigned(2))
	hold(t, s, "audit", "CheckRequest/0/127 "+each(64, 65, "start:@")+" "+each(67, 99, "start:@")+" "+each(101, 125, "start:@"))
	holdHas(t, s, each(64, 65, "@")+" "+each(67, 99, "@")+" "+each(101, 125, "@")+" "+each(64, 65, "@?1,0")+" "+each(67, 99, "@?1,0")+" "+each(101, 125, "@?1,0"))
}

// P15.2: Audit while checks are under way: each begins anew, asked once, without answers.
func TestAuditAnew(t *testing.T) {
	s := behind(assigned(6) + " check:65 CheckResponse/0/65 check:66 over:66 check:67 over:67 CheckResponse/0/67 check:68")
	holdHas(t, s, "64 65 66 67 68 69 65?1,1 66?2,0 67?2,1 68?1,0")
	for range 2 {
		hold(t, s, "audit", "CheckRequest/0/127 "+each(64, 69, "start:@"))
		holdHas(t, s, "64 65 66 67 68 69 "+each(64, 69, "@?1,0"))
		holdNothing(t, s, "CheckResponse/0/65", "CheckResponse/0/67")
		hold(t, s, "over:66", "CheckRequest/0/66 start:66")
	}
}

// P15.2: an answer behind an audit is the first one, also if one came ahead of it; a check that asked twice asks again.
func TestAuditForgets(t *testing.T) {
	s := behind(assigned(2) + " check:64 CheckResponse/0/64 check:65 over:65 audit")
	holdNothing(t, s, "CheckResponse/0/64", "over:64")
	hold(t, s, "over:65", "CheckRequest/0/65 start:65")
	hold(t, s, "over:65", "freed:65")
	holdHas(t, s, "64")
}

// P15.2: Remove of each automatic TEI: not assigned, assigned, under a check that asked once or twice, with and without an answer.
func TestRemove(t *testing.T) {
	eachTEI(func(tei int) {
		for _, x := range []struct{ steps, told string }{
			{"", "Remove/0/@ Remove/0/@ freed:@"},
			{"check:@", "Remove/0/@ Remove/0/@ stop:@ freed:@"},
			{"check:@ CheckResponse/0/@", "Remove/0/@ Remove/0/@ stop:@ freed:@"},
			{"check:@ over:@", "Remove/0/@ Remove/0/@ stop:@ freed:@"},
			{"check:@ over:@ CheckResponse/0/@", "Remove/0/@ Remove/0/@ stop:@ freed:@"},
			{"check:@ CheckResponse/0/@ over:@", "Remove/0/@ Remove/0/@ freed:@"},
			{"check:@ over:@ over:@", "Remove/0/@ Remove/0/@"},
			{"remove:@", "Remove/0/@ Remove/0/@"},
		} {
			s := behind(assigned(many) + " " + at(tei, x.steps))
			hold(t, s, at(tei, "remove:@"), at(tei, x.told))
			if slices.Contains(s.List(), tei) || len(s.List()) != many-1 || len(s.Checks()) != 0 {
				t.Fatalf("%s: it has %q", x.steps, has(s))
			}
			for range 2 {
				hold(t, s, at(tei, "remove:@"), at(tei, "Remove/0/@ Remove/0/@"))
			}
		}
		hold(t, source.New(), at(tei, "remove:@"), at(tei, "Remove/0/@ Remove/0/@"))
	})
}

// P15.2: Remove leaves the other TEIs, their checks, and where the pool goes on.
func TestRemoveOne(t *testing.T) {
	s := behind(assigned(4) + " audit CheckResponse/0/64 over:66")
	hold(t, s, "remove:65", "Remove/0/65 Remove/0/65 stop:65 freed:65")
	holdHas(t, s, "64 66 67 64?1,1 66?2,0 67?1,0")
	hold(t, s, "remove:90", "Remove/0/90 Remove/0/90")
	holdHas(t, s, "64 66 67 64?1,1 66?2,0 67?1,0")
	hold(t, s, "Request/1/127", "Assigned/1/68 given:68")
}

// P15.2: Remove of one that isn't automatic is ErrArg, and changes nothing.
func TestRemoveOthers(t *testing.T) {
	for _, place := range places() {
		a, b := behind(place), behind(place)
		for _, n := range append(belowFirst(), others...) {
			holdRefused(t, a, at(n, "remove:@"), api.ErrArg)
		}
		holdSame(t, a, b, place)
	}
}

// P15.3: Timeout of what is under no check does nothing and changes nothing: TEIs of each kind, and numbers that are none.
func TestTimeoutNothing(t *testing.T) {
	for _, place := range places() {
		a, b := behind(place), behind(place)
		under := map[int]int{}
		for _, c := range a.Checks() {
			under[c.TEI] = 1
		}
		numbers := slices.Clone(others)
		eachTEI(func(tei int) { numbers = append(numbers, tei) })
		for _, n := range append(numbers, belowFirst()...) {
			if under[n] == 0 {
				holdNothing(t, a, at(n, "over:@"), at(n, "over:@"))
			}
		}
		holdSame(t, a, b, place)
	}
}

// P15.3: with an answer the check is done, behind the first asking and behind the second; the TEI stays assigned.
func TestTimeoutAnswered(t *testing.T) {
	eachTEI(func(tei int) {
		for _, steps := range []string{" check:@ CheckResponse/0/@", " check:@ over:@ CheckResponse/0/@", " Verify/0/@ CheckResponse/0/@", " audit CheckResponse/0/@"} {
			s := behind(assigned(many) + at(tei, steps))
			checks := len(s.Checks())
			holdNothing(t, s, at(tei, "over:@"))
			if len(s.Checks()) != checks-1 || len(s.List()) != many {
				t.Fatalf("%s: it has %q", at(tei, steps), has(s))
			}
			holdNothing(t, s, at(tei, "over:@"), at(tei, "CheckResponse/0/@"), at(tei, "CheckResponse/0/@"))
			hold(t, s, at(tei, "check:@"), at(tei, "CheckRequest/0/@ start:@"))
		}
	})
}

// P15.3: without an answer it asks a second time, and then frees the TEI; no message is sent with that, and no timer stopped.
func TestTimeoutUnanswered(t *testing.T) {
	eachTEI(func(tei int) {
		for _, steps := range []string{"check:@", "Verify/0/@", "audit"} {
			s := behind(assigned(tei-first+1) + " " + at(tei, steps))
			ahead := len(s.Checks()) - 1
			hold(t, s, at(tei, "over:@"), at(tei, "CheckRequest/0/@ start:@"))
			if c := s.Checks(); len(c) != ahead+1 || c[ahead] != (source.Check{TEI: tei, Asked: 2}) {
				t.Fatalf("%s: it has %q", at(tei, steps), has(s))
			}
			hold(t, s, at(tei, "over:@"), at(tei, "freed:@"))
			if len(s.Checks()) != ahead || len(s.List()) != tei-first {
				t.Fatalf("%s: it has %q", at(tei, steps), has(s))
			}
			holdNothing(t, s, at(tei, "over:@"))
			hold(t, s, at(tei, "CheckResponse/0/@"), at(tei, "Remove/0/@"))
			holdRefused(t, s, at(tei, "check:@"), api.ErrNone)
		}
	})
}

// P15.3: Timeout of one leaves the checks of the others.
func TestTimeoutOne(t *testing.T) {
	s := behind(assigned(4) + " audit CheckResponse/0/67")
	hold(t, s, "over:65", "CheckRequest/0/65 start:65")
	holdHas(t, s, "64 65 66 67 64?1,0 65?2,0 66?1,0 67?1,1")
	hold(t, s, "over:65", "freed:65")
	holdHas(t, s, "64 66 67 64?1,0 66?1,0 67?1,1")
	holdNothing(t, s, "over:67")
	holdHas(t, s, "64 66 67 64?1,0 66?1,0")
}

// P15.4: List and Checks rise, whatever the order was in which TEIs were given and checks began.
func TestRising(t *testing.T) {
	s := behind(assigned(many))
	var begun []int
	for i := range many {
		tei := first + (40+i*5)%many // 5 and 63 have no divisor in common
		hold(t, s, at(tei, "check:@"), at(tei, "CheckRequest/0/@ start:@"))
		begun = append(begun, tei)
		slices.Sort(begun)
		var want []source.Check
		for _, x := range begun {
			want = append(want, source.Check{TEI: x, Asked: 1})
		}
		if got := s.Checks(); !slices.Equal(got, want) {
			t.Fatalf("Checks() = %v, want %v", got, want)
		}
	}
	round := behind(assigned(many) + " remove:70 remove:64 remove:126 Request/1/127 Request/1/127")
	holdHas(t, round, each(64, 125, "@"))
}

// P15.4: List and Checks change nothing.
func TestListAgain(t *testing.T) {
	for _, place := range places() {
		a, b := behind(place), behind(place)
		want := has(a)
		for range 5 {
			holdHas(t, a, want)
		}
		holdSame(t, a, b, place)
	}
}

// spoil: its caller writes over a list that was told, and behind it.
func spoil[T any](list []T, bad T) {
	_ = append(list, bad, bad, bad)
	for i := range list[:cap(list)] {
		list[:cap(list)][i] = bad
	}
}

// Rule 4: what the caller does with a list that was told changes neither the source nor another list.
func TestListsChanged(t *testing.T) {
	for _, place := range places() {
		a, b := behind(place), behind(place)
		list, checks := a.List(), a.Checks()
		spoil(a.List(), 99)
		spoil(a.Checks(), source.Check{TEI: 99, Asked: 2, Answers: 1})
		if !slices.Equal(list, b.List()) || !slices.Equal(checks, b.Checks()) {
			t.Fatalf("lists told ahead became %v, %v, want %v, %v", list, checks, b.List(), b.Checks())
		}
		holdSame(t, a, b, place)
		if spoilt := behind(place); !slices.Equal(list, spoilt.List()) || !slices.Equal(checks, spoilt.Checks()) {
			t.Fatalf("lists became %v, %v by what the source did later", list, checks)
		}
	}
}

// Rule 4: what the caller does with effects that were told changes neither the source nor effects that are told later.
func TestEffectsChanged(t *testing.T) {
	bad := source.Effect{Kind: source.Stop, Message: teimsg.Message{Type: teimsg.Verify, Ri: 3, Ai: 99}, TEI: 99}
	a, b := source.New(), source.New()
	for round := range 4 {
		var kept, want [][]source.Effect
		for _, step := range append(strings.Fields(assigned(many+1)), afterwards()...) {
			got, _ := do(a, step)
			again, _ := do(b, step)
			if !slices.Equal(got, again) {
				t.Fatalf("round %d: %s: %v, want %v", round, step, got, again)
			}
			kept, want = append(kept, again), append(want, slices.Clone(again))
			spoil(got, bad)
		}
		for i := range kept {
			if !slices.Equal(kept[i], want[i]) {
				t.Fatalf("effects became %v, want %v", kept[i], want[i])
			}
		}
	}
}

// P2: two sources side by side, and one that is made while others are at work.
func TestSideBySide(t *testing.T) {
	a, b := behind(assigned(2)), source.New()
	holdHas(t, b, "")
	hold(t, b, "Request/1/127", "Assigned/1/64 given:64")
	hold(t, a, "check:64", "CheckRequest/0/64 start:64")
	holdHas(t, b, "64")
	holdNothing(t, b, "CheckResponse/0/64", "CheckResponse/0/64", "over:64")
	holdHas(t, a, "64 65 64?1,0")
	c := behind(assigned(many) + " audit")
	holdHas(t, a, "64 65 64?1,0")
	hold(t, b, "remove:64", "Remove/0/64 Remove/0/64 freed:64")
	hold(t, b, "Request/2/127", "Assigned/2/65 given:65")
	hold(t, a, "Request/2/127", "Assigned/2/66 given:66")
	holdHas(t, a, "64 65 66 64?1,0")
	holdHas(t, b, "65")
	holdHas(t, c, each(first, last, "@")+" "+each(first, last, "@?1,0"))
}
