package user_test

import (
	"fmt"
	"math"
	"slices"
	"strconv"
	"strings"
	"testing"

	"lapwing/api"
	"lapwing/draw"
	"lapwing/teimsg"
	"lapwing/user"
)

// The automatic TEIs, the group's, the greatest Ri, and the most tries, by numbers that were written out.
const (
	first    = 64
	last     = 126
	all      = 127
	greatest = 65535
	most     = 32
)

// A bench's source tells so many numbers at first, of which the first one is told as 1001.
const (
	told  = 4000
	ahead = 1000
)

// kinds and types are named here as effects and steps are written.
var (
	kinds = map[string]user.Kind{"got": user.Got, "lost": user.Lost, "failed": user.Failed, "start": user.Start, "stop": user.Stop}
	types = map[string]teimsg.Type{
		"Request": teimsg.Request, "Assigned": teimsg.Assigned, "Denied": teimsg.Denied, "CheckRequest": teimsg.CheckRequest,
		"CheckResponse": teimsg.CheckResponse, "Remove": teimsg.Remove, "Verify": teimsg.Verify,
	}
)

// bench is a user and the source that it draws from: 1001, 1002, and so on.
type bench struct {
	user  *user.User
	drawn *draw.Source
}

func newBench(n202 int) bench {
	numbers := make([]int, told)
	for i := range numbers {
		numbers[i] = ahead + 1 + i
	}
	d := draw.New(16, numbers...)
	return bench{user.New(n202, d), d}
}

// behind: a bench of a user with that n202, behind some steps, whatever they tell.
func behind(n202 int, steps string) bench {
	b := newBench(n202)
	for _, step := range strings.Fields(steps) {
		do(b.user, step)
	}
	return b
}

// draws: how many numbers the source has told.
func (b bench) draws() int { return told - b.drawn.Left() }

// message: one that is written as Type/Ri/Ai, the type by its name or by a number.
func message(word string) teimsg.Message {
	parts := strings.Split(word, "/")
	kind, ok := types[parts[0]]
	if !ok {
		kind = teimsg.Type(number(parts[0]))
	}
	return teimsg.Message{Type: kind, Ri: number(parts[1]), Ai: number(parts[2])}
}

func number(word string) int {
	n, err := strconv.Atoi(word)
	if err != nil {
		panic(err)
	}
	return n
}

// effects: those that are written as words with blanks between: a message that is sent, or got:64, lost:64, failed, start, stop.
func effects(words string) []user.Effect {
	var out []user.Effect
	for _, word := range strings.Fields(words) {
		if strings.Contains(word, "/") {
			out = append(out, user.Effect{Kind: user.Send, Message: message(word)})
			continue
		}
		name, tei, of := strings.Cut(word, ":")
		kind, ok := kinds[name]
		if !ok {
			panic(word)
		}
		effect := user.Effect{Kind: kind}
		if of {
			effect.TEI = number(tei)
		}
		out = append(out, effect)
	}
	return out
}

// do: a step, which is a message that comes, or want, verify, drop, over.
func do(u *user.User, step string) ([]user.Effect, api.Errno) {
	if strings.Contains(step, "/") {
		return u.Message(message(step)), api.OK
	}
	switch step {
	case "want":
		return u.Want()
	case "verify":
		return u.Verify()
	case "drop":
		return u.Drop()
	case "over":
		return u.Timeout(), api.OK
	}
	panic(step)
}

func hold(t *testing.T, u *user.User, step, want string) {
	t.Helper()
	if got, e := do(u, step); !slices.Equal(got, effects(want)) || e != api.OK {
		t.Fatalf("%s: %v, %v, want %q, %v", step, got, e, want, effects(want))
	}
}

// holdNothing: has each of these steps no effects, is no number drawn for it, and is all as it was?
func holdNothing(t *testing.T, b bench, steps ...string) {
	t.Helper()
	has, draws := b.user.View(), b.draws()
	for _, step := range steps {
		hold(t, b.user, step, "")
		if got := b.user.View(); got != has || b.draws() != draws {
			t.Fatalf("%s: it has %+v behind %d numbers, want %+v behind %d", step, got, b.draws(), has, draws)
		}
	}
}

// holdRefused: is the step refused with that error, is no number drawn for it, and is all as it was?
func holdRefused(t *testing.T, b bench, step string, want api.Errno) {
	t.Helper()
	has, draws := b.user.View(), b.draws()
	if got, e := do(b.user, step); len(got) != 0 || e != want {
		t.Fatalf("%s: %v, %v, want none, %v", step, got, e, want)
	}
	if got := b.user.View(); got != has || b.draws() != draws {
		t.Fatalf("%s: it has %+v behind %d numbers, want %+v behind %d", step, got, b.draws(), has, draws)
	}
}

// neither, holding and asking are what a user has.
func neither() user.View { return user.View{TEI: -1} }

func holding(tei int) user.View { return user.View{TEI: tei} }

func asking(ri, tries int) user.View {
	return user.View{TEI: -1, Asking: true, Ri: ri, Tries: tries}
}

func holdHas(t *testing.T, u *user.User, want user.View) {
	t.Helper()
	for range 2 {
		if got := u.View(); got != want {
			t.Fatalf("it has %+v, want %+v", got, want)
		}
	}
}

func holdDraws(t *testing.T, b bench, want int) {
	t.Helper()
	if got := b.draws(); got != want {
		t.Fatalf("the source told %d numbers, want %d", got, want)
	}
}

// at: words with a number in the place of each @.
func at(n int, words string) string { return strings.ReplaceAll(words, "@", strconv.Itoa(n)) }

// eachTEI goes through the automatic TEIs.
func eachTEI(do func(tei int)) {
	for tei := first; tei <= last; tei++ {
		do(tei)
	}
}

// others are the Ais that are no automatic TEIs.
func others() []int {
	var out []int
	for ai := range first {
		out = append(out, ai)
	}
	return append(out, all)
}

// places are steps behind which a user has a TEI, asks, or has neither, for the first time or not.
func places() []string {
	return []string{
		"",
		"want",
		"want over",
		"want over over",
		"want over over over",
		"want drop",
		"want over drop",
		"want Assigned/1001/64",
		"want Assigned/1001/126",
		"want over Assigned/1002/80",
		"want Assigned/1001/64 drop",
		"want Assigned/1001/64 Remove/0/64",
		"want Assigned/1001/64 Assigned/9/64",
		"want Assigned/1001/64 CheckRequest/0/127",
		"want Assigned/1001/64 drop want",
		"want over over over want",
		"want Assigned/1001/64 drop want Assigned/1002/65 CheckRequest/0/65",
	}
}

// withTEI, whileAsking and withNeither are those of the places behind which a user is so, by what it tells.
func withTEI() []string { return placesOf(func(v user.View) bool { return v.TEI != -1 }) }

func whileAsking() []string { return placesOf(func(v user.View) bool { return v.Asking }) }

func withNeither() []string {
	return placesOf(func(v user.View) bool { return v.TEI == -1 && !v.Asking })
}

func placesOf(such func(user.View) bool) []string {
	var out []string
	for _, place := range places() {
		if such(behind(3, place).user.View()) {
			out = append(out, place)
		}
	}
	return out
}

// afterwards are steps that tell whether two users have anything that the other one hasn't.
func afterwards() []string {
	steps := []string{"verify", "CheckRequest/0/127", "over", "Assigned/1001/70", "Assigned/1002/71", "drop", "want", "over", "over", "over", "over", "want"}
	for ri := ahead; ri < ahead+40; ri++ {
		steps = append(steps, at(ri, "Assigned/@/77"))
	}
	return append(steps, "CheckRequest/0/77", "CheckRequest/0/127", "verify", "Remove/0/127", "want", "drop", "want", "over")
}

// holdSame: do two users answer alike from here on, and draw alike?
func holdSame(t *testing.T, a, b bench, why string) {
	t.Helper()
	if a.user.View() != b.user.View() || a.draws() != b.draws() {
		t.Fatalf("%s: it has %+v behind %d numbers, want %+v behind %d", why, a.user.View(), a.draws(), b.user.View(), b.draws())
	}
	for _, step := range afterwards() {
		got, e := do(a.user, step)
		want, f := do(b.user, step)
		if !slices.Equal(got, want) || e != f || a.user.View() != b.user.View() || a.draws() != b.draws() {
			t.Fatalf("%s: then %s: %v, %v, %+v, want %v, %v, %+v", why, step, got, e, a.user.View(), want, f, b.user.View())
		}
	}
}

// The chapter's example.
func TestExample(t *testing.T) {
	u := user.New(3, draw.New(0, 7))
	hold(t, u, "want", "Request/7/127 start")
	hold(t, u, "Assigned/7/64", "stop got:64")
	holdHas(t, u, holding(64))
}

// The document's third example: it takes the TEI that is told with its number, 5125, and no other.
func TestExampleThree(t *testing.T) {
	u := user.New(3, draw.New(0))
	hold(t, u, "want", "Request/5125/127 start")
	for _, other := range []string{"Assigned/5124/64", "Assigned/5126/65", "Assigned/1300/66", "Assigned/0/67"} {
		hold(t, u, other, "")
	}
	hold(t, u, "Assigned/5125/68", "stop got:68")
}

// Words of this layer: what is done is told by these kinds, in this order.
func TestKinds(t *testing.T) {
	for i, k := range []user.Kind{user.Send, user.Got, user.Lost, user.Failed, user.Start, user.Stop} {
		if int(k) != i {
			t.Errorf("kind %d is %d", i, int(k))
		}
	}
}

// What an effect doesn't have is 0: a message that is sent, Failed, Start and Stop have no TEI, and nothing else has a message.
func TestEffects(t *testing.T) {
	u := user.New(1, draw.New(0, 7, 8, 9, 10))
	holdEffects := func(step string, want ...user.Effect) {
		t.Helper()
		if got, _ := do(u, step); !slices.Equal(got, want) {
			t.Fatalf("%s: %+v, want %+v", step, got, want)
		}
	}
	holdEffects("want", user.Effect{Message: teimsg.Message{Type: teimsg.Request, Ri: 7, Ai: 127}}, user.Effect{Kind: user.Start})
	holdEffects("over", user.Effect{Kind: user.Failed})
	holdEffects("want", user.Effect{Message: teimsg.Message{Type: teimsg.Request, Ri: 8, Ai: 127}}, user.Effect{Kind: user.Start})
	holdEffects("drop", user.Effect{Kind: user.Stop})
	do(u, "want")
	holdEffects("Assigned/9/99", user.Effect{Kind: user.Stop}, user.Effect{Kind: user.Got, TEI: 99})
	holdEffects("CheckRequest/5/99", user.Effect{Message: teimsg.Message{Type: teimsg.CheckResponse, Ri: 10, Ai: 99}})
	holdEffects("verify", user.Effect{Message: teimsg.Message{Type: teimsg.Verify, Ai: 99}})
	holdEffects("drop", user.Effect{Kind: user.Lost, TEI: 99})
}

// holdIdle: does it do nothing, whatever it is asked, refuse with ErrNil, and have an empty View?
func holdIdle(t *testing.T, u *user.User) {
	t.Helper()
	for _, step := range append(afterwards(), badMessages()...) {
		want := api.OK
		if step == "want" || step == "verify" || step == "drop" {
			want = api.ErrNil
		}
		if got, e := do(u, step); len(got) != 0 || e != want {
			t.Fatalf("%s: %v, %v, want none, %v", step, got, e, want)
		}
		holdHas(t, u, user.View{})
	}
	for ai := range all + 1 {
		for name := range types {
			hold(t, u, at(ai, name+"/0/@"), "")
		}
	}
}

// What is said of a nil user, with good arguments and with wrong ones.
func TestNil(t *testing.T) { holdIdle(t, nil) }

// A user that New didn't make does as little as a nil one.
func TestOfNobody(t *testing.T) { holdIdle(t, &user.User{}) }

// P16.1: a new user has neither, whatever n202 is, and has drawn nothing.
func TestNew(t *testing.T) {
	for _, n202 := range []int{math.MinInt, -1, 0, 1, 2, most, most + 1, math.MaxInt} {
		b := newBench(n202)
		holdHas(t, b.user, neither())
		holdDraws(t, b, 0)
		holdRefused(t, b, "verify", api.ErrNone)
		holdRefused(t, b, "drop", api.ErrNone)
		holdNothing(t, b, "over", "Assigned/0/64", "Assigned/1001/64", "CheckRequest/0/127", "CheckRequest/0/64", "Remove/0/127", "Remove/0/64", "Denied/0/127")
	}
}

// tries are some n202, and how often a user with it asks.
var tries = []struct{ n202, asks int }{
	{math.MinInt, 1}, {math.MinInt + 1, 1}, {math.MinInt + 5, 1}, {math.MinInt32, 1}, {-1<<32 + 5, 1}, {-251, 1}, {-32, 1}, {-2, 1}, {-1, 1},
	{0, 1}, {1, 1}, {2, 2}, {3, 3}, {4, 4}, {16, 16}, {30, 30}, {31, 31}, {most, most},
	{most + 1, most}, {34, most}, {64, most}, {256, most}, {257, most}, {65536, most}, {1<<32 + 1, most}, {math.MaxInt32, most}, {math.MaxInt - 1, most}, {math.MaxInt, most},
}

// P16.1 and P16.4: it asks n202 times, but at least once, and at most MaxTries times, each time with a new number; then it gives up.
func TestTries(t *testing.T) {
	for _, x := range tries {
		b := newBench(x.n202)
		for round := range 3 {
			drawn := round * x.asks
			step := "want"
			for try := 1; try <= x.asks; try++ {
				ri := ahead + drawn + try
				hold(t, b.user, step, at(ri, "Request/@/127 start"))
				holdHas(t, b.user, asking(ri, try))
				holdDraws(t, b, drawn+try)
				step = "over"
			}
			hold(t, b.user, "over", "failed")
			holdHas(t, b.user, neither())
			holdNothing(t, b, "over", "over", at(ahead+drawn+x.asks, "Assigned/@/64"))
		}
	}
}

// P16.1: Want with a TEI is ErrThere; while it asks, ErrState; neither draws a number, or counts as a try.
func TestWantRefused(t *testing.T) {
	for _, place := range withTEI() {
		a, b := behind(3, place), behind(3, place)
		for range 3 {
			holdRefused(t, a, "want", api.ErrThere)
		}
		holdSame(t, a, b, place)
	}
	for _, place := range whileAsking() {
		a, b := behind(3, place), behind(3, place)
		for range 3 {
			holdRefused(t, a, "want", api.ErrState)
		}
		holdSame(t, a, b, place)
	}
}

// P16.1: Want with neither asks, with the next number, as the first try: of a new user, behind Drop, behind Failed, and behind a TEI that was lost.
func TestWantAgain(t *testing.T) {
	for _, place := range withNeither() {
		b := behind(3, place)
		ri := ahead + b.draws() + 1
		hold(t, b.user, "want", at(ri, "Request/@/127 start"))
		holdHas(t, b.user, asking(ri, 1))
		holdDraws(t, b, ri-ahead)
		hold(t, b.user, at(ri, "Assigned/@/90"), "stop got:90")
	}
}

// P16.1: the numbers are the source's, which tells each modulo 65536.
func TestNumbers(t *testing.T) {
	for _, x := range []struct{ number, ri int }{{0, 0}, {1, 1}, {255, 255}, {256, 256}, {32768, 32768}, {65534, 65534}, {greatest, greatest}, {65536, 0}, {-1, greatest}, {math.MinInt, 0}, {math.MaxInt, greatest}} {
		u := user.New(1, draw.New(0, x.number))
		hold(t, u, "want", at(x.ri, "Request/@/127 start"))
		holdHas(t, u, asking(x.ri, 1))
		hold(t, u, at((x.ri+1)%(greatest+1), "Assigned/@/70"), "")
		hold(t, u, at(x.ri, "Assigned/@/70"), "stop got:70")
	}
}

// P16.1: a nil source tells 0, each time.
func TestNilSource(t *testing.T) {
	u := user.New(2, nil)
	holdHas(t, u, neither())
	for range 3 {
		hold(t, u, "want", "Request/0/127 start")
		holdHas(t, u, asking(0, 1))
		hold(t, u, "over", "Request/0/127 start")
		holdHas(t, u, asking(0, 2))
		hold(t, u, "Assigned/1/64", "")
		hold(t, u, "Assigned/0/64", "stop got:64")
		hold(t, u, "CheckRequest/7/127", "CheckResponse/0/64")
		hold(t, u, "CheckRequest/7/64", "CheckResponse/0/64")
		hold(t, u, "verify", "Verify/0/64")
		hold(t, u, "drop", "lost:64")
	}
}

// P16.1: the View of a user with a TEI tells neither the number that it asked with nor its tries.
func TestView(t *testing.T) {
	b := newBench(4)
	holdHas(t, b.user, neither())
	for i, x := range []struct {
		step string
		want user.View
	}{
		{"want", asking(1001, 1)}, {"over", asking(1002, 2)}, {"over", asking(1003, 3)}, {"Assigned/1003/99", holding(99)}, {"CheckRequest/0/99", holding(99)}, {"verify", holding(99)},
		{"drop", neither()}, {"want", asking(1005, 1)}, {"over", asking(1006, 2)}, {"drop", neither()}, {"want", asking(1007, 1)}, {"Assigned/1007/64", holding(64)}, {"Remove/0/127", neither()},
		{"want", asking(1008, 1)}, {"over", asking(1009, 2)}, {"over", asking(1010, 3)}, {"over", asking(1011, 4)}, {"over", neither()}, {"want", asking(1012, 1)},
	} {
		do(b.user, x.step)
		if got := b.user.View(); got != x.want {
			t.Fatalf("%d: %s: it has %+v, want %+v", i, x.step, got, x.want)
		}
	}
}

// P16.2: while it asks, Assigned with its own Ri gives it each automatic TEI, at each try; the timer is stopped ahead.
func TestAssigned(t *testing.T) {
	for _, place := range whileAsking() {
		eachTEI(func(tei int) {
			b := behind(3, place)
			draws := b.draws()
			hold(t, b.user, fmt.Sprintf("Assigned/%d/%d", b.user.View().Ri, tei), at(tei, "stop got:@"))
			holdHas(t, b.user, holding(tei))
			holdDraws(t, b, draws)
			holdNothing(t, b, "over", "over", "over")
		})
	}
}

// P16.2: while it asks, Assigned with its own Ri and an Ai that isn't automatic does nothing; the TEI that comes behind is taken.
func TestAssignedOther(t *testing.T) {
	for _, place := range whileAsking() {
		a, b := behind(3, place), behind(3, place)
		ri := a.user.View().Ri
		for _, ai := range others() {
			holdNothing(t, a, fmt.Sprintf("Assigned/%d/%d", ri, ai))
		}
		holdSame(t, a, b, place)
		c := behind(3, place)
		hold(t, c.user, at(ri, "Assigned/@/127"), "")
		hold(t, c.user, at(ri, "Assigned/@/64"), "stop got:64")
	}
}

// P16.2: while it asks, Assigned with any other Ri does nothing, whatever its Ai is; also with the Ri of the try ahead.
func TestAssignedOtherRi(t *testing.T) {
	for _, own := range []int{0, 1, 258, 513, 5125, 32768, greatest} {
		u := user.New(2, draw.New(0, (own+1)%(greatest+1), own))
		do(u, "want")
		do(u, "over")
		holdHas(t, u, asking(own, 2))
		for ri := range greatest + 1 {
			if ri == own {
				continue
			}
			if got := u.Message(teimsg.Message{Type: teimsg.Assigned, Ri: ri, Ai: first + ri%63}); len(got) != 0 {
				t.Fatalf("Ri %d, own %d: %v", ri, own, got)
			}
		}
		holdHas(t, u, asking(own, 2))
		hold(t, u, at(own, "Assigned/@/64"), "stop got:64")
	}
}

// P16.2: Assigned with the TEI that it has: it loses it, whatever the Ri is, also the one that it asked with.
func TestAssignedOwn(t *testing.T) {
	eachTEI(func(tei int) {
		for _, ri := range []int{0, 1, 1000, 1001, 1002, greatest} {
			b := behind(3, "want "+at(tei, "Assigned/1001/@"))
			hold(t, b.user, fmt.Sprintf("Assigned/%d/%d", ri, tei), at(tei, "lost:@"))
			holdHas(t, b.user, neither())
			holdDraws(t, b, 1)
			holdNothing(t, b, fmt.Sprintf("Assigned/%d/%d", ri, tei), at(tei, "Assigned/1001/@"), "over")
		}
	})
}

// P16.2: with a TEI, Assigned with another one does nothing, also with the Ri that it asked with.
func TestAssignedAnother(t *testing.T) {
	for _, place := range withTEI() {
		a, b := behind(3, place), behind(3, place)
		for ai := range all + 1 {
			if ai != a.user.View().TEI {
				holdNothing(t, a, at(ai, "Assigned/0/@"), at(ai, "Assigned/1001/@"), at(ai, "Assigned/1002/@"), at(ai, "Assigned/65535/@"))
			}
		}
		holdSame(t, a, b, place)
	}
}

// P16.2: with neither, Assigned does nothing, also with a number that it asked with, and with a TEI that it had.
func TestAssignedNeither(t *testing.T) {
	for _, place := range withNeither() {
		a, b := behind(3, place), behind(3, place)
		for ai := range all + 1 {
			holdNothing(t, a, at(ai, "Assigned/0/@"), at(ai, "Assigned/1001/@"), at(ai, "Assigned/1003/@"), at(ai, "Assigned/1004/@"))
		}
		holdSame(t, a, b, place)
	}
}

// P16.2: CheckRequest of its TEI, and of Broadcast, is answered, with the next number and its TEI, each time, whatever the Ri is.
func TestCheckRequest(t *testing.T) {
	eachTEI(func(tei int) {
		b := behind(3, "want "+at(tei, "Assigned/1001/@"))
		ri := ahead + 1
		for _, step := range []string{"CheckRequest/0/@", "CheckRequest/0/127", "CheckRequest/65535/@", "CheckRequest/1001/127", "CheckRequest/0/@"} {
			ri++
			hold(t, b.user, at(tei, step), fmt.Sprintf("CheckResponse/%d/%d", ri, tei))
			holdHas(t, b.user, holding(tei))
			holdDraws(t, b, ri-ahead)
		}
	})
}

// P16.2: Remove of its TEI, and of Broadcast: it loses it, whatever the Ri is; no number is drawn.
func TestRemove(t *testing.T) {
	eachTEI(func(tei int) {
		for _, step := range []string{"Remove/0/@", "Remove/0/127", "Remove/65535/@", "Remove/1001/127"} {
			b := behind(3, "want "+at(tei, "Assigned/1001/@"))
			hold(t, b.user, at(tei, step), at(tei, "lost:@"))
			holdHas(t, b.user, neither())
			holdDraws(t, b, 1)
			holdNothing(t, b, at(tei, step), "over")
			hold(t, b.user, "want", "Request/1002/127 start")
		}
	})
}

// P16.2: CheckRequest and Remove of another TEI than its own, of any kind but Broadcast, do nothing, and draw nothing.
func TestOfAnother(t *testing.T) {
	for _, place := range withTEI() {
		a, b := behind(3, place), behind(3, place)
		for ai := range all {
			if ai != a.user.View().TEI {
				holdNothing(t, a, at(ai, "CheckRequest/0/@"), at(ai, "CheckRequest/1001/@"), at(ai, "Remove/0/@"), at(ai, "Remove/1001/@"))
			}
		}
		holdSame(t, a, b, place)
	}
}

// P16.2: CheckRequest and Remove without a TEI do nothing, and draw nothing, also of Broadcast, while it asks, and with its own Ri.
func TestWithoutTEI(t *testing.T) {
	for _, place := range append(whileAsking(), withNeither()...) {
		a, b := behind(3, place), behind(3, place)
		for ai := range all + 1 {
			holdNothing(t, a, at(ai, "CheckRequest/0/@"), at(ai, "Remove/0/@"))
			holdNothing(t, a, at(ai, "CheckRequest/1001/@"), at(ai, "Remove/1001/@"), at(ai, "CheckRequest/1002/@"), at(ai, "Remove/1002/@"))
		}
		holdSame(t, a, b, place)
	}
}

// P16.2: Denied, and what terminals send, does nothing, and changes nothing, whatever its Ri and its Ai are.
func TestOtherTypes(t *testing.T) {
	for _, place := range places() {
		a, b := behind(3, place), behind(3, place)
		ri := a.user.View().Ri
		for _, kind := range []string{"Denied", "Request", "CheckResponse", "Verify"} {
			for ai := range all + 1 {
				holdNothing(t, a, at(ai, kind+"/0/@"), at(ai, kind+"/65535/@"), fmt.Sprintf("%s/%d/%d", kind, ri, ai))
			}
		}
		holdSame(t, a, b, place)
	}
}

// P16.2: behind Denied it goes on asking when its timer is over, and takes a TEI then.
func TestDenied(t *testing.T) {
	b := behind(3, "want")
	holdNothing(t, b, "Denied/1001/127")
	hold(t, b.user, "over", "Request/1002/127 start")
	holdNothing(t, b, "Denied/1002/127")
	hold(t, b.user, "over", "Request/1003/127 start")
	holdNothing(t, b, "Denied/1003/127")
	hold(t, b.user, "Assigned/1003/64", "stop got:64")
	holdNothing(t, b, "Denied/1003/64", "Denied/0/127")
}

// badMessages are those that layer 7 doesn't put: by their types, their Ris and their Ais, alone and together.
func badMessages() []string {
	least, greatestInt := strconv.Itoa(math.MinInt), strconv.Itoa(math.MaxInt)
	var out []string
	for _, bad := range []string{"0", "8", "9", "-1", "-2", "-4", "-6", "-250", "-254", "258", "260", "262", "65538", "65540", "4294967298", least, greatestInt} {
		for _, ri := range []string{"0", "1001", "1002", "-1", "65536"} {
			out = append(out, bad+"/"+ri+"/127", bad+"/"+ri+"/64", bad+"/"+ri+"/126", bad+"/"+ri+"/128")
		}
	}
	for kind := range types {
		for _, ri := range []string{"-1", "-2", "-64535", "-64534", "-65536", "65536", "66537", "66538", "131072", "4294968297", least, greatestInt} {
			out = append(out, kind+"/"+ri+"/127", kind+"/"+ri+"/64", kind+"/"+ri+"/65", kind+"/"+ri+"/126", kind+"/"+ri+"/80")
		}
		for _, ai := range []string{"-1", "-2", "-64", "-63", "-128", "128", "129", "192", "193", "255", "256", "320", "65600", "4294967360", "4294967423", least, greatestInt} {
			out = append(out, kind+"/0/"+ai, kind+"/1001/"+ai, kind+"/1002/"+ai, kind+"/65535/"+ai)
		}
	}
	slices.Sort(out)
	return out
}

// P16.2: a message of which layer 7's Put has an error does nothing, draws nothing, and changes nothing.
func TestBadMessages(t *testing.T) {
	for _, place := range places() {
		a, b := behind(3, place), behind(3, place)
		for _, bad := range badMessages() {
			if _, e := teimsg.Put(message(bad)); e == api.OK {
				t.Fatalf("%s isn't bad", bad)
			}
			holdNothing(t, a, bad)
		}
		holdSame(t, a, b, place)
	}
}

// P16.2: a Ri that can't be isn't the one that it is modulo 65536, also with a source that tells the least and the greatest one.
func TestBadRi(t *testing.T) {
	for _, own := range []int{0, 1, greatest} {
		u := user.New(1, draw.New(0, own))
		do(u, "want")
		for _, turns := range []int{-65536, 65536, 2 * 65536, 1 << 32, -1 << 32, math.MinInt} {
			hold(t, u, at(own+turns, "Assigned/@/64"), "")
		}
		holdHas(t, u, asking(own, 1))
	}
}

// P16.3: Verify with a TEI sends Verify, with Ri 0; no number is drawn, and nothing changes.
func TestVerify(t *testing.T) {
	eachTEI(func(tei int) {
		a, b := behind(3, "want "+at(tei, "Assigned/1001/@")), behind(3, "want "+at(tei, "Assigned/1001/@"))
		for range 3 {
			hold(t, a.user, "verify", at(tei, "Verify/0/@"))
		}
		holdSame(t, a, b, at(tei, "@"))
	})
}

// P16.3: Verify without a TEI is ErrNone, while it asks and with neither.
func TestVerifyNone(t *testing.T) {
	for _, place := range append(whileAsking(), withNeither()...) {
		a, b := behind(3, place), behind(3, place)
		for range 3 {
			holdRefused(t, a, "verify", api.ErrNone)
		}
		holdSame(t, a, b, place)
	}
}

// P16.3: Drop with a TEI: it loses it, and no timer is stopped.
func TestDrop(t *testing.T) {
	eachTEI(func(tei int) {
		b := behind(3, "want "+at(tei, "Assigned/1001/@"))
		hold(t, b.user, "drop", at(tei, "lost:@"))
		holdHas(t, b.user, neither())
		holdDraws(t, b, 1)
		holdRefused(t, b, "drop", api.ErrNone)
		holdNothing(t, b, "over", at(tei, "Assigned/1001/@"), "CheckRequest/0/127", "Remove/0/127")
	})
}

// P16.3: Drop while it asks stops the timer, and it asks no more: what it asked for isn't taken.
func TestDropAsking(t *testing.T) {
	for _, place := range whileAsking() {
		b := behind(3, place)
		ri, draws := b.user.View().Ri, b.draws()
		hold(t, b.user, "drop", "stop")
		holdHas(t, b.user, neither())
		holdDraws(t, b, draws)
		holdRefused(t, b, "drop", api.ErrNone)
		holdNothing(t, b, "over", at(ri, "Assigned/@/64"))
		hold(t, b.user, "want", at(ahead+draws+1, "Request/@/127 start"))
	}
}

// P16.3: Drop with neither is ErrNone.
func TestDropNone(t *testing.T) {
	for _, place := range withNeither() {
		a, b := behind(3, place), behind(3, place)
		for range 3 {
			holdRefused(t, a, "drop", api.ErrNone)
		}
		holdSame(t, a, b, place)
	}
}

// P16.4: Timeout of a user that doesn't ask does nothing, with a TEI and with neither.
func TestTimeoutNothing(t *testing.T) {
	for _, place := range append(withTEI(), withNeither()...) {
		a, b := behind(3, place), behind(3, place)
		holdNothing(t, a, "over", "over", "over", "over")
		holdSame(t, a, b, place)
	}
}

// P16.4: behind Failed, and behind Drop, the tries begin anew.
func TestTriesAnew(t *testing.T) {
	for _, place := range []string{"want over over over", "want over over drop", "want over over Assigned/1003/64 drop", "want over over Assigned/1003/64 Remove/0/64"} {
		b := behind(3, place)
		ri := ahead + b.draws()
		hold(t, b.user, "want", at(ri+1, "Request/@/127 start"))
		hold(t, b.user, "over", at(ri+2, "Request/@/127 start"))
		hold(t, b.user, "over", at(ri+3, "Request/@/127 start"))
		hold(t, b.user, "over", "failed")
		holdDraws(t, b, ri+3-ahead)
	}
}

// spoil: its caller writes over effects that were told, and behind them.
func spoil(list []user.Effect) {
	bad := user.Effect{Kind: user.Stop, Message: teimsg.Message{Type: teimsg.Verify, Ri: 3, Ai: 99}, TEI: 99}
	_ = append(list, bad, bad, bad)
	for i := range list[:cap(list)] {
		list[:cap(list)][i] = bad
	}
}

// Rule 4: what the caller does with effects that were told changes neither the user nor effects that are told later.
func TestEffectsChanged(t *testing.T) {
	a, b := newBench(3), newBench(3)
	for round := range 4 {
		var kept, want [][]user.Effect
		for _, step := range append(strings.Fields(strings.Join(places(), " drop ")), afterwards()...) {
			got, e := do(a.user, step)
			again, f := do(b.user, step)
			if !slices.Equal(got, again) || e != f || a.user.View() != b.user.View() {
				t.Fatalf("round %d: %s: %v, %v, want %v, %v", round, step, got, e, again, f)
			}
			kept, want = append(kept, again), append(want, slices.Clone(again))
			spoil(got)
		}
		for i := range kept {
			if !slices.Equal(kept[i], want[i]) {
				t.Fatalf("effects became %v, want %v", kept[i], want[i])
			}
		}
	}
}

// P2: two users of two sources, which tell the same numbers.
func TestSideBySide(t *testing.T) {
	a, b := newBench(2), newBench(3)
	hold(t, a.user, "want", "Request/1001/127 start")
	holdHas(t, b.user, neither())
	hold(t, b.user, "want", "Request/1001/127 start")
	hold(t, b.user, "over", "Request/1002/127 start")
	holdHas(t, a.user, asking(1001, 1))
	hold(t, a.user, "Assigned/1001/64", "stop got:64")
	holdHas(t, b.user, asking(1002, 2))
	c := behind(1, "want Assigned/1001/64 drop")
	hold(t, b.user, "Assigned/1002/64", "stop got:64")
	hold(t, b.user, "Remove/0/64", "lost:64")
	holdHas(t, a.user, holding(64))
	holdHas(t, c.user, neither())
	hold(t, a.user, "CheckRequest/0/64", "CheckResponse/1002/64")
	hold(t, a.user, "drop", "lost:64")
	hold(t, a.user, "want", "Request/1003/127 start")
	hold(t, a.user, "over", "Request/1004/127 start")
	hold(t, a.user, "over", "failed")
	hold(t, b.user, "want", "Request/1003/127 start")
}

// P2: two users that were handed one source draw from it in turn, and so may their caller.
func TestOneSource(t *testing.T) {
	d := draw.New(0, 7, 8, 9, 10, 11, 12)
	a, b := user.New(2, d), user.New(2, d)
	hold(t, a, "want", "Request/7/127 start")
	hold(t, b, "want", "Request/8/127 start")
	hold(t, a, "Assigned/8/64", "")
	hold(t, b, "Assigned/8/64", "stop got:64")
	hold(t, a, "over", "Request/9/127 start")
	if n := d.Next(); n != 10 {
		t.Fatalf("the source tells %d, want 10", n)
	}
	hold(t, b, "CheckRequest/0/127", "CheckResponse/11/64")
	hold(t, a, "Assigned/9/65", "stop got:65")
	hold(t, a, "CheckRequest/0/127", "CheckResponse/12/65")
	hold(t, b, "CheckRequest/0/64", "CheckResponse/5125/64")
	hold(t, b, "drop", "lost:64")
	holdHas(t, a, holding(65))
	holdHas(t, b, neither())
}
