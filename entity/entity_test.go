package entity_test

import (
	"math"
	"slices"
	"strconv"
	"strings"
	"testing"

	"lapwing/addr"
	"lapwing/api"
	"lapwing/ctrl"
	"lapwing/entity"
	"lapwing/flow"
	"lapwing/frame"
)

// The tests hand in, and hold, words in short.
//
// A frame: c or r (a command, a response), its name, its numbers (N(S)/N(R) of I), p if P/F is set, and behind a colon its information: cI3/5p:x, rRR5, cSABMEp, cUI:x.
//
// An effect: such a frame, if it is sent; +200, -203: a timer is started, stopped; EI, EC, RI, RC, TEI: EstablishTold, EstablishDone, ReleaseTold, ReleaseDone, WantTEI; D:x, U:x, E:x: DataTold, UnitTold, Error.
//
// A step: such a frame, if it comes; A64, X: a TEI is assigned, removed; est, rel, d:x, u:x, busy, ready: what may be asked; T200: a timer is over.

// The limits, by numbers that were written out.
const (
	modulus  = 128
	maxInfo  = 260
	maxQueue = 256
	maxTries = 32
	lastTEI  = 126
)

// config: a window of two, and two tries.
var config = entity.Config{K: 2, N200: 2}

// Steps that bring a new entity into each state.
const (
	unassigned = ""
	awaitTEI   = "u:w"
	awaitLink  = "est"
	assigned   = "A64"
	asking     = "A64 est" // Connecting, as its own user asked
	opened     = "A64 est rUAp"
	releasing  = opened + " rel"
	recovering = opened + " T203"

	// at work, in Open: V(R) is 2, V(A) 1; of what was sent two are unanswered, and one waits.
	working = opened + " cI0/0:x cI1/0:y d:a d:b d:c rRR1 d:d"
	// the same, in Recovery.
	inquiring = working + " T200"
	// the same, in Connecting: it called anew, and its user asked for nothing.
	calling = working + " rFRMR:12345"
)

var kinds = map[string]entity.Kind{
	"EI": entity.EstablishTold, "EC": entity.EstablishDone, "RI": entity.ReleaseTold, "RC": entity.ReleaseDone, "TEI": entity.WantTEI,
	"D": entity.DataTold, "U": entity.UnitTold, "E": entity.Error, "+": entity.Start, "-": entity.Stop,
}

var asks = map[string]entity.Ask{
	"est": entity.Establish, "rel": entity.Release, "d": entity.Data, "u": entity.Unit, "busy": entity.Busy, "ready": entity.Ready,
}

func number(s string) int {
	n, err := strconv.Atoi(s)
	if err != nil {
		panic(err)
	}
	return n
}

// frameOf: the frame that a word says, without a link.
func frameOf(word string) frame.Frame {
	head, info, _ := strings.Cut(word, ":")
	f := frame.Frame{Command: head[0] == 'c', Info: info}
	head, f.PF = strings.CutSuffix(head[1:], "p")
	name := strings.TrimRight(head, "/-0123456789")
	for f.Kind = ctrl.I; f.Kind.Name() != name; f.Kind++ {
		if f.Kind == ctrl.Kinds {
			panic(word)
		}
	}
	ns, nr, both := strings.Cut(head[len(name):], "/")
	if !both {
		ns, nr = "0", ns
	}
	if nr != "" {
		f.NS, f.NR = number(ns), number(nr)
	}
	return f
}

// effects: those that words say, of an entity with that TEI.
func effects(tei int, words string) []entity.Effect {
	var out []entity.Effect
	for _, word := range strings.Fields(words) {
		name, data, _ := strings.Cut(word, ":")
		kind, plain := kinds[name]
		switch {
		case plain:
			out = append(out, entity.Effect{Kind: kind, Data: data})
		case word[0] == '+' || word[0] == '-':
			out = append(out, entity.Effect{Kind: kinds[word[:1]], Timer: number(word[1:])})
		default:
			f := frameOf(word)
			f.Link = addr.Link{SAPI: 0, TEI: tei}
			out = append(out, entity.Effect{Kind: entity.Send, Frame: f})
		}
	}
	return out
}

var states = []string{"none", "Unassigned", "AwaitTEI", "AwaitLink", "Assigned", "Connecting", "Releasing", "Open", "Recovery"}

// show: a view, without what is 0 or not set, but for the TEI.
func show(v entity.View) string {
	out := states[v.State] + " " + strconv.Itoa(v.TEI)
	for _, x := range []struct {
		name   string
		number int
	}{
		{"tries", v.Tries}, {"units", v.Units},
		{"S", v.Flow.VS}, {"A", v.Flow.VA}, {"R", v.Flow.VR}, {"sent", v.Flow.Sent}, {"left", v.Flow.Left},
	} {
		if x.number != 0 {
			out += " " + x.name + strconv.Itoa(x.number)
		}
	}
	for _, x := range []struct {
		name string
		set  bool
	}{
		{"asked", v.Asked}, {"200", v.T200}, {"203", v.T203}, {"peer", v.Flow.Peer}, {"own", v.Flow.Own}, {"refused", v.Flow.Refused},
	} {
		if x.set {
			out += " " + x.name
		}
	}
	return out
}

// do: one step.
func do(e *entity.Entity, step string) ([]entity.Effect, api.Errno) {
	name, data, _ := strings.Cut(step, ":")
	if a, some := asks[name]; some {
		return e.Ask(a, data)
	}
	switch step[0] {
	case 'A':
		return e.Assign(number(step[1:]))
	case 'X':
		return e.Remove()
	case 'T':
		return e.Timeout(number(step[1:])), api.OK
	}
	return e.Frame(frameOf(step)), api.OK
}

// at: an entity behind these steps.
func at(t *testing.T, c entity.Config, steps string) *entity.Entity {
	t.Helper()
	e := entity.New(c)
	for _, step := range strings.Fields(steps) {
		if _, bad := do(e, step); bad != api.OK {
			t.Fatalf("%q of %q: %v", step, steps, bad)
		}
	}
	return e
}

// hold: does a step tell these effects, and answer that error?
func hold(t *testing.T, e *entity.Entity, step, told string, want api.Errno) {
	t.Helper()
	was := e.View()
	got, bad := do(e, step)
	tei := max(was.TEI, e.View().TEI)
	if !slices.Equal(got, effects(tei, told)) || bad != want {
		t.Errorf("%s, %q: %+v, %v, want %q, %v", show(was), step, got, bad, told, want)
	}
	if bad != api.OK && e.View() != was {
		t.Errorf("%s, %q with %v: %s behind it", show(was), step, bad, show(e.View()))
	}
}

func holdView(t *testing.T, e *entity.Entity, want string) {
	t.Helper()
	if got := show(e.View()); got != want {
		t.Errorf("View() = %s, want %s", got, want)
	}
}

// row: behind some steps, a step tells that, and leaves that. A view that is empty is the one ahead.
type row struct {
	at, step, told string
	bad            api.Errno
	view           string
}

func holdRows(t *testing.T, rows []row) {
	t.Helper()
	for _, x := range rows {
		e := at(t, config, x.at)
		want := x.view
		if want == "" {
			want = show(e.View())
		}
		hold(t, e, x.step, x.told, x.bad)
		holdView(t, e, want)
		if t.Failed() {
			t.Fatalf("behind %q", x.at)
		}
	}
}

// run: steps, each with what it tells behind a >, or an error's number behind a !.
func run(t *testing.T, e *entity.Entity, lines ...string) {
	t.Helper()
	for _, line := range lines {
		step, told, tells := strings.Cut(line, ">")
		bad := api.OK
		if !tells {
			before, number, refused := strings.Cut(line, "!")
			if refused {
				step, bad = before, errno(number)
			}
		}
		hold(t, e, strings.TrimSpace(step), told, bad)
	}
}

func errno(s string) api.Errno { return api.Errno(number(strings.TrimSpace(s))) }

// The chapter's names, by the numbers that iota gives them.
func TestNumbers(t *testing.T) {
	for want, got := range []entity.State{entity.Unassigned, entity.AwaitTEI, entity.AwaitLink, entity.Assigned, entity.Connecting, entity.Releasing, entity.Open, entity.Recovery} {
		if int(got) != want+1 {
			t.Errorf("the state %d is %d", want+1, got)
		}
	}
	for want, got := range []entity.Ask{entity.Establish, entity.Release, entity.Data, entity.Unit, entity.Busy, entity.Ready} {
		if int(got) != want {
			t.Errorf("what may be asked as %d is %d", want, got)
		}
	}
	for want, got := range []entity.Kind{entity.Send, entity.EstablishTold, entity.EstablishDone, entity.ReleaseTold, entity.ReleaseDone, entity.DataTold, entity.UnitTold, entity.Error, entity.WantTEI, entity.Start, entity.Stop} {
		if int(got) != want {
			t.Errorf("the kind of effect %d is %d", want, got)
		}
	}
}

// The chapter's example.
func TestExample(t *testing.T) {
	e := entity.New(entity.Config{K: 1, N200: 3})
	run(t, e, "A64 >", "est > cSABMEp +200", "rUAp > EC -200 +203")
	holdView(t, e, "Open 64 203")
}

// The same, with each effect written out: what an effect doesn't have is 0, empty.
func TestEffects(t *testing.T) {
	e := entity.New(entity.Config{K: 1, N200: 3})
	link := addr.Link{SAPI: api.Signal, TEI: 64}
	sends := func(f frame.Frame) entity.Effect {
		f.Link = link
		return entity.Effect{Kind: entity.Send, Frame: f}
	}
	start, stop := func(n int) entity.Effect { return entity.Effect{Kind: entity.Start, Timer: n} }, func(n int) entity.Effect { return entity.Effect{Kind: entity.Stop, Timer: n} }
	for i, x := range []struct {
		got  func() ([]entity.Effect, api.Errno)
		want []entity.Effect
	}{
		{func() ([]entity.Effect, api.Errno) { return e.Ask(entity.Unit, "u") }, []entity.Effect{{Kind: entity.WantTEI}}},
		{func() ([]entity.Effect, api.Errno) { return e.Ask(entity.Establish, "ignored") }, nil},
		{func() ([]entity.Effect, api.Errno) { return e.Assign(64) }, []entity.Effect{
			sends(frame.Frame{Command: true, Kind: ctrl.UI, Info: "u"}), sends(frame.Frame{Command: true, Kind: ctrl.SABME, PF: true}), start(200),
		}},
		{func() ([]entity.Effect, api.Errno) { return e.Frame(frame.Frame{Kind: ctrl.UA, PF: true}), 0 }, []entity.Effect{
			{Kind: entity.EstablishDone}, stop(200), start(203),
		}},
		{func() ([]entity.Effect, api.Errno) {
			return e.Frame(frame.Frame{Command: true, Kind: ctrl.I, Info: "i"}), 0
		}, []entity.Effect{
			{Kind: entity.DataTold, Data: "i"}, sends(frame.Frame{Kind: ctrl.RR, NR: 1}), start(203),
		}},
		{func() ([]entity.Effect, api.Errno) { return e.Ask(entity.Data, "d") }, []entity.Effect{
			sends(frame.Frame{Command: true, Kind: ctrl.I, NR: 1, Info: "d"}), stop(203), start(200),
		}},
		{func() ([]entity.Effect, api.Errno) {
			return e.Frame(frame.Frame{Command: true, Kind: ctrl.I, NS: 5, NR: 1, Info: "w", PF: true}), 0
		}, []entity.Effect{
			sends(frame.Frame{Kind: ctrl.REJ, NR: 1, PF: true}), stop(200), start(203),
		}},
		{func() ([]entity.Effect, api.Errno) { return e.Ask(entity.Data, "e") }, []entity.Effect{
			sends(frame.Frame{Command: true, Kind: ctrl.I, NS: 1, NR: 1, Info: "e"}), stop(203), start(200),
		}},
		{func() ([]entity.Effect, api.Errno) { return e.Ask(entity.Busy, "ignored") }, []entity.Effect{sends(frame.Frame{Kind: ctrl.RNR, NR: 1})}},
		{func() ([]entity.Effect, api.Errno) { return e.Timeout(200), 0 }, []entity.Effect{sends(frame.Frame{Command: true, Kind: ctrl.RNR, NR: 1, PF: true}), start(200)}},
		{func() ([]entity.Effect, api.Errno) { return e.Frame(frame.Frame{Kind: ctrl.UA, NS: 3, NR: 4}), 0 }, []entity.Effect{{Kind: entity.Error, Data: "D"}}},
		{func() ([]entity.Effect, api.Errno) {
			return e.Frame(frame.Frame{Command: true, Kind: ctrl.UI, NS: 3, NR: 4, Info: "v"}), 0
		}, []entity.Effect{{Kind: entity.UnitTold, Data: "v"}}},
		{func() ([]entity.Effect, api.Errno) {
			return e.Frame(frame.Frame{Command: true, Kind: ctrl.SABME, NS: 3, NR: 4}), 0
		}, []entity.Effect{
			sends(frame.Frame{Kind: ctrl.UA}), {Kind: entity.Error, Data: "F"}, {Kind: entity.EstablishTold}, stop(200), start(203),
		}},
		{func() ([]entity.Effect, api.Errno) { return e.Ask(entity.Release, "ignored") }, []entity.Effect{
			sends(frame.Frame{Command: true, Kind: ctrl.DISC, PF: true}), stop(203), start(200),
		}},
		{func() ([]entity.Effect, api.Errno) { return e.Remove() }, []entity.Effect{stop(200), {Kind: entity.ReleaseDone}}},
	} {
		if got, bad := x.got(); !slices.Equal(got, x.want) || bad != api.OK {
			t.Errorf("%d: %+v, %v, want %+v", i, got, bad, x.want)
		}
	}
}

// What is said of a nil entity, with good arguments and with wrong ones.
func TestNil(t *testing.T) {
	var e *entity.Entity
	for range 2 {
		if v := e.View(); v != (entity.View{}) {
			t.Errorf("View() = %+v", v)
		}
		for _, a := range []entity.Ask{entity.Establish, entity.Release, entity.Data, entity.Unit, entity.Busy, entity.Ready, -1, 6, math.MinInt, math.MaxInt} {
			for _, data := range []string{"", "x", strings.Repeat("x", maxInfo+1)} {
				if l, bad := e.Ask(a, data); len(l) != 0 || bad != api.ErrNil {
					t.Errorf("Ask(%d) = %v, %v", a, l, bad)
				}
			}
		}
		for _, tei := range []int{0, 64, lastTEI, lastTEI + 1, -1, math.MinInt, math.MaxInt} {
			if l, bad := e.Assign(tei); len(l) != 0 || bad != api.ErrNil {
				t.Errorf("Assign(%d) = %v, %v", tei, l, bad)
			}
		}
		if l, bad := e.Remove(); len(l) != 0 || bad != api.ErrNil {
			t.Errorf("Remove() = %v, %v", l, bad)
		}
		for _, f := range everyFrame() {
			if l := e.Frame(f); len(l) != 0 {
				t.Errorf("Frame(%+v) = %v", f, l)
			}
		}
		for _, timer := range timers {
			if l := e.Timeout(timer); len(l) != 0 {
				t.Errorf("Timeout(%d) = %v", timer, l)
			}
		}
	}
}

// An entity that New didn't make does as little, and doesn't panic.
func TestOfNobody(t *testing.T) {
	var e entity.Entity
	for _, step := range strings.Fields("est rel d:x u:x busy ready A64 X") {
		if l, bad := do(&e, step); len(l) != 0 || bad != api.ErrNil {
			t.Errorf("%q: %v, %v", step, l, bad)
		}
	}
	for _, f := range everyFrame() {
		if l := e.Frame(f); len(l) != 0 {
			t.Errorf("Frame(%+v) = %v", f, l)
		}
	}
	if l, v := e.Timeout(200), e.View(); len(l) != 0 || v != (entity.View{}) {
		t.Errorf("Timeout(200) = %v, View() = %+v", l, v)
	}
}

// timers are numbers of those that there are, and of those that there aren't.
var timers = []int{
	200, 203, 0, 1, -1, 199, 201, 202, 204, -200, -203, 200 - 256, 200 + 256, 200 + 1<<16, 200 + 1<<32, 203 + 1<<32, math.MinInt, math.MinInt + 200, math.MaxInt,
}

// everyFrame: each kind, as a command and as a response, with and without P/F; with the least information that it may have, so that May alone refuses half of them.
func everyFrame() []frame.Frame {
	var out []frame.Frame
	for k := ctrl.I; k < ctrl.Kinds; k++ {
		for n := range 4 {
			f := frame.Frame{Command: n&1 != 0, Kind: k, PF: n&2 != 0}
			if k == ctrl.FRMR {
				f.Info = "12345"
			}
			out = append(out, f)
		}
	}
	return out
}

// P14.1: a new entity, whatever its configuration is; View changes nothing.
func TestNew(t *testing.T) {
	for _, n := range []int{math.MinInt, -1, 0, 1, 7, 127, 128, math.MaxInt} {
		e := entity.New(entity.Config{K: n, N200: n})
		for range 2 {
			if got, want := e.View(), (entity.View{State: entity.Unassigned, TEI: -1}); got != want {
				t.Errorf("View() = %+v, want %+v", got, want)
			}
		}
		run(t, e, "rel !12", "d:a !12", "busy !12", "ready !12", "X !11", "T200 >", "T203 >", "cSABMEp >", "cUI:x >")
		holdView(t, e, "Unassigned -1")
	}
}

// P14.1: View tells each thing that an entity has.
func TestView(t *testing.T) {
	e := at(t, config, "u:a u:b est")
	if got, want := e.View(), (entity.View{State: entity.AwaitLink, TEI: -1, Units: 2}); got != want {
		t.Errorf("View() = %+v, want %+v", got, want)
	}
	e = at(t, config, asking+" T200")
	if got, want := e.View(), (entity.View{State: entity.Connecting, TEI: 64, Tries: 1, Asked: true, T200: true}); got != want {
		t.Errorf("View() = %+v, want %+v", got, want)
	}
	e = at(t, config, opened+" cI0/0:x rRNR0 d:a d:b rRR0 busy rRNR0 d:c")
	if got, want := e.View(), (entity.View{
		State: entity.Open, TEI: 64, T200: true, Flow: flow.View{VS: 2, VR: 1, Peer: true, Own: true, Sent: 2, Left: 1},
	}); got != want {
		t.Errorf("View() = %+v, want %+v", got, want)
	}
	e = at(t, config, opened+" cI1/0:x")
	if got, want := e.View(), (entity.View{State: entity.Open, TEI: 64, T203: true, Flow: flow.View{Refused: true}}); got != want {
		t.Errorf("View() = %+v, want %+v", got, want)
	}
}

// The states that the tests begin in.
func TestStarts(t *testing.T) {
	for _, x := range []struct{ steps, view string }{
		{unassigned, "Unassigned -1"}, {awaitTEI, "AwaitTEI -1 units1"}, {awaitLink, "AwaitLink -1"}, {assigned, "Assigned 64"},
		{asking, "Connecting 64 asked 200"}, {calling, "Connecting 64 S3 A1 R2 sent2 left1 200"}, {releasing, "Releasing 64 200"},
		{opened, "Open 64 203"}, {working, "Open 64 S3 A1 R2 sent2 left1 200"},
		{recovering, "Recovery 64 200"}, {inquiring, "Recovery 64 S3 A1 R2 sent2 left1 200"},
	} {
		holdView(t, at(t, config, x.steps), x.view)
	}
}

// P14.2: Establish, in each state.
func TestEstablish(t *testing.T) {
	holdRows(t, []row{
		{unassigned, "est", "TEI", 0, "AwaitLink -1"},
		{awaitTEI, "est", "", 0, "AwaitLink -1 units1"},
		{awaitLink, "est", "", 0, ""},
		{"u:a u:b est", "est", "", 0, "AwaitLink -1 units2"},
		{assigned, "est", "cSABMEp +200", 0, "Connecting 64 asked 200"},
		{asking, "est", "", 0, ""},
		{asking + " T200", "est", "", 0, "Connecting 64 tries1 asked 200"},
		{calling, "est", "", 0, "Connecting 64 S1 A1 R2 asked 200"},
		{calling + " T200 d:e", "est", "", 0, "Connecting 64 tries1 S1 A1 R2 asked 200"},
		{releasing, "est", "", api.ErrState, ""},
		{releasing + " T200", "est", "", api.ErrState, "Releasing 64 tries1 200"},
		{opened, "est", "cSABMEp -203 +200", 0, "Connecting 64 asked 200"},
		{working, "est", "cSABMEp +200", 0, "Connecting 64 S1 A1 R2 asked 200"},
		{recovering, "est", "cSABMEp +200", 0, "Connecting 64 asked 200"},
		{inquiring + " T200", "est", "cSABMEp +200", 0, "Connecting 64 S1 A1 R2 asked 200"},
	})
}

// P14.2: Release, in each state.
func TestRelease(t *testing.T) {
	holdRows(t, []row{
		{unassigned, "rel", "", api.ErrState, ""},
		{awaitTEI, "rel", "", api.ErrState, ""},
		{awaitLink, "rel", "", api.ErrState, ""},
		{assigned, "rel", "RC", 0, ""},
		{asking, "rel", "", api.ErrState, ""},
		{calling, "rel", "", api.ErrState, ""},
		{releasing, "rel", "", api.ErrState, ""},
		{opened, "rel", "cDISCp -203 +200", 0, "Releasing 64 200"},
		{working, "rel", "cDISCp +200", 0, "Releasing 64 S1 A1 R2 200"},
		{recovering, "rel", "cDISCp +200", 0, "Releasing 64 200"},
		{inquiring + " T200", "rel", "cDISCp +200", 0, "Releasing 64 S1 A1 R2 200"},
	})
}

// P14.2: Data, in each state.
func TestData(t *testing.T) {
	holdRows(t, []row{
		{unassigned, "d:x", "", api.ErrState, ""},
		{awaitTEI, "d:x", "", api.ErrState, ""},
		{awaitLink, "d:x", "", api.ErrState, ""},
		{assigned, "d:x", "", api.ErrState, ""},
		{asking, "d:x", "", api.ErrState, ""},
		{asking + " T200", "d:x", "", api.ErrState, ""},
		{calling + " est", "d:x", "", api.ErrState, ""},
		{calling, "d:x", "", 0, "Connecting 64 S3 A1 R2 sent2 left2 200"},
		{releasing, "d:x", "", api.ErrState, ""},
		{opened, "d:x", "cI0/0:x -203 +200", 0, "Open 64 S1 sent1 200"},
		{opened + " d:a", "d:x", "cI1/0:x", 0, "Open 64 S2 sent2 200"},
		{opened + " d:a d:b", "d:x", "", 0, "Open 64 S2 sent2 left1 200"},
		{opened + " cI0/0:a cI1/0:b", "d:", "cI0/2 -203 +200", 0, "Open 64 S1 R2 sent1 200"},
		{opened + " rRNR0", "d:x", "", 0, "Open 64 left1 200 peer"},
		{opened + " busy", "d:x", "cI0/0:x -203 +200", 0, "Open 64 S1 sent1 200 own"},
		{working, "d:x", "", 0, "Open 64 S3 A1 R2 sent2 left2 200"},
		{recovering, "d:x", "", 0, "Recovery 64 left1 200"},
		{inquiring, "d:x", "", 0, "Recovery 64 S3 A1 R2 sent2 left2 200"},
	})
}

// P14.2: Unit, in each state.
func TestUnit(t *testing.T) {
	holdRows(t, []row{
		{unassigned, "u:x", "TEI", 0, "AwaitTEI -1 units1"},
		{awaitTEI, "u:x", "", 0, "AwaitTEI -1 units2"},
		{awaitLink, "u:x", "", 0, "AwaitLink -1 units1"},
		{"u:a est", "u:x", "", 0, "AwaitLink -1 units2"},
		{assigned, "u:x", "cUI:x", 0, ""},
		{assigned, "u:", "cUI", 0, ""},
		{asking, "u:x", "cUI:x", 0, ""},
		{calling, "u:x", "cUI:x", 0, ""},
		{releasing, "u:x", "cUI:x", 0, ""},
		{opened, "u:x", "cUI:x", 0, ""},
		{working, "u:x", "cUI:x", 0, ""},
		{opened + " rRNR0 busy", "u:x", "cUI:x", 0, ""},
		{inquiring, "u:x", "cUI:x", 0, ""},
	})
}

// P14.2: Busy and Ready, in each state.
func TestBusy(t *testing.T) {
	for _, steps := range []string{unassigned, awaitTEI, awaitLink, assigned, asking, calling, releasing, opened + " busy rel", opened + " busy cDISC"} {
		holdRows(t, []row{{steps, "busy", "", api.ErrState, ""}, {steps, "ready", "", api.ErrState, ""}})
	}
	holdRows(t, []row{
		{opened, "busy", "rRNR0", 0, "Open 64 203 own"},
		{opened, "ready", "", 0, ""},
		{opened + " busy", "busy", "", 0, ""},
		{opened + " busy", "ready", "rRR0", 0, "Open 64 203"},
		{working, "busy", "rRNR2", 0, "Open 64 S3 A1 R2 sent2 left1 200 own"},
		{working, "ready", "", 0, ""},
		{recovering, "busy", "rRNR0", 0, "Recovery 64 200 own"},
		{inquiring, "busy", "rRNR2", 0, "Recovery 64 S3 A1 R2 sent2 left1 200 own"},
		{inquiring, "ready", "", 0, ""},
		{inquiring + " busy", "busy", "", 0, ""},
		{inquiring + " busy", "ready", "rRR2", 0, "Recovery 64 S3 A1 R2 sent2 left1 200"},
	})
}

var everyStart = []string{unassigned, awaitTEI, awaitLink, assigned, asking, calling, releasing, opened, working, recovering, inquiring}

// P14.2: what can't be asked is ErrArg, in each state, and ahead of ErrLong.
func TestAskNothing(t *testing.T) {
	for _, steps := range everyStart {
		e := at(t, config, steps)
		was := e.View()
		for _, a := range []entity.Ask{
			-1, 6, 7, -2, 128, 255, 256, 257, 259, -253, 1 << 16, 1<<16 + 3, 1 << 32, 1<<32 + 1, -1 << 32, math.MinInt, math.MinInt + 1, math.MinInt + 3, math.MaxInt, math.MaxInt - 1,
		} {
			for _, data := range []string{"", "x", strings.Repeat("x", maxInfo+1)} {
				if l, bad := e.Ask(a, data); len(l) != 0 || bad != api.ErrArg {
					t.Errorf("%s, Ask(%d) = %v, %v", show(was), a, l, bad)
				}
			}
		}
		if e.View() != was {
			t.Errorf("%s behind %s", show(e.View()), show(was))
		}
	}
}

// P14.2: Data and Unit of MaxInfo octets, and of more: those are ErrLong, ahead of ErrState and ErrFull. What else is asked may have any data.
func TestLong(t *testing.T) {
	most := strings.Repeat("\xff\x00", maxInfo/2)
	for _, steps := range everyStart {
		e := at(t, config, steps)
		was := e.View()
		for _, data := range []string{most + "x", most + most, strings.Repeat("ä", 131), strings.Repeat("x", 516), strings.Repeat("x", 1<<16), strings.Repeat("x", 1<<16+7)} {
			for _, a := range []entity.Ask{entity.Data, entity.Unit} {
				if l, bad := e.Ask(a, data); len(l) != 0 || bad != api.ErrLong {
					t.Errorf("%s, Ask(%d) of %d octets = %v, %v", show(was), a, len(data), l, bad)
				}
			}
		}
		if e.View() != was {
			t.Errorf("%s behind %s", show(e.View()), show(was))
		}
		for _, name := range []string{"est", "rel", "busy", "ready"} {
			one, other := at(t, config, steps), at(t, config, steps)
			want, wantBad := one.Ask(asks[name], "")
			got, bad := other.Ask(asks[name], most+"x")
			if !slices.Equal(got, want) || bad != wantBad || one.View() != other.View() {
				t.Errorf("%s, %q with data: %v, %v, want %v, %v", show(was), name, got, bad, want, wantBad)
			}
		}
	}
	e := at(t, config, opened)
	if got, bad := e.Ask(entity.Data, most); len(got) != 3 || got[0].Frame.Info != most || bad != api.OK {
		t.Errorf("Data of %d octets: %v, %v", len(most), got, bad)
	}
	if got, bad := e.Ask(entity.Unit, most); len(got) != 1 || got[0].Frame.Info != most || bad != api.OK {
		t.Errorf("Unit of %d octets: %v, %v", len(most), got, bad)
	}
	e = at(t, config, unassigned)
	if _, bad := e.Ask(entity.Unit, most); bad != api.OK {
		t.Errorf("Unit of %d octets: %v", len(most), bad)
	}
	if got, bad := e.Assign(7); len(got) != 1 || got[0].Frame.Info != most || bad != api.OK {
		t.Errorf("Assign behind a unit of %d octets: %v, %v", len(most), got, bad)
	}
	for _, steps := range []string{recovering, calling} {
		e := at(t, config, steps)
		if _, bad := e.Ask(entity.Data, most); bad != api.OK {
			t.Errorf("%q, Data of %d octets: %v", steps, len(most), bad)
		}
	}
}

// P14.2: Data till the queue is full, in each state that takes some; room comes with an answer.
func TestQueueFull(t *testing.T) {
	for _, x := range []struct {
		steps string
		had   int
	}{{opened, 0}, {working, 3}, {recovering, 0}, {inquiring, 3}, {calling, 3}, {opened + " rRNR0", 0}} {
		e := at(t, config, x.steps)
		for range maxQueue - x.had {
			if _, bad := e.Ask(entity.Data, "x"); bad != api.OK {
				t.Fatalf("%s: %v", show(e.View()), bad)
			}
		}
		if v := e.View().Flow; v.Sent+v.Left != maxQueue {
			t.Errorf("%d of %d payloads behind %q", v.Sent+v.Left, maxQueue, x.steps)
		}
		for range 3 {
			hold(t, e, "d:x", "", api.ErrFull)
			hold(t, e, "d:", "", api.ErrFull)
		}
		if l, bad := e.Ask(entity.Data, strings.Repeat("x", maxInfo+1)); len(l) != 0 || bad != api.ErrLong {
			t.Errorf("too long a payload for a full queue: %v, %v", l, bad)
		}
	}
	e := at(t, config, opened)
	for range maxQueue {
		do(e, "d:x")
	}
	run(t, e, "d:y !10", "rRR1 > +200 cI2/0:x", "d:y >", "d:z !10")
	holdView(t, e, "Open 64 S3 A1 sent2 left254 200")
}

// P14.2 and P14.3: units till MaxQueue wait, and one more; all of them are sent, in order.
func TestUnitsFull(t *testing.T) {
	for _, steps := range []string{"", "est"} {
		e := at(t, config, steps)
		var want []string
		for i := range maxQueue {
			data := strconv.Itoa(i)
			if l, bad := e.Ask(entity.Unit, data); bad != api.OK || (len(l) != 0) != (i == 0 && steps == "") {
				t.Fatalf("unit %d: %v, %v", i, l, bad)
			}
			want = append(want, "cUI:"+data)
			if got := e.View().Units; got != i+1 {
				t.Fatalf("%d units wait behind unit %d", got, i)
			}
		}
		for range 3 {
			hold(t, e, "u:more", "", api.ErrFull)
			hold(t, e, "u:", "", api.ErrFull)
		}
		if l, bad := e.Ask(entity.Unit, strings.Repeat("x", maxInfo+1)); len(l) != 0 || bad != api.ErrLong {
			t.Errorf("too long a unit while MaxQueue wait: %v, %v", l, bad)
		}
		told, view := strings.Join(want, " "), "Assigned 64"
		if steps != "" {
			told, view = told+" cSABMEp +200", "Connecting 64 asked 200"
		}
		hold(t, e, "A64", told, api.OK)
		holdView(t, e, view)
		hold(t, e, "u:more", "cUI:more", api.OK)
		do(e, "X")
		hold(t, e, "u:again", "TEI", api.OK)
		if got := e.View().Units; got != 1 {
			t.Errorf("%d units wait behind the first one of another TEI", got)
		}
		hold(t, e, "A65", "cUI:again", api.OK)
	}
}

// P14.3: units that wait when a TEI is assigned, with and without an Establish.
func TestAssign(t *testing.T) {
	holdRows(t, []row{
		{unassigned, "A64", "", 0, "Assigned 64"},
		{"u:a", "A64", "cUI:a", 0, "Assigned 64"},
		{"u:a u:b u: u:c", "A99", "cUI:a cUI:b cUI cUI:c", 0, "Assigned 99"},
		{"est", "A64", "cSABMEp +200", 0, "Connecting 64 asked 200"},
		{"u:a est u:b", "A64", "cUI:a cUI:b cSABMEp +200", 0, "Connecting 64 asked 200"},
		{"est u:a", "A64", "cUI:a cSABMEp +200", 0, "Connecting 64 asked 200"},
		{"A64 X u:a", "A65", "cUI:a", 0, "Assigned 65"},
		{opened + " X", "A65", "", 0, "Assigned 65"},
		{working + " X est", "A65", "cSABMEp +200", 0, "Connecting 65 S1 A1 R2 asked 200"},
		{asking + " T200 T200 X est", "A65", "cSABMEp +200", 0, "Connecting 65 asked 200"},
	})
}

// P14.3: which TEIs there are; each is the one of all frames from then on.
func TestAssignEach(t *testing.T) {
	for _, steps := range []string{unassigned, awaitTEI, awaitLink} {
		e := at(t, config, steps)
		was := e.View()
		for _, tei := range []int{
			lastTEI + 1, lastTEI + 2, -1, -2, -64, 192, 255, 256, 256 + 64, 1 << 16, 1<<16 + 64, 1 << 32, 1<<32 + 64, math.MinInt, math.MinInt + 64, math.MaxInt, math.MaxInt - 63,
		} {
			if l, bad := e.Assign(tei); len(l) != 0 || bad != api.ErrArg || e.View() != was {
				t.Errorf("%s, Assign(%d) = %v, %v", show(was), tei, l, bad)
			}
		}
		for tei := range lastTEI + 1 {
			e := at(t, config, steps)
			if _, bad := e.Assign(tei); bad != api.OK || e.View().TEI != tei {
				t.Errorf("Assign(%d): %v, %s", tei, bad, show(e.View()))
			}
		}
	}
	for _, tei := range []string{"0", "1", "63", "64", "126"} {
		e := at(t, config, "u:a est A"+tei)
		run(t, e, "u:b > cUI:b", "rUAp > EC -200 +203", "d:c > cI0/0:c -203 +200", "cI0/1p:d > D:d rRR1p -200 +203")
		holdView(t, e, "Open "+tei+" S1 A1 R1 203")
	}
}

// P14.3: of one that has a TEI, in each state: ErrThere, behind ErrArg.
func TestAssignThere(t *testing.T) {
	for _, steps := range []string{assigned, "A0", asking, calling, releasing, opened, working, recovering, inquiring} {
		for _, step := range []string{"A64", "A0", "A65", "A126"} {
			holdRows(t, []row{{steps, step, "", api.ErrThere, ""}})
		}
		for _, step := range []string{"A127", "A-1", "A255"} {
			holdRows(t, []row{{steps, step, "", api.ErrArg, ""}})
		}
	}
}

// P14.4: Remove, in each state.
func TestRemove(t *testing.T) {
	holdRows(t, []row{
		{unassigned, "X", "", api.ErrNone, ""},
		{"A64 X", "X", "", api.ErrNone, ""},
		{awaitTEI, "X", "", 0, "Unassigned -1"},
		{"u:a u:b u:c", "X", "", 0, "Unassigned -1"},
		{awaitLink, "X", "RI", 0, "Unassigned -1"},
		{"u:a est", "X", "RI", 0, "Unassigned -1"},
		{assigned, "X", "", 0, "Unassigned -1"},
		{"A0", "X", "", 0, "Unassigned -1"},
		{asking, "X", "-200 RI", 0, "Unassigned -1 asked"},
		{asking + " T200", "X", "-200 RI", 0, "Unassigned -1 tries1 asked"},
		{calling, "X", "-200 RI", 0, "Unassigned -1 S1 A1 R2"},
		{releasing, "X", "-200 RC", 0, "Unassigned -1"},
		{opened, "X", "-203 RI", 0, "Unassigned -1"},
		{working, "X", "-200 RI", 0, "Unassigned -1 S1 A1 R2"},
		{opened + " busy rRNR0 cI5/0:x", "X", "-200 RI", 0, "Unassigned -1 peer own"},
		{recovering, "X", "-200 RI", 0, "Unassigned -1"},
		{inquiring + " T200", "X", "-200 RI", 0, "Unassigned -1 tries1 S1 A1 R2"},
	})
}

// P14.4: behind Remove it is one without a TEI: no frame counts, no timer is over, no unit waits.
func TestRemoved(t *testing.T) {
	for _, steps := range everyStart[1:] {
		e := at(t, config, steps+" X")
		was := e.View()
		for _, f := range everyFrame() {
			if l := e.Frame(f); len(l) != 0 {
				t.Errorf("%q: Frame(%+v) = %v", steps, f, l)
			}
		}
		run(t, e, "T200 >", "T203 >", "d:x !12", "rel !12", "busy !12", "X !11")
		if e.View() != was {
			t.Errorf("%s behind %s", show(e.View()), show(was))
		}
		run(t, e, "A70 >", "est > cSABMEp +200", "rUAp > EC -200 +203", "d:x > cI0/0:x -203 +200")
		holdView(t, e, "Open 70 S1 sent1 200")
	}
}

// name: a frame in short.
func name(f frame.Frame) string {
	out := "r"
	if f.Command {
		out = "c"
	}
	out += f.Kind.Name()
	if f.PF {
		out += "p"
	}
	return out
}

// P14.5 and P14.6: each kind of frame, as a command and as a response, with and without P/F, in each state; N(S) is the right one, N(R) answers nothing. Frames of which a row tells nothing tell nothing and change nothing.
func TestEachFrame(t *testing.T) {
	both := func(rows map[string][2]string, also map[string][2]string) map[string][2]string {
		out := map[string][2]string{}
		for _, m := range []map[string][2]string{rows, also} {
			for k, v := range m {
				out[k] = v
			}
		}
		return out
	}
	unit := map[string][2]string{"cUI": {"U:", ""}, "cUIp": {"U:", ""}}
	connecting := both(unit, map[string][2]string{
		"cSABME": {"rUA", ""}, "cSABMEp": {"rUAp", ""}, "cDISC": {"rDM", ""}, "cDISCp": {"rDMp", ""}, "rUA": {"E:D", ""},
	})
	for _, x := range []struct {
		steps  string
		ns, nr int
		rows   map[string][2]string // what is told, and the view behind it, if it is another
	}{
		{unassigned, 0, 0, nil}, {awaitTEI, 0, 0, nil}, {awaitLink, 0, 0, nil},
		{assigned, 0, 0, both(unit, map[string][2]string{
			"cSABME": {"rUA EI +203", "Open 64 203"}, "cSABMEp": {"rUAp EI +203", "Open 64 203"},
			"cDISC": {"rDM", ""}, "cDISCp": {"rDMp", ""},
			"rUA": {"E:D", ""}, "rUAp": {"E:C", ""},
			"rDM": {"cSABMEp +200", "Connecting 64 asked 200"},
		})},
		{asking, 0, 0, both(connecting, map[string][2]string{
			"rUAp": {"EC -200 +203", "Open 64 203"}, "rDMp": {"RI -200", "Assigned 64 asked"},
		})},
		{calling, 2, 1, both(connecting, map[string][2]string{
			"rUAp": {"EI -200 +203", "Open 64 203"}, "rDMp": {"RI -200", "Assigned 64 S1 A1 R2"},
		})},
		{releasing, 0, 0, both(unit, map[string][2]string{
			"cSABME": {"rDM", ""}, "cSABMEp": {"rDMp", ""}, "cDISC": {"rUA", ""}, "cDISCp": {"rUAp", ""}, "rUA": {"E:D", ""},
			"rUAp": {"RC -200", "Assigned 64"}, "rDMp": {"RC -200", "Assigned 64"},
		})},
		{opened, 0, 0, both(unit, map[string][2]string{
			"cSABME": {"rUA E:F +203", ""}, "cSABMEp": {"rUAp E:F +203", ""},
			"cDISC": {"rUA RI -203", "Assigned 64"}, "cDISCp": {"rUAp RI -203", "Assigned 64"},
			"rUA": {"E:D", ""}, "rUAp": {"E:C", ""},
			"rDM": {"E:E cSABMEp -203 +200", "Connecting 64 200"}, "rDMp": {"E:B cSABMEp -203 +200", "Connecting 64 200"},
			"rFRMR": {"E:K cSABMEp -203 +200", "Connecting 64 200"}, "rFRMRp": {"E:K cSABMEp -203 +200", "Connecting 64 200"},
			"cI": {"D: rRR1 +203", "Open 64 R1 203"}, "cIp": {"D: rRR1p +203", "Open 64 R1 203"},
			"cRR": {"+203", ""}, "cRRp": {"rRR0p +203", ""}, "rRR": {"+203", ""}, "rRRp": {"E:A +203", ""},
			"cRNR": {"-203 +200", "Open 64 200 peer"}, "cRNRp": {"rRR0p -203 +200", "Open 64 200 peer"},
			"rRNR": {"-203 +200", "Open 64 200 peer"}, "rRNRp": {"E:A -203 +200", "Open 64 200 peer"},
			"cREJ": {"+203", ""}, "cREJp": {"rRR0p +203", ""}, "rREJ": {"+203", ""}, "rREJp": {"E:A +203", ""},
		})},
		{working, 2, 1, both(unit, map[string][2]string{
			"cSABME": {"rUA E:F EI -200 +203", "Open 64 203"}, "cSABMEp": {"rUAp E:F EI -200 +203", "Open 64 203"},
			"cDISC": {"rUA RI -200", "Assigned 64 S1 A1 R2"}, "cDISCp": {"rUAp RI -200", "Assigned 64 S1 A1 R2"},
			"rUA": {"E:D", ""}, "rUAp": {"E:C", ""},
			"rDM": {"E:E cSABMEp +200", "Connecting 64 S3 A1 R2 sent2 left1 200"}, "rDMp": {"E:B cSABMEp +200", "Connecting 64 S3 A1 R2 sent2 left1 200"},
			"rFRMR": {"E:K cSABMEp +200", "Connecting 64 S3 A1 R2 sent2 left1 200"}, "rFRMRp": {"E:K cSABMEp +200", "Connecting 64 S3 A1 R2 sent2 left1 200"},
			"cI": {"D: rRR3", "Open 64 S3 A1 R3 sent2 left1 200"}, "cIp": {"D: rRR3p", "Open 64 S3 A1 R3 sent2 left1 200"},
			"cRRp": {"rRR2p", ""}, "rRRp": {"E:A", ""},
			"cRNR": {"+200", "Open 64 S3 A1 R2 sent2 left1 200 peer"}, "cRNRp": {"rRR2p +200", "Open 64 S3 A1 R2 sent2 left1 200 peer"},
			"rRNR": {"+200", "Open 64 S3 A1 R2 sent2 left1 200 peer"}, "rRNRp": {"E:A +200", "Open 64 S3 A1 R2 sent2 left1 200 peer"},
			"cREJ": {"-200 +203 cI1/2:b -203 +200 cI2/2:c", ""}, "cREJp": {"rRR2p -200 +203 cI1/2:b -203 +200 cI2/2:c", ""},
			"rREJ": {"-200 +203 cI1/2:b -203 +200 cI2/2:c", ""}, "rREJp": {"E:A -200 +203 cI1/2:b -203 +200 cI2/2:c", ""},
		})},
		{recovering, 0, 0, both(unit, map[string][2]string{
			"cSABME": {"rUA E:F -200 +203", "Open 64 203"}, "cSABMEp": {"rUAp E:F -200 +203", "Open 64 203"},
			"cDISC": {"rUA RI -200", "Assigned 64"}, "cDISCp": {"rUAp RI -200", "Assigned 64"},
			"rUA": {"E:D", ""}, "rUAp": {"E:C", ""},
			"rDM": {"E:E cSABMEp +200", "Connecting 64 200"}, "rDMp": {"E:B cSABMEp +200", "Connecting 64 200"},
			"rFRMR": {"E:K cSABMEp +200", "Connecting 64 200"}, "rFRMRp": {"E:K cSABMEp +200", "Connecting 64 200"},
			"cI": {"D: rRR1", "Recovery 64 R1 200"}, "cIp": {"D: rRR1p", "Recovery 64 R1 200"},
			"cRRp": {"rRR0p", ""}, "rRRp": {"-200 +203", "Open 64 203"},
			"cRNR": {"", "Recovery 64 200 peer"}, "cRNRp": {"rRR0p", "Recovery 64 200 peer"}, "rRNR": {"", "Recovery 64 200 peer"}, "rRNRp": {"+200", "Open 64 200 peer"},
			"cREJp": {"rRR0p", ""}, "rREJp": {"-200 +203", "Open 64 203"},
		})},
		{inquiring, 2, 1, both(unit, map[string][2]string{
			"cSABME": {"rUA E:F EI -200 +203", "Open 64 203"}, "cSABMEp": {"rUAp E:F EI -200 +203", "Open 64 203"},
			"cDISC": {"rUA RI -200", "Assigned 64 S1 A1 R2"}, "cDISCp": {"rUAp RI -200", "Assigned 64 S1 A1 R2"},
			"rUA": {"E:D", ""}, "rUAp": {"E:C", ""},
			"rDM": {"E:E cSABMEp +200", "Connecting 64 S3 A1 R2 sent2 left1 200"}, "rDMp": {"E:B cSABMEp +200", "Connecting 64 S3 A1 R2 sent2 left1 200"},
			"rFRMR": {"E:K cSABMEp +200", "Connecting 64 S3 A1 R2 sent2 left1 200"}, "rFRMRp": {"E:K cSABMEp +200", "Connecting 64 S3 A1 R2 sent2 left1 200"},
			"cI": {"D: rRR3", "Recovery 64 S3 A1 R3 sent2 left1 200"}, "cIp": {"D: rRR3p", "Recovery 64 S3 A1 R3 sent2 left1 200"},
			"cRRp": {"rRR2p", ""}, "rRRp": {"-200 +203 cI1/2:b -203 +200 cI2/2:c", "Open 64 S3 A1 R2 sent2 left1 200"},
			"cRNR": {"", "Recovery 64 S3 A1 R2 sent2 left1 200 peer"}, "cRNRp": {"rRR2p", "Recovery 64 S3 A1 R2 sent2 left1 200 peer"},
			"rRNR": {"", "Recovery 64 S3 A1 R2 sent2 left1 200 peer"}, "rRNRp": {"+200", "Open 64 S1 A1 R2 left3 200 peer"},
			"cREJp": {"rRR2p", ""}, "rREJp": {"-200 +203 cI1/2:b -203 +200 cI2/2:c", "Open 64 S3 A1 R2 sent2 left1 200"},
		})},
	} {
		met := 0
		for _, f := range everyFrame() {
			f.NS, f.NR = x.ns, x.nr
			e := at(t, config, x.steps)
			was := e.View()
			want, some := x.rows[name(f)]
			if some {
				met++
			}
			if got := e.Frame(f); !slices.Equal(got, effects(64, want[0])) {
				t.Errorf("%s, %s: %+v, want %q", show(was), name(f), got, want[0])
			}
			if want[1] == "" {
				want[1] = show(was)
			}
			if got := show(e.View()); got != want[1] {
				t.Errorf("%s, %s: %s behind it, want %s", show(was), name(f), got, want[1])
			}
		}
		if met != len(x.rows) {
			t.Errorf("%q: %d of %d rows were met", x.steps, met, len(x.rows))
		}
	}
}

// P14.5: whatever its link is, a frame counts; what is sent has the entity's own.
func TestOtherLink(t *testing.T) {
	for _, link := range []addr.Link{
		{}, {SAPI: 0, TEI: 64}, {SAPI: 0, TEI: 65}, {SAPI: 0, TEI: 127}, {SAPI: 63, TEI: 127}, {SAPI: 16, TEI: 64}, {SAPI: -1, TEI: -1}, {SAPI: math.MaxInt, TEI: math.MinInt},
	} {
		for _, steps := range []string{assigned, asking, calling, releasing, opened, working, recovering, inquiring} {
			for _, f := range everyFrame() {
				one, other := at(t, config, steps), at(t, config, steps)
				want := one.Frame(f)
				f.Link = link
				if got := other.Frame(f); !slices.Equal(got, want) || one.View() != other.View() {
					t.Errorf("%q, %s of %v: %v, want %v", steps, name(f), link, got, want)
				}
			}
		}
	}
}

// P14.5: the information of UI, in each state with a TEI.
func TestUnitTold(t *testing.T) {
	for _, steps := range []string{assigned, asking, calling, releasing, opened, working, recovering, inquiring} {
		e := at(t, config, steps)
		was := e.View()
		for _, info := range []string{"", "x", "\x00\xff", strings.Repeat("ä", 130), strings.Repeat("x", maxInfo)} {
			for _, pf := range []bool{false, true} {
				want := []entity.Effect{{Kind: entity.UnitTold, Data: info}}
				if got := e.Frame(frame.Frame{Command: true, Kind: ctrl.UI, PF: pf, NS: 9, NR: 9, Info: info}); !slices.Equal(got, want) || e.View() != was {
					t.Errorf("%q: UI of %d octets: %v", steps, len(info), got)
				}
			}
		}
	}
}

// P14.5: frames that May or Carries doesn't let be, and those of a kind that isn't: nothing, in each state.
func TestNoFrame(t *testing.T) {
	var frames []frame.Frame
	for _, f := range everyFrame() {
		if !frame.May(f.Kind, f.Command) {
			frames = append(frames, f)
			continue
		}
		for _, n := range []int{0, 1, 4, 5, 6, maxInfo, maxInfo + 1, 2 * maxInfo, 1 << 16, 1<<16 + 5} {
			if !frame.Carries(f.Kind, n) {
				g := f
				g.Info = strings.Repeat("x", n)
				frames = append(frames, g)
			}
		}
	}
	for _, k := range []ctrl.Kind{ctrl.Kinds, ctrl.Kinds + 1, 16, 255, 256, 262, 1 << 16, 1<<16 + 6, 1 << 32, 1<<32 + 6, -1, -2, -10, -250, -256, -1 << 32, math.MinInt, math.MinInt + 6, math.MaxInt} {
		for n := range 4 {
			frames = append(frames, frame.Frame{Command: n&1 != 0, Kind: k, PF: n&2 != 0}, frame.Frame{Command: n&1 != 0, Kind: k, PF: n&2 != 0, Info: "12345"})
		}
	}
	for _, steps := range everyStart {
		e := at(t, config, steps)
		was := e.View()
		for _, f := range frames {
			if l := e.Frame(f); len(l) != 0 || e.View() != was {
				t.Fatalf("%q: Frame(%.40v) = %v, %s", steps, f, l, show(e.View()))
			}
		}
	}
}

// multiples of 128, up to the last ones from which on to the least and the greatest int no other one is.
var multiples = []int{
	0, 128, -128, 256, -256, 65536, -65536, 1 << 31, -1 << 31, 1 << 32, -1 << 32, 1 << 62, -1 << 62, math.MaxInt - 127, math.MaxInt - 255, math.MinInt, math.MinInt + 128,
}

// P14.5 and P14.6: N(S) and N(R) that are the same modulo 128 count as the same; what is told has them from 0 to 127.
func TestNumbersModulo(t *testing.T) {
	for _, steps := range []string{opened, working, recovering, inquiring, working + " cI5/1:w", working + " busy"} {
		for n := range modulus {
			for _, m := range multiples {
				for _, f := range []frame.Frame{
					{Command: true, Kind: ctrl.I, NS: n, NR: 3, Info: "i"},
					{Command: true, Kind: ctrl.I, NS: 2, NR: n, PF: true, Info: "i"},
					{Kind: ctrl.RR, NR: n}, {Kind: ctrl.REJ, NR: n, PF: true}, {Command: true, Kind: ctrl.RNR, NR: n, PF: true},
				} {
					if m == 0 || (n+len(steps))%9 != 0 && n > 4 && n < 126 { // the numbers next to those that count, and some others
						continue
					}
					one, other := at(t, config, steps), at(t, config, steps)
					want := one.Frame(f)
					f.NS, f.NR = f.NS+m, f.NR+m
					if got := other.Frame(f); !slices.Equal(got, want) || one.View() != other.View() {
						t.Fatalf("%q, Frame(%+v): %v, want %v", steps, f, got, want)
					}
				}
			}
		}
	}
	e := at(t, config, opened)
	f := frame.Frame{Command: true, Kind: ctrl.I, Info: "i"}
	for _, ns := range []int{math.MinInt, -127, math.MaxInt - 125, 3} {
		f.NS = ns
		if got := e.Frame(f); len(got) != 3 || got[0].Kind != entity.DataTold {
			t.Errorf("%s, N(S) %d: %v", show(e.View()), ns, got)
		}
	}
	for _, nr := range []int{math.MaxInt, math.MinInt + 1, -1, 127, 1} {
		e := at(t, config, opened)
		if got := e.Frame(frame.Frame{Kind: ctrl.RR, NR: nr}); !slices.Equal(got, effects(64, "E:J cSABMEp -203 +200")) {
			t.Errorf("N(R) %d, of nothing sent: %v", nr, got)
		}
	}
}

// P14.6: of numbers that a kind doesn't have nothing hangs.
func TestNumbersOfOthers(t *testing.T) {
	for _, steps := range []string{assigned, asking, calling, releasing, opened, working, recovering, inquiring} {
		for _, f := range everyFrame() {
			one, other := at(t, config, steps), at(t, config, steps)
			want := one.Frame(f)
			if !f.Kind.Numbered() {
				f.NR = 77
			}
			if f.Kind != ctrl.I {
				f.NS = 99
			}
			if got := other.Frame(f); !slices.Equal(got, want) || one.View() != other.View() {
				t.Errorf("%q, %s with other numbers: %v, want %v", steps, name(f), got, want)
			}
		}
	}
}

// P14.6: an N(R) that may not come, below V(A) and above V(S): what comes ahead of it is done, then it calls anew with J. The payloads stay, and its user may go on handing in some.
func TestWrongNR(t *testing.T) {
	const view = "Connecting 64 S3 A1 R2 sent2 left1 200"
	for _, nr := range []string{"0", "4", "5", "64", "126", "127"} {
		for _, steps := range []string{working, inquiring} {
			letterA := "E:A "
			if steps == inquiring {
				letterA = ""
			}
			holdRows(t, []row{
				{steps, "rRR" + nr, "E:J cSABMEp +200", 0, view},
				{steps, "rRR" + nr + "p", letterA + "E:J cSABMEp +200", 0, view},
				{steps, "cRR" + nr, "E:J cSABMEp +200", 0, view},
				{steps, "cRR" + nr + "p", "rRR2p E:J cSABMEp +200", 0, view},
				{steps, "rRNR" + nr, "E:J cSABMEp +200", 0, view + " peer"},
				{steps + " rRNR1", "cREJ" + nr + "p", "rRR2p E:J cSABMEp +200", 0, view},
				{steps, "rREJ" + nr + "p", letterA + "E:J cSABMEp +200", 0, view},
				{steps, "cI2/" + nr + ":i", "D:i rRR3 E:J cSABMEp +200", 0, "Connecting 64 S3 A1 R3 sent2 left1 200"},
				{steps, "cI3/" + nr + "p:i", "rREJ2p E:J cSABMEp +200", 0, view + " refused"},
				{steps + " cI3/1", "cI3/" + nr + "p:i", "rRR2p E:J cSABMEp +200", 0, view + " refused"},
				{steps + " busy", "cI2/" + nr + "p:i", "rRNR2p E:J cSABMEp +200", 0, view + " own"},
			})
		}
	}
	e := at(t, config, working+" rRR4")
	run(t, e, "d:e >", "rRR2 >", "cI2/1:i >", "T203 >", "T200 > cSABMEp +200", "rUAp > EI -200 +203", "d:f > cI0/0:f -203 +200")
	holdView(t, e, "Open 64 tries1 S1 sent1 200")
}

// P14.6: REJ, once, behind a wrong N(S), with F as P; others behind it are answered with P alone; and REJ again behind the right one.
func TestRefuse(t *testing.T) {
	e := at(t, config, opened)
	run(t, e,
		"cI1/0:b > rREJ0 +203", "cI2/0:c > +203", "cI2/0p:c > rRR0p +203", "cI127/0:x > +203",
		"cI0/0:a > D:a rRR1 +203", "cI2/0p:c > rREJ1p +203", "cI0/0:a > +203", "cI0/0p:a > rRR1p +203",
		"cI1/0p:b > D:b rRR2p +203", "cI3/0:d > rREJ2 +203", "cI2/0:c > D:c rRR3 +203", "cI3/0:d > D:d rRR4 +203",
	)
	holdView(t, e, "Open 64 R4 203")
	e = at(t, config, recovering)
	run(t, e, "cI1/0:b > rREJ0", "cI1/0:b >", "cI1/0p:b > rRR0p", "cI0/0p:a > D:a rRR1p", "cI2/0p:c > rREJ1p", "rRR0p > -200 +203", "cI2/0p:c > rRR1p +203")
	holdView(t, e, "Open 64 R1 203 refused")
}

// P14.6: what comes behind REJ of the peer: all that is unanswered, from its N(R) on, in order.
func TestRefused(t *testing.T) {
	e := at(t, entity.Config{K: 4, N200: 2}, opened+" d:a d:b d:c d:d d:e d:f")
	run(t, e,
		"rREJ1 > -200 +203 cI1/0:b -203 +200 cI2/0:c cI3/0:d cI4/0:e",
		"cREJ3p > rRR0p -200 +203 cI3/0:d -203 +200 cI4/0:e cI5/0:f",
		"rREJ6 > -200 +203", "d:g > cI6/0:g -203 +200", "rRNR7 > +200", "d:h >", "rREJ7 > -200 +203 cI7/0:h -203 +200",
	)
	holdView(t, e, "Open 64 S8 A7 sent1 200")
}

// P14.6: RNR and RR in Open, with payloads unanswered and without.
func TestPeerBusyOpen(t *testing.T) {
	e := at(t, config, opened)
	run(t, e,
		"rRNR0 > -203 +200", "rRNR0 > +200", "d:a >", "d:b >", "cRNR0p > rRR0p +200", "rRR0 > -200 +203 cI0/0:a -203 +200 cI1/0:b", "d:c >",
		"rRNR1 > +200", "d:d >", "rRNR2 > +200", "cI0/2:i > D:i rRR1", "cI1/2p:j > D:j rRR2p", "rRR2 > -200 +203 cI2/2:c -203 +200 cI3/2:d",
		"cRR3 > +200", "cRR3 >", "cRR3p > rRR2p", "rRR4 > -200 +203", "rRR4 > +203",
	)
	holdView(t, e, "Open 64 S4 A4 R2 203")
}

// P14.6: an I frame answers payloads too; while the peer is busy it moves no timer.
func TestInfoAnswers(t *testing.T) {
	e := at(t, config, opened+" d:a d:b d:c d:d")
	run(t, e,
		"cI0/0:i > D:i rRR1", "cI1/1:j > D:j rRR2 +200 cI2/2:c", "cI9/2:w > rREJ2 +200 cI3/2:d", "cI9/3p:w > rRR2p +200", "cI2/4:k > D:k rRR3 -200 +203",
		"d:e > cI4/3:e -203 +200", "rRNR4 > +200", "d:f >", "cI3/5:l > D:l rRR4", "cI5/5:w > rREJ4", "cI5/5p:w > rRR4p", "rRR5 > -200 +203 cI5/4:f -203 +200",
	)
	holdView(t, e, "Open 64 S6 A5 R4 sent1 200 refused")
}

// P14.6: RNR and RR in Recovery: of a response with F alone it is Open again, and all that is unanswered is sent again.
func TestPeerBusyRecovery(t *testing.T) {
	e := at(t, config, inquiring)
	run(t, e, "rRR2 >", "cRR2 >", "cRR2p > rRR2p", "rREJ2 >", "cREJ3p > rRR2p", "cRNR3 >", "cI2/3:i > D:i rRR3", "cI9/3:i > rREJ3", "cI9/3p:i > rRR3p", "d:e >")
	holdView(t, e, "Recovery 64 S3 A3 R3 left2 200 peer refused")
	run(t, e, "rRNR3p > +200")
	holdView(t, e, "Open 64 S3 A3 R3 left2 200 peer refused")
	run(t, e, "T200 > cRR3p +200", "rRR3p > -200 +203 cI3/3:d -203 +200 cI4/3:e", "T200 > cRR3p +200", "rRNR4p > +200")
	holdView(t, e, "Open 64 S4 A4 R3 left1 200 peer refused")
	run(t, e, "rRR4 > -200 +203 cI4/3:e -203 +200", "T200 > cRR3p +200", "rREJ4p > -200 +203 cI4/3:e -203 +200", "T200 > cRR3p +200", "rRR5p > -200 +203")
	holdView(t, e, "Open 64 S5 A5 R3 203 refused")
}

// P14.6: while this side is busy no I frame is told, and it is answered, with RNR, with P alone; its N(R) counts.
func TestOwnBusy(t *testing.T) {
	e := at(t, config, opened+" d:a d:b d:c")
	run(t, e,
		"busy > rRNR0", "cI0/0:i >", "cI0/0p:i > rRNR0p", "cI0/1:i > +200 cI2/0:c", "cI7/2p:i > rRNR0p +200", "cRR2p > rRNR0p", "cI0/3p:i > rRNR0p -200 +203", "cRR3p > rRNR0p +203",
		"T203 > cRNR0p +200", "cI0/3:i >", "cI0/3p:i > rRNR0p", "T200 > cRNR0p +200", "ready > rRR0", "cI0/3:i > D:i rRR1", "busy > rRNR1", "rRR3p > -200 +203", "ready > rRR1", "cI1/3:j > D:j rRR2 +203",
	)
	holdView(t, e, "Open 64 tries1 S3 A3 R2 203")
}

// P14.6: a window that is used up goes on behind an answer, with as many as were answered; for all windows that there are.
func TestWindow(t *testing.T) {
	for _, x := range []struct{ k, window int }{
		{1, 1}, {2, 2}, {7, 7}, {126, 126}, {127, 127}, {128, 127}, {129, 127}, {255, 127}, {256, 127}, {257, 127}, {1 << 32, 127}, {1<<32 + 5, 127}, {math.MaxInt, 127},
		{0, 1}, {-1, 1}, {-5, 1}, {-127, 1}, {-128, 1}, {math.MinInt, 1}, {math.MinInt + 5, 1},
	} {
		e := at(t, entity.Config{K: x.k, N200: 1}, opened)
		sent := 0
		count := func(l []entity.Effect) {
			for _, one := range l {
				if one.Kind == entity.Send && one.Frame.Kind == ctrl.I {
					if one.Frame.NS != sent%modulus || one.Frame.Info != strconv.Itoa(sent) {
						t.Fatalf("K %d: %d, %q is sent, want %d", x.k, one.Frame.NS, one.Frame.Info, sent)
					}
					sent++
				}
			}
		}
		for n := range maxQueue {
			l, bad := e.Ask(entity.Data, strconv.Itoa(n))
			if bad != api.OK {
				t.Fatal(bad)
			}
			count(l)
		}
		if sent != x.window {
			t.Errorf("K %d: %d are sent, want %d", x.k, sent, x.window)
		}
		count(e.Frame(frame.Frame{Kind: ctrl.RR, NR: 1}))
		if sent != x.window+1 {
			t.Errorf("K %d: %d are sent behind an answer, want %d", x.k, sent, x.window+1)
		}
		for range maxQueue {
			count(e.Frame(frame.Frame{Command: true, Kind: ctrl.I, NS: 99, NR: sent}))
		}
		if sent != maxQueue {
			t.Errorf("K %d: %d of %d are sent", x.k, sent, maxQueue)
		}
		holdView(t, e, "Open 64 203 refused")
	}
}

// P14.5: SABME and UA with payloads that count as sent: all are given up, and the user is told.
func TestBeginAnewSent(t *testing.T) {
	holdRows(t, []row{
		{opened + " d:a", "cSABMEp", "rUAp E:F EI -200 +203", 0, "Open 64 203"},
		{opened + " d:a d:b d:c", "cSABME", "rUA E:F EI -200 +203", 0, "Open 64 203"},
		{opened + " d:a d:b d:c rRR1", "cSABME", "rUA E:F EI -200 +203", 0, "Open 64 203"},
		{opened + " d:a d:b d:c T200", "cSABME", "rUA E:F EI -200 +203", 0, "Open 64 203"},
		{opened + " d:a rFRMR:12345", "rUAp", "EI -200 +203", 0, "Open 64 203"},
		{calling + " d:e", "rUAp", "EI -200 +203", 0, "Open 64 203"},
		{calling + " T200", "rUAp", "EI -200 +203", 0, "Open 64 tries1 203"},
	})
}

// P14.5: and with payloads none of which counts as sent: they are sent, from 0 on; nothing that was set is any more.
func TestBeginAnewUnsent(t *testing.T) {
	const busy = opened + " cI0/0:x cI9/0:y busy rRNR0 d:a d:b d:c"
	holdRows(t, []row{
		{opened, "cSABMEp", "rUAp E:F +203", 0, "Open 64 203"},
		{opened + " d:a d:b rRR2", "cSABMEp", "rUAp E:F +203", 0, "Open 64 203"},
		{busy, "cSABME", "rUA E:F -200 +203 cI0/0:a -203 +200 cI1/0:b", 0, "Open 64 S2 sent2 left1 200"},
		{recovering + " d:a", "cSABME", "rUA E:F -200 +203 cI0/0:a -203 +200", 0, "Open 64 S1 sent1 200"},
		{opened + " rFRMR:12345", "rUAp", "-200 +203", 0, "Open 64 203"},
		{opened + " rFRMR:12345 d:a d:b d:c", "rUAp", "-200 +203 cI0/0:a -203 +200 cI1/0:b", 0, "Open 64 S2 sent2 left1 200"},
		{busy + " rFRMR:12345", "rUAp", "-200 +203 cI0/0:a -203 +200 cI1/0:b", 0, "Open 64 S2 sent2 left1 200"},
		{inquiring + " rRNR2p rDM", "rUAp", "-200 +203 cI0/0:c -203 +200 cI1/0:d", 0, "Open 64 S2 sent2 200"},
	})
}

// P14.5: with UA its own user is told that what he asked for is done, also when the entity called anew ahead of his asking; from then on he counts as not asking.
func TestConnected(t *testing.T) {
	holdRows(t, []row{
		{asking, "rUAp", "EC -200 +203", 0, "Open 64 203"},
		{asking + " T200", "rUAp", "EC -200 +203", 0, "Open 64 tries1 203"},
		{working + " est", "rUAp", "EC -200 +203", 0, "Open 64 203"},
		{calling + " est", "rUAp", "EC -200 +203", 0, "Open 64 203"},
		{"A64 rDM", "rUAp", "EC -200 +203", 0, "Open 64 203"},
		{"est A64", "rUAp", "EC -200 +203", 0, "Open 64 203"},
		{opened + " rDMp", "rUAp", "-200 +203", 0, "Open 64 203"},
	})
	e := at(t, config, opened)
	run(t, e, "rDM > E:E cSABMEp -203 +200", "d:a >", "est >", "d:b !12", "rUAp > EC -200 +203", "d:c > cI0/0:c -203 +200")
}

// Both ends call at once: the link is made, and each is told so once.
func TestBothCall(t *testing.T) {
	one, other := at(t, config, asking), at(t, config, asking)
	for _, e := range []*entity.Entity{one, other} {
		run(t, e, "cSABMEp > rUAp")
		holdView(t, e, "Connecting 64 asked 200")
	}
	for _, e := range []*entity.Entity{one, other} {
		run(t, e, "rUAp > EC -200 +203")
		holdView(t, e, "Open 64 203")
		run(t, e, "d:a > cI0/0:a -203 +200", "cI0/0:b > D:b rRR1", "rRR1 > -200 +203")
		holdView(t, e, "Open 64 S1 A1 R1 203")
	}
}

// The letters, each where the chapter errs with it.
func TestLetters(t *testing.T) {
	holdRows(t, []row{
		{opened, "rRR0p", "E:A +203", 0, ""},
		{opened, "rRNR0p", "E:A -203 +200", 0, "Open 64 200 peer"},
		{opened, "rREJ0p", "E:A +203", 0, ""},
		{opened, "rDMp", "E:B cSABMEp -203 +200", 0, "Connecting 64 200"},
		{assigned, "rUAp", "E:C", 0, ""},
		{opened, "rUAp", "E:C", 0, ""},
		{recovering, "rUAp", "E:C", 0, ""},
		{assigned, "rUA", "E:D", 0, ""},
		{asking, "rUA", "E:D", 0, ""},
		{releasing, "rUA", "E:D", 0, ""},
		{opened, "rUA", "E:D", 0, ""},
		{recovering, "rDM", "E:E cSABMEp +200", 0, "Connecting 64 200"},
		{opened, "cSABME", "rUA E:F +203", 0, ""},
		{asking + " T200 T200", "T200", "E:G RI", 0, "Assigned 64 tries2 asked"},
		{releasing + " T200 T200", "T200", "E:H RC", 0, "Assigned 64 tries2"},
		{recovering + " T200 T200", "T200", "E:I cSABMEp +200", 0, "Connecting 64 200"},
		{recovering, "rRR1", "E:J cSABMEp +200", 0, "Connecting 64 200"},
		{recovering, "rFRMRp:54321", "E:K cSABMEp +200", 0, "Connecting 64 200"},
	})
}

// P14.7: 200 and 203, in each state where they run.
func TestTimeout(t *testing.T) {
	holdRows(t, []row{
		{asking, "T200", "cSABMEp +200", 0, "Connecting 64 tries1 asked 200"},
		{asking + " T200", "T200", "cSABMEp +200", 0, "Connecting 64 tries2 asked 200"},
		{asking + " T200 T200", "T200", "E:G RI", 0, "Assigned 64 tries2 asked"},
		{calling, "T200", "cSABMEp +200", 0, "Connecting 64 tries1 S3 A1 R2 sent2 left1 200"},
		{calling + " T200 T200", "T200", "E:G RI", 0, "Assigned 64 tries2 S1 A1 R2"},
		{releasing, "T200", "cDISCp +200", 0, "Releasing 64 tries1 200"},
		{releasing + " T200", "T200", "cDISCp +200", 0, "Releasing 64 tries2 200"},
		{releasing + " T200 T200", "T200", "E:H RC", 0, "Assigned 64 tries2"},
		{opened, "T203", "cRR0p +200", 0, "Recovery 64 200"},
		{opened + " busy", "T203", "cRNR0p +200", 0, "Recovery 64 200 own"},
		{asking + " T200 rUAp", "T203", "cRR0p +200", 0, "Recovery 64 200"},
		{working, "T200", "cRR2p +200", 0, "Recovery 64 S3 A1 R2 sent2 left1 200"},
		{working + " busy", "T200", "cRNR2p +200", 0, "Recovery 64 S3 A1 R2 sent2 left1 200 own"},
		{asking + " T200 rUAp d:a", "T200", "cRR0p +200", 0, "Recovery 64 S1 sent1 200"},
		{opened + " rRNR0 d:a", "T200", "cRR0p +200", 0, "Recovery 64 left1 200 peer"},
		{inquiring, "T200", "cRR2p +200", 0, "Recovery 64 tries1 S3 A1 R2 sent2 left1 200"},
		{inquiring + " busy T200", "T200", "cRNR2p +200", 0, "Recovery 64 tries2 S3 A1 R2 sent2 left1 200 own"},
		{inquiring + " T200 T200", "T200", "E:I cSABMEp +200", 0, "Connecting 64 S3 A1 R2 sent2 left1 200"},
	})
}

// P14.7: nothing of a timer that doesn't run, or of a number that is none, in each state.
func TestNoTimer(t *testing.T) {
	for _, steps := range append([]string{"A64 X", opened + " X", asking + " rDMp", releasing + " rUAp", asking + " T200 T200 T200"}, everyStart...) {
		e := at(t, config, steps)
		was := e.View()
		for _, timer := range timers {
			if timer == 200 && was.T200 || timer == 203 && was.T203 {
				continue
			}
			if l := e.Timeout(timer); len(l) != 0 || e.View() != was {
				t.Errorf("%s, Timeout(%d) = %v", show(was), timer, l)
			}
		}
	}
	e := at(t, config, opened)
	run(t, e, "T203 > cRR0p +200", "T203 >", "rRR0p > -200 +203", "T200 >", "T203 > cRR0p +200")
}

// P14.7: the timer that is over doesn't run any more: it isn't stopped.
func TestTimerOver(t *testing.T) {
	e := at(t, entity.Config{K: 1, N200: 1}, asking+" T200 T200")
	holdView(t, e, "Assigned 64 tries1 asked")
	run(t, e, "T200 >", "cSABME > rUA EI +203", "T203 > cRR0p +200", "cDISC > rUA RI -200", "X >", "T200 >", "T203 >")
}

// P14.7 and P14.8: how often it tries, by N200: behind N200 + 1 calls, or releases, or inquiries, it gives up.
func TestTries(t *testing.T) {
	for _, x := range []struct{ n200, tries int }{
		{1, 1}, {2, 2}, {3, 3}, {31, 31}, {maxTries, maxTries}, {maxTries + 1, maxTries}, {maxTries + 2, maxTries}, {2 * maxTries, maxTries}, {256, maxTries}, {257, maxTries}, {1 << 32, maxTries}, {1<<32 + 5, maxTries}, {math.MaxInt, maxTries},
		{0, 1}, {-1, 1}, {-3, 1}, {-253, 1}, {-1 << 32, 1}, {math.MinInt, 1}, {math.MinInt + 5, 1},
	} {
		c := entity.Config{K: 1, N200: x.n200}
		for _, y := range []struct{ steps, again, last, view string }{
			{asking, "cSABMEp +200", "E:G RI", "Assigned 64 tries" + strconv.Itoa(x.tries) + " asked"},
			{releasing, "cDISCp +200", "E:H RC", "Assigned 64 tries" + strconv.Itoa(x.tries)},
			{recovering, "cRR0p +200", "E:I cSABMEp +200", "Connecting 64 200"},
			{opened + " d:a rFRMR:12345", "cSABMEp +200", "E:G RI", "Assigned 64 tries" + strconv.Itoa(x.tries)},
		} {
			e := at(t, c, y.steps)
			for n := range x.tries {
				hold(t, e, "T200", y.again, api.OK)
				if got := e.View().Tries; got != n+1 {
					t.Errorf("N200 %d: %d tries, want %d", x.n200, got, n+1)
				}
			}
			hold(t, e, "T200", y.last, api.OK)
			holdView(t, e, y.view)
		}
	}
}

// P14.7: each call, release and inquiry begins its tries anew.
func TestTriesAnew(t *testing.T) {
	const tried = opened + " T203 T200 T200"
	holdRows(t, []row{
		{tried, "est", "cSABMEp +200", 0, "Connecting 64 asked 200"},
		{tried, "rel", "cDISCp +200", 0, "Releasing 64 200"},
		{tried, "rDM", "E:E cSABMEp +200", 0, "Connecting 64 200"},
		{tried, "rRR0p", "-200 +203", 0, "Open 64 tries2 203"},
		{tried + " rRR0p", "T203", "cRR0p +200", 0, "Recovery 64 200"},
		{tried + " rRR0p d:a", "T200", "cRR0p +200", 0, "Recovery 64 S1 sent1 200"},
		{asking + " T200 T200 T200", "est", "cSABMEp +200", 0, "Connecting 64 asked 200"},
		{asking + " T200 T200 T200", "rDM", "cSABMEp +200", 0, "Connecting 64 asked 200"},
	})
}

// P14.8: DataTold in Open and Recovery alone: behind any of these steps an I frame with the right N(S) tells its data just there.
func TestDataTold(t *testing.T) {
	for _, steps := range everyStart {
		e := at(t, config, steps)
		v := e.View()
		want := v.State == entity.Open || v.State == entity.Recovery
		for _, info := range []string{"", "i", "\x00\xff", strings.Repeat("x", maxInfo)} {
			got := e.Frame(frame.Frame{Command: true, Kind: ctrl.I, NS: e.View().Flow.VR, NR: v.Flow.VA, Info: info})
			if told := slices.Contains(got, entity.Effect{Kind: entity.DataTold, Data: info}); told != want {
				t.Errorf("%s: %v", show(v), got)
			}
			if !want && (len(got) != 0 || e.View() != v) {
				t.Errorf("%s: %v", show(v), got)
			}
		}
	}
}

// Numbers go round: more than 128 payloads each way, one by one.
func TestRound(t *testing.T) {
	e := at(t, config, opened)
	for n := range 3 * modulus {
		ns, next := strconv.Itoa(n%modulus), strconv.Itoa((n+1)%modulus)
		run(t, e, "d:a > cI"+ns+"/"+ns+":a -203 +200", "cI"+ns+"/"+ns+":b > D:b rRR"+next, "rRR"+next+" > -200 +203", "cI"+ns+"/"+next+"p:b > rREJ"+next+"p +203")
	}
}

// An error tells no effects, and leaves nothing that a later call tells.
func TestRefusedCalls(t *testing.T) {
	refused := []string{"A127", "A-1", "A64", "X", "rel", "d:x", "est", "busy", "ready"}
	for _, steps := range everyStart {
		for _, step := range refused {
			one, other := at(t, config, steps), at(t, config, steps)
			if l, bad := do(one, step); bad == api.OK {
				continue
			} else if len(l) != 0 {
				t.Errorf("%q, %q: %v beside %v", steps, step, l, bad)
			}
			for _, later := range strings.Fields("T200 T203 cSABMEp u:u rUAp d:q cI0/0p:i rRR0 X A9 est rUAp d:r") {
				got, bad := do(one, later)
				want, wantBad := do(other, later)
				if !slices.Equal(got, want) || bad != wantBad || one.View() != other.View() {
					t.Fatalf("%q, %q refused: %q tells %v, %v, want %v, %v", steps, step, later, got, bad, want, wantBad)
				}
			}
		}
	}
}

// Effects that were told are their caller's: what he changes of them, or puts behind them, changes nothing.
func TestToldIsNew(t *testing.T) {
	const steps = "u:a u:b est A64 cSABMEp T200 rUAp d:c d:d d:e rRR1 cI0/1p:i cI7/1:i T200 rRR1p busy ready cREJ2 cSABME d:f rDM rUAp rel T200 cDISC rUAp X"
	one, other := entity.New(config), entity.New(config)
	var kept, want [][]entity.Effect
	for _, step := range strings.Fields(steps) {
		got, bad := do(one, step)
		same, sameBad := do(other, step)
		if !slices.Equal(got, same) || bad != sameBad || one.View() != other.View() {
			t.Fatalf("%q tells %v, %v, want %v, %v", step, got, bad, same, sameBad)
		}
		kept, want = append(kept, same), append(want, slices.Clone(same))
		for i := range got {
			got[i] = entity.Effect{Kind: entity.Error, Data: "spoilt", Timer: 9}
		}
		got = append(got, got...)
		clear(got[:cap(got)])
	}
	for i := range kept {
		if !slices.Equal(kept[i], want[i]) {
			t.Errorf("what was told is %v later, was %v", kept[i], want[i])
		}
	}
}

// P2: two entities side by side, to which the same, and other things, happen.
func TestSideBySide(t *testing.T) {
	one, other := entity.New(config), entity.New(entity.Config{K: 1, N200: 1})
	for _, e := range []*entity.Entity{one, other} {
		run(t, e, "u:a > TEI", "est >", "A64 > cUI:a cSABMEp +200", "rUAp > EC -200 +203")
	}
	run(t, one, "d:a > cI0/0:a -203 +200", "busy > rRNR0", "d:b > cI1/0:b", "d:c >")
	holdView(t, other, "Open 64 203")
	run(t, other, "cI0/0:x > D:x rRR1 +203", "d:y > cI0/1:y -203 +200", "d:z >", "T200 > cRR1p +200", "T200 > cRR1p +200", "T200 > E:I cSABMEp +200")
	holdView(t, one, "Open 64 S2 sent2 left1 200 own")
	run(t, other, "X > -200 RI", "u:q > TEI")
	run(t, one, "T200 > cRNR0p +200", "T200 > cRNR0p +200", "T200 > cRNR0p +200", "T200 > E:I cSABMEp +200")
	holdView(t, other, "AwaitTEI -1 units1 R1")
	third := entity.New(config)
	holdView(t, third, "Unassigned -1")
	run(t, third, "A5 >", "rel > RC")
	holdView(t, one, "Connecting 64 S2 sent2 left1 200 own")
	run(t, other, "A65 > cUI:q")
	run(t, one, "rUAp > EI -200 +203")
	holdView(t, third, "Assigned 5")
}
