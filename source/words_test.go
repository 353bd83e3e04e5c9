package source_test

import (
	"fmt"
	"math/rand"
	"slices"
	"strings"
	"testing"

	"lapwing/api"
	"lapwing/source"
)

// words is a source as the chapter's words have it: each row is one TEI, and all that is known of it.
type words struct {
	rows [many]row
	next int // the row from which the pool goes on
}

type row struct {
	assigned, checked bool
	asked, answers    int
}

// at: the row of a TEI, or none, of one that isn't automatic.
func (w *words) at(tei int) *row {
	if tei < first || tei > last {
		return nil
	}
	return &w.rows[tei-first]
}

// has: as has tells of a source.
func (w *words) has() string {
	var teis, checks []string
	for i, r := range w.rows {
		if r.assigned {
			teis = append(teis, fmt.Sprint(first+i))
		}
		if r.checked {
			checks = append(checks, fmt.Sprintf("%d?%d,%d", first+i, r.asked, r.answers))
		}
	}
	return strings.Join(append(teis, checks...), " ")
}

// step: what is told of a step, and the error.
func (w *words) step(step string) (string, api.Errno) {
	if strings.Contains(step, "/") {
		m := strings.Split(step, "/")
		return w.message(m[0], number(m[1]), number(m[2])), api.OK
	}
	name, of, _ := strings.Cut(step, ":")
	if name == "audit" {
		return w.audit(), api.OK
	}
	tei := number(of)
	r := w.at(tei)
	switch {
	case name == "check" && (r == nil || !r.assigned):
		return "", api.ErrNone
	case name == "check" && r.checked:
		return "", api.ErrThere
	case name == "check":
		return w.check(tei), api.OK
	case name == "remove" && r == nil:
		return "", api.ErrArg
	case name == "remove":
		return w.remove(tei), api.OK
	case r == nil || !r.checked:
		return "", api.OK
	}
	return w.over(tei), api.OK
}

func (w *words) message(kind string, ri, ai int) string {
	r := w.at(ai)
	switch {
	case ri < 0 || ri > greatest || ai < 0 || ai > all:
		return ""
	case kind == "Request" && ai != all:
		return fmt.Sprintf("Denied/%d/%d", ri, ai)
	case kind == "Request":
		return w.give(ri)
	case kind != "CheckResponse" && kind != "Verify" || r == nil:
		return ""
	case !r.assigned:
		return at(ai, "Remove/0/@")
	case kind == "Verify" && !r.checked:
		return w.check(ai)
	case kind == "Verify" || !r.checked:
		return ""
	}
	r.answers++
	if r.answers == 2 {
		return w.remove(ai)
	}
	return ""
}

func (w *words) give(ri int) string {
	for i := range many {
		at := (w.next + i) % many
		if !w.rows[at].assigned {
			w.rows[at].assigned = true
			w.next = at + 1
			return fmt.Sprintf("Assigned/%d/%d given:%d", ri, first+at, first+at)
		}
	}
	return fmt.Sprintf("Denied/%d/%d ", ri, all) + w.audit()
}

func (w *words) check(tei int) string {
	*w.at(tei) = row{assigned: true, checked: true, asked: 1}
	return at(tei, "CheckRequest/0/@ start:@")
}

func (w *words) audit() string {
	told := "CheckRequest/0/127"
	for i := range w.rows {
		if w.rows[i].assigned {
			w.check(first + i)
			told += fmt.Sprintf(" start:%d", first+i)
		}
	}
	return told
}

func (w *words) remove(tei int) string {
	told := "Remove/0/@ Remove/0/@"
	if w.at(tei).checked {
		told += " stop:@"
	}
	if w.at(tei).assigned {
		told += " freed:@"
	}
	*w.at(tei) = row{}
	return at(tei, told)
}

func (w *words) over(tei int) string {
	r := w.at(tei)
	if r.answers > 0 {
		*r = row{assigned: true}
		return ""
	}
	if r.asked == 1 {
		r.asked = 2
		return at(tei, "CheckRequest/0/@ start:@")
	}
	*r = row{}
	return at(tei, "freed:@")
}

// chanceStep: one picked by chance: of a TEI, near the bounds more often than far from them.
func chanceStep(chance *rand.Rand, most int) string {
	tei := first - 1 + chance.Intn(most)
	if chance.Intn(5) == 0 {
		tei = last + 1 - chance.Intn(4)
	}
	switch n := chance.Intn(20); {
	case n < 4:
		return fmt.Sprintf("Request/%d/127", chance.Intn(greatest+2))
	case n < 8:
		return at(tei, "CheckResponse/5/@")
	case n < 10:
		return at(tei, "Verify/6/@")
	case n < 14:
		return at(tei, "over:@")
	case n < 16:
		return at(tei, "check:@")
	case n < 17:
		return at(tei, "remove:@")
	case n < 18 && chance.Intn(9) == 0:
		return "audit"
	case n < 19:
		return at(tei, []string{"Request/8/@", "Assigned/8/@", "Denied/8/@", "CheckRequest/8/@", "Remove/8/@"}[chance.Intn(5)])
	}
	return at(others[chance.Intn(len(others))], []string{"Verify/0/@", "CheckResponse/0/@", "over:@", "check:@", "remove:@"}[chance.Intn(5)])
}

// P15.1 to P15.4: long rows of steps against the chapter's words, in sources with few TEIs, with many, and with all.
func TestWords(t *testing.T) {
	chance := rand.New(rand.NewSource(15))
	for round := range 60 {
		s, w := source.New(), &words{}
		for range round + 4 {
			hold(t, s, "Request/0/127", w.give(0))
		}
		var row []string
		for range 400 {
			step := chanceStep(chance, 4+round)
			row = append(row, step)
			want, bad := w.step(step)
			if got, e := do(s, step); !slices.Equal(got, effects(want)) || e != bad {
				t.Fatalf("%s: %v, %v, want %q, %v, behind %s", step, got, e, want, bad, row)
			}
			holdHas(t, s, w.has())
		}
	}
}

// site is terminals and their network: the source, its timers that run, and how many terminals hold each TEI.
type site struct {
	source *source.Source
	runs   map[int]int
	held   map[int]int
}

// tell: what the source does is done, and the terminals answer, but for those whose answers are lost.
func (x *site) tell(did []source.Effect, lost func() bool) {
	for _, e := range did {
		switch e.Kind {
		case source.Start:
			x.runs[e.TEI] = 1
		case source.Stop:
			delete(x.runs, e.TEI)
		}
	}
	for _, e := range did {
		if e.Kind != source.Send || lost() {
			continue
		}
		if e.Message.Type == types["Remove"] {
			delete(x.held, e.Message.Ai)
		}
		if e.Message.Type == types["CheckRequest"] {
			x.answer(e.Message.Ai, lost)
		}
	}
}

func (x *site) answer(asked int, lost func() bool) {
	for tei := first; tei <= last; tei++ {
		if asked != tei && asked != all {
			continue
		}
		for range x.held[tei] {
			if !lost() {
				x.tell(x.source.Message(message(at(tei, "CheckResponse/9/@"))), lost)
			}
		}
	}
}

// wait: each timer that runs is over, till none runs.
func (x *site) wait(t *testing.T, lost func() bool) {
	t.Helper()
	for range 3 {
		for tei := first; tei <= last; tei++ {
			if x.runs[tei] == 1 {
				delete(x.runs, tei)
				x.tell(x.source.Timeout(tei), lost)
			}
		}
	}
	if len(x.runs) > 0 || len(x.source.Checks()) > 0 {
		t.Fatalf("checks of %v, %v go on", x.runs, x.source.Checks())
	}
}

// siteOf: all TEIs are given; in turns nobody, one terminal and two terminals hold them.
func siteOf() *site {
	x := &site{source: behind(assigned(many)), runs: map[int]int{}, held: map[int]int{}}
	for i := range many {
		x.held[first+i] = i % 3
	}
	return x
}

// P15.1 to P15.3: behind an audit those TEIs are assigned that one terminal holds: those of nobody and of two are taken back, and those of two are held by nobody.
func TestSite(t *testing.T) {
	x := siteOf()
	never := func() bool { return false }
	x.tell(x.source.Audit(), never)
	x.wait(t, never)
	var want []int
	for i := 1; i < many; i += 3 {
		want = append(want, first+i)
	}
	if got := x.source.List(); !slices.Equal(got, want) {
		t.Errorf("List() = %v, want %v", got, want)
	}
	eachTEI(func(tei int) {
		if held := slices.Contains(want, tei); held != (x.held[tei] == 1) {
			t.Errorf("%d is held by %d", tei, x.held[tei])
		}
	})
}

// P15.1 to P15.3: also with messages lost, timers run of just those TEIs that are under a check, each check ends, and a TEI that nobody holds is taken back.
func TestSiteLoses(t *testing.T) {
	chance := rand.New(rand.NewSource(151))
	loses := func() bool { return chance.Intn(3) == 0 }
	for range 50 {
		x := siteOf()
		x.tell(x.source.Audit(), loses)
		for _, c := range x.source.Checks() {
			if x.runs[c.TEI] != 1 {
				t.Fatalf("no timer of %v runs", c)
			}
		}
		if len(x.runs) != len(x.source.Checks()) {
			t.Fatalf("timers of %v run, under checks are %v", x.runs, x.source.Checks())
		}
		x.wait(t, loses)
		for i := 0; i < many; i += 3 {
			if slices.Contains(x.source.List(), first+i) {
				t.Fatalf("nobody holds %d", first+i)
			}
		}
	}
}
