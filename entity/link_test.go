package entity_test

import (
	"math/rand"
	"strconv"
	"testing"

	"lapwing/api"
	"lapwing/entity"
	"lapwing/frame"
)

// side is one end of a link whose frames may be lost, and come in order.
type side struct {
	*entity.Entity
	underway []frame.Frame // to the other one
	handed   int           // payloads, which are numbered from 0 on
	excused  int           // how many of these its user was told of that they may be lost
	got      []int         // what came of the other one's
}

// take: what an entity told is done.
func (s *side) take(t *testing.T, l []entity.Effect) {
	t.Helper()
	for _, x := range l {
		switch x.Kind {
		case entity.Send:
			s.underway = append(s.underway, x.Frame)
		case entity.EstablishTold, entity.EstablishDone, entity.ReleaseTold, entity.ReleaseDone:
			s.excused = s.handed
		case entity.DataTold:
			n := number(x.Data)
			if len(s.got) > 0 && n <= s.got[len(s.got)-1] {
				t.Fatalf("payload %d comes behind %d", n, s.got[len(s.got)-1])
			}
			s.got = append(s.got, n)
		}
	}
}

// ask: it may be refused.
func (s *side) ask(t *testing.T, a entity.Ask) {
	t.Helper()
	l, bad := s.Ask(a, strconv.Itoa(s.handed))
	if a == entity.Data && bad == api.OK {
		s.handed++
	}
	s.take(t, l)
}

// over: a timer is, if one runs.
func (s *side) over(t *testing.T, chance *rand.Rand) {
	t.Helper()
	s.take(t, s.Timeout([]int{200, 200, 200, 203}[chance.Intn(4)]))
}

// come: the first one of the frames that are under way to s comes, or is lost.
func (s *side) come(t *testing.T, from *side, lost bool) {
	t.Helper()
	f := from.underway[0]
	from.underway = from.underway[1:]
	if !lost {
		s.take(t, s.Frame(f))
	}
}

// DOC.md: whatever is lost, payloads come in order, once, or their sender is told. Timers are over when nothing is under way: the peer doesn't answer any more then.
func TestLost(t *testing.T) {
	chance := rand.New(rand.NewSource(921))
	came, missed := 0, 0
	for round := range 600 {
		c := entity.Config{K: 1 + round%8, N200: 1 + round%5}
		ends := []*side{{Entity: at(t, c, "A64")}, {Entity: at(t, c, "A64")}}
		for range 600 {
			i := chance.Intn(2)
			s, other := ends[i], ends[1-i]
			switch x := chance.Intn(100); {
			case len(other.underway) > 0 && x < 70:
				s.come(t, other, chance.Intn(100) < round%30)
			case s.View().State == entity.Assigned:
				s.ask(t, entity.Establish)
			case x < 85:
				s.ask(t, entity.Data)
			case x < 90:
				s.ask(t, []entity.Ask{entity.Busy, entity.Ready}[chance.Intn(2)])
			case len(s.underway)+len(other.underway) == 0:
				s.over(t, chance)
			}
		}
		settle(t, ends, chance)
		for i, s := range ends {
			holdCame(t, ends[1-i], s)
			came, missed = came+len(s.got), missed+ends[1-i].handed-len(s.got)
		}
	}
	if came < 10000 || missed == 0 {
		t.Errorf("%d payloads came, %d didn't: too few to hold anything", came, missed)
	}
}

// settle: nothing is lost any more, nobody is busy, and all that waits is sent and answered.
func settle(t *testing.T, ends []*side, chance *rand.Rand) {
	t.Helper()
	for range 10000 {
		waits := 0
		for i, s := range ends {
			for len(s.underway) > 0 {
				ends[1-i].come(t, s, false)
			}
		}
		for _, s := range ends {
			v := s.View()
			if v.Flow.Own {
				s.ask(t, entity.Ready)
			}
			if v.T200 && len(ends[0].underway)+len(ends[1].underway) == 0 {
				s.over(t, chance)
			}
			if v.T200 || v.Flow.Left+v.Flow.Sent > 0 || len(s.underway) > 0 {
				waits++
			}
		}
		if waits == 0 {
			return
		}
	}
	t.Fatalf("it doesn't end: %s, %s", show(ends[0].View()), show(ends[1].View()))
}

// holdCame: did all come that from handed in, but for what it was told of?
func holdCame(t *testing.T, from, to *side) {
	t.Helper()
	came := map[int]bool{}
	for _, n := range to.got {
		came[n] = true
	}
	for n := from.excused; n < from.handed; n++ {
		if !came[n] {
			t.Fatalf("payload %d of %d didn't come, and nobody was told", n, from.handed)
		}
	}
}
