package entity

import (
	"lapwing/addr"
	"lapwing/api"
	"lapwing/ctrl"
	"lapwing/frame"
)

func (e *Entity) tell(x Effect) { e.told = append(e.told, x) }

// allTold: what this call told, which is its caller's alone from then on.
func (e *Entity) allTold() []Effect {
	told := e.told
	e.told = nil
	return told
}

func (e *Entity) err(letter string) { e.tell(Effect{Kind: Error, Data: letter}) }

func (e *Entity) runs(timer int) bool {
	_, runs := e.timers[timer]
	return runs
}

func (e *Entity) start(timer int) {
	e.timers[timer] = struct{}{}
	e.tell(Effect{Kind: Start, Timer: timer})
}

func (e *Entity) stop(timer int) {
	if !e.runs(timer) {
		return
	}
	delete(e.timers, timer)
	e.tell(Effect{Kind: Stop, Timer: timer})
}

// await: the peer is to answer something.
func (e *Entity) await() {
	e.stop(t203)
	e.start(t200)
}

// rest: nothing is to be answered.
func (e *Entity) rest() {
	e.stop(t200)
	e.start(t203)
}

// send: a frame, whose link and N(R) it has not yet.
func (e *Entity) send(f frame.Frame) {
	f.Link = addr.Link{SAPI: api.Signal, TEI: e.tei}
	if f.Kind.Numbered() {
		f.NR = e.flow.View().VR
	}
	e.tell(Effect{Kind: Send, Frame: f})
}

// command: one with P.
func (e *Entity) command(k ctrl.Kind) { e.send(frame.Frame{Command: true, Kind: k, PF: true}) }

func (e *Entity) respond(k ctrl.Kind, final bool) { e.send(frame.Frame{Kind: k, PF: final}) }

func (e *Entity) sendUnit(data string) {
	e.send(frame.Frame{Command: true, Kind: ctrl.UI, Info: data})
}

func (e *Entity) answer(final bool) { e.respond(e.report(), final) }

func (e *Entity) inquire() {
	e.command(e.report())
	e.start(t200)
}

// report: the kind of frame that tells how far it is, and whether it is busy.
func (e *Entity) report() ctrl.Kind {
	if e.flow.View().Own {
		return ctrl.RNR
	}
	return ctrl.RR
}

func (e *Entity) call() {
	e.tries = 0
	e.command(ctrl.SABME)
	e.await()
	e.state = Connecting
}

func (e *Entity) callAsked() {
	e.asked = true
	e.call()
}

func (e *Entity) callAnew(letter string) {
	e.err(letter)
	e.asked = false
	e.call()
}

func (e *Entity) open() {
	e.flow.Reset()
	e.rest()
	e.state = Open
	e.goOn()
}

// goOn sends what may be sent, if it is open.
func (e *Entity) goOn() {
	for e.state == Open {
		ns, payload, some := e.flow.Take()
		if !some {
			return
		}
		e.send(frame.Frame{Command: true, Kind: ctrl.I, NS: ns, Info: payload})
		if !e.runs(t200) {
			e.await()
		}
	}
}

// end: there is no link any more.
func (e *Entity) end() {
	e.flow.Clear()
	e.stop(t200)
	e.stop(t203)
	e.state = Assigned
}

// tryAgain: nobody answered that command. It is sent once more, or, with that letter, given up.
func (e *Entity) tryAgain(k ctrl.Kind, letter string, givenUp Kind) {
	if e.tries == e.mostTries() {
		e.err(letter)
		e.tell(Effect{Kind: givenUp})
		e.end()
		return
	}
	e.tries++
	e.command(k)
	e.start(t200)
}

// inquireAgain: nobody told how far the peer is.
func (e *Entity) inquireAgain() {
	if e.tries == e.mostTries() {
		e.callAnew("I")
		return
	}
	e.tries++
	e.inquire()
}

func (e *Entity) mostTries() int { return min(max(e.n200, 1), api.MaxTries) }
