package entity

import (
	"lapwing/api"
	"lapwing/ctrl"
	"lapwing/flow"
	"lapwing/frame"
)

// come: a frame that may be comes to an entity that has a TEI.
func (e *Entity) come(f frame.Frame) {
	if f.Kind == ctrl.UI {
		e.tell(Effect{Kind: UnitTold, Data: f.Info})
		return
	}
	switch e.state {
	case Assigned:
		e.comeAssigned(f)
	case Connecting:
		e.comeConnecting(f)
	case Releasing:
		e.comeReleasing(f)
	case Open, Recovery:
		e.comeLinked(f)
	}
}

func (e *Entity) comeAssigned(f frame.Frame) {
	switch f.Kind {
	case ctrl.SABME:
		e.respond(ctrl.UA, f.PF)
		e.tell(Effect{Kind: EstablishTold})
		e.open()
	case ctrl.DISC:
		e.respond(ctrl.DM, f.PF)
	case ctrl.UA:
		e.refuseUA(f.PF)
	case ctrl.DM:
		if !f.PF {
			e.callAsked()
		}
	}
}

func (e *Entity) comeConnecting(f frame.Frame) {
	switch f.Kind {
	case ctrl.SABME:
		e.respond(ctrl.UA, f.PF)
	case ctrl.DISC:
		e.respond(ctrl.DM, f.PF)
	case ctrl.UA:
		if f.PF {
			e.connected()
		} else {
			e.err("D")
		}
	case ctrl.DM:
		if f.PF {
			e.tell(Effect{Kind: ReleaseTold})
			e.end()
		}
	}
}

// connected: the peer took its call.
func (e *Entity) connected() {
	if e.asked {
		e.tell(Effect{Kind: EstablishDone})
	} else {
		e.giveUpSent()
	}
	e.asked = false
	e.open()
}

func (e *Entity) comeReleasing(f frame.Frame) {
	switch f.Kind {
	case ctrl.SABME:
		e.respond(ctrl.DM, f.PF)
	case ctrl.DISC:
		e.respond(ctrl.UA, f.PF)
	case ctrl.UA:
		if f.PF {
			e.released()
		} else {
			e.err("D")
		}
	case ctrl.DM:
		if f.PF {
			e.released()
		}
	}
}

func (e *Entity) released() {
	e.tell(Effect{Kind: ReleaseDone})
	e.end()
}

// comeLinked: in Open or Recovery.
func (e *Entity) comeLinked(f frame.Frame) {
	switch f.Kind {
	case ctrl.I:
		e.comeInfo(f)
	case ctrl.RR, ctrl.RNR, ctrl.REJ:
		e.comeReport(f)
	case ctrl.SABME:
		e.respond(ctrl.UA, f.PF)
		e.err("F")
		e.giveUpSent()
		e.open()
	case ctrl.DISC:
		e.respond(ctrl.UA, f.PF)
		e.tell(Effect{Kind: ReleaseTold})
		e.end()
	case ctrl.UA:
		e.refuseUA(f.PF)
	case ctrl.DM:
		if f.PF {
			e.callAnew("B")
		} else {
			e.callAnew("E")
		}
	case ctrl.FRMR:
		e.callAnew("K")
	}
}

// refuseUA: one that nothing was sent for.
func (e *Entity) refuseUA(final bool) {
	if final {
		e.err("C")
	} else {
		e.err("D")
	}
}

// giveUpSent: what was sent may have come or not, and the numbers that would tell begin anew. So nothing of it is sent again, and the user is told.
func (e *Entity) giveUpSent() {
	if e.flow.View().Sent == 0 {
		return
	}
	e.flow.Clear()
	e.tell(Effect{Kind: EstablishTold})
}

// comeInfo: an I frame.
func (e *Entity) comeInfo(f frame.Frame) {
	switch e.flow.Come(f.NS) {
	case flow.Next:
		e.tell(Effect{Kind: DataTold, Data: f.Info})
		e.answer(f.PF)
	case flow.Wrong:
		e.respond(ctrl.REJ, f.PF)
	case flow.Again, flow.Busy:
		if f.PF {
			e.answer(true)
		}
	}
	answered, bad := e.flow.Ack(f.NR)
	switch {
	case bad != api.OK:
		e.callAnew("J")
	case e.state == Open:
		if !e.flow.View().Peer { // a peer that is busy is still to be asked whether it is, whatever it answers by the way
			e.count(answered)
		}
		e.goOn()
	}
}

// comeReport: RR, RNR, or REJ.
func (e *Entity) comeReport(f frame.Frame) {
	final := !f.Command && f.PF
	if f.Command && f.PF {
		e.answer(true)
	}
	if final && e.state == Open {
		e.err("A")
	}
	e.flow.SetPeer(f.Kind == ctrl.RNR)
	answered, bad := e.flow.Ack(f.NR)
	switch {
	case bad != api.OK:
		e.callAnew("J")
	case e.state == Open:
		e.reported(f.Kind, answered)
	case final:
		e.recovered(f.Kind)
	}
}

// reported: in Open.
func (e *Entity) reported(k ctrl.Kind, answered int) {
	switch k {
	case ctrl.RR:
		e.count(answered)
	case ctrl.RNR:
		e.await()
	case ctrl.REJ:
		e.rest()
		e.flow.Back()
	}
	e.goOn()
}

// recovered: the peer told, when it was asked, how far it is.
func (e *Entity) recovered(k ctrl.Kind) {
	if k == ctrl.RNR {
		e.start(t200)
	} else {
		e.rest()
	}
	e.flow.Back()
	e.state = Open
	e.goOn()
}

// count: so many payloads are answered now; is that all?
func (e *Entity) count(answered int) {
	numbers := e.flow.View()
	switch {
	case numbers.VA == numbers.VS:
		e.rest()
	case answered > 0:
		e.start(t200)
	}
}
