package entity

import (
	"lapwing/api"
	"lapwing/ctrl"
)

// ask answers an error ahead of all that it would do.
func (e *Entity) ask(a Ask, data string) api.Errno {
	switch a {
	case Establish:
		return e.establish()
	case Release:
		return e.release()
	case Data, Unit:
		if len(data) > api.MaxInfo {
			return api.ErrLong
		}
		if a == Data {
			return e.data(data)
		}
		return e.unit(data)
	case Busy, Ready:
		return e.setOwn(a == Busy)
	}
	return api.ErrArg
}

func (e *Entity) establish() api.Errno {
	switch e.state {
	case Unassigned:
		e.tell(Effect{Kind: WantTEI})
		e.state = AwaitLink
	case AwaitTEI:
		e.state = AwaitLink
	case AwaitLink: // Assign will call
	case Connecting:
		e.flow.Clear()
		e.asked = true
	case Open, Recovery:
		e.flow.Clear()
		fallthrough
	case Assigned:
		e.callAsked()
	default:
		return api.ErrState
	}
	return api.OK
}

func (e *Entity) release() api.Errno {
	switch e.state {
	case Assigned:
		e.tell(Effect{Kind: ReleaseDone})
	case Open, Recovery:
		e.flow.Clear()
		e.tries = 0
		e.command(ctrl.DISC)
		e.await()
		e.state = Releasing
	default:
		return api.ErrState
	}
	return api.OK
}

func (e *Entity) data(s string) api.Errno {
	// To a user who didn't ask for it anew the link is there also while the entity calls anew.
	if !e.linked() && (e.state != Connecting || e.asked) {
		return api.ErrState
	}
	if bad := e.flow.Push(s); bad != api.OK {
		return bad
	}
	e.goOn()
	return api.OK
}

func (e *Entity) unit(s string) api.Errno {
	if e.hasTEI() {
		e.sendUnit(s)
		return api.OK
	}
	if len(e.units) >= api.MaxQueue {
		return api.ErrFull
	}
	e.units = append(e.units, s)
	if e.state == Unassigned {
		e.tell(Effect{Kind: WantTEI})
		e.state = AwaitTEI
	}
	return api.OK
}

func (e *Entity) setOwn(busy bool) api.Errno {
	if !e.linked() {
		return api.ErrState
	}
	if e.flow.SetOwn(busy) {
		e.answer(false)
	}
	return api.OK
}

// linked: is there a link, over which payloads come?
func (e *Entity) linked() bool { return e.state == Open || e.state == Recovery }
