package chart

import "malthouse/api"

// set is states without their order and their number, on which Roll does not depend: the bit of each one is 1.
type set uint16

func (s set) has(state int) bool { return exists(state) && s>>state&1 == 1 }

// collect is the states of a list. A number that is not a state counts as Idle.
func collect(l []int) set {
	var s set
	for _, state := range l {
		if !exists(state) {
			state = api.Idle
		}
		s |= 1 << state
	}
	return s
}

// underway tells whether the states are together still on the way to the state done: one of them is in the state doing, or one is done while one of the others is there.
func (s set) underway(doing, done int, others set) bool {
	return s.has(doing) || s.has(done) && s&others != 0
}

// together is what the states are together. The first case that applies decides, so that the order of the cases matters.
func (s set) together() int {
	switch {
	case s == 0:
		return api.Idle
	case s.underway(api.Aborting, api.Aborted, acting):
		return api.Aborting
	case s.has(api.Aborted):
		return api.Aborted
	case s.underway(api.Stopping, api.Stopped, acting):
		return api.Stopping
	case s.has(api.Stopped):
		return api.Stopped
	case s.underway(api.Holding, api.Held, acting):
		return api.Holding
	case s.has(api.Held):
		return api.Held
	case s.has(api.Restarting):
		return api.Restarting
	case s.underway(api.Pausing, api.Paused, 1<<api.Running):
		return api.Pausing
	case s.has(api.Paused):
		return api.Paused
	case s.has(api.Running):
		return api.Running
	case s == 1<<api.Complete:
		return api.Complete
	case s == 1<<api.Idle:
		return api.Idle
	}
	return api.Running
}
