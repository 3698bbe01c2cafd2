package wheel

import "porpoise/api"

// entry is a timer that is there, and what stands beside it in its list.
type entry struct {
	timer         api.Timer
	due           uint64
	before, after *entry
}

// list is some timers, in the turn in which they were put.
type list struct{ first, last *entry }

func (l *list) add(e *entry) {
	e.before, e.after = l.last, nil
	if l.last == nil {
		l.first = e
	} else {
		l.last.after = e
	}
	l.last = e
}

func (l *list) remove(e *entry) {
	if e.before == nil {
		l.first = e.after
	} else {
		e.before.after = e.after
	}
	if e.after == nil {
		l.last = e.before
	} else {
		e.after.before = e.before
	}
}

// soonest is of those that are due first the one that was put first; nil without one.
func (l *list) soonest() *entry {
	best := l.first
	for e := l.first; e != nil; e = e.after {
		if e.due < best.due {
			best = e
		}
	}
	return best
}
