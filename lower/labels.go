package lower

import "scree/api"

// wait is a jump whose target isn't known yet.
type wait struct {
	lay func(at int)
}

// label is a place in the code; what jumps there ahead of its being known waits.
type label struct {
	known bool
	at    int
	waits []wait
}

// set puts the label at what is laid next.
func (m *maker) set(l *label) {
	l.known, l.at = true, m.here()
	for _, w := range l.waits {
		w.lay(l.at)
	}
	l.waits = nil
}

// jump lays an instruction that goes to the label.
func (m *maker) jump(i api.Ins, l *label) {
	i.T = l.at
	m.emit(i)
	if !l.known {
		place := m.here() - 1
		l.waits = append(l.waits, wait{func(at int) { m.out.Ins[place].T = at }})
	}
}

// always, onTrue and unless go to a label: whatever is, if a register is true, if it is not.
func (m *maker) always(l *label)        { m.jump(api.Ins{Op: api.OJump}, l) }
func (m *maker) onTrue(a int, l *label) { m.jump(api.Ins{Op: api.OIf, A: a}, l) }
func (m *maker) unless(a int, l *label) { m.jump(api.Ins{Op: api.OUnless, A: a}, l) }

// What stands round a statement.
const (
	isLoop = iota
	isGuard
	isHandler
)

// context is a loop, a guard or a handler round a statement.
type context struct {
	kind  int
	here  *label // of a loop
	end   *label // of a loop
	guard *guard
	e     int // the register of a handler's exception
}

// guard is a guarded part: what leaves it goes through its exits.
type guard struct {
	why, val int
	last     label
	came     [3]bool
}

// The ways out of a guarded part.
const (
	byReturn = iota
	byBreak
	byContinue
)

// exitText is the number by which a way out is known, as a constant's text.
func exitText(way int) string { return string(rune('2' + way)) }

func (m *maker) within(c context, lay func()) {
	m.round = append(m.round, c)
	lay()
	m.round = m.round[:len(m.round)-1]
}

// leave goes out by return (of v), break or continue, through the innermost guard that it leaves.
func (m *maker) leave(way, v int) {
	for i := len(m.round) - 1; i >= 0; i-- {
		c := m.round[i]
		switch {
		case c.kind == isGuard:
			c.guard.came[way] = true
			if way == byReturn {
				m.emit(api.Ins{Op: api.OMove, D: c.guard.val, A: v})
			}
			m.constant(c.guard.why, api.CInt, exitText(way))
			m.always(&c.guard.last)
			return
		case c.kind == isLoop && way == byBreak:
			m.always(c.end)
			return
		case c.kind == isLoop && way == byContinue:
			m.always(c.here)
			return
		}
	}
	if way == byReturn {
		m.emit(api.Ins{Op: api.OReturn, A: v})
	}
}

// guarded lays what is inside of a guard, with its region, and the way to last of what ends well.
func (m *maker) guarded(inside func()) *guard {
	g := &guard{why: m.fresh(), val: m.fresh()}
	from := m.here()
	m.within(context{kind: isGuard, guard: g}, inside)
	m.out.Regions = append(m.out.Regions, api.Region{From: from, To: m.here(), Target: m.here() + 2, D: g.val})
	m.lit(g.why, none)
	m.always(&g.last)
	return g
}

// exits lays the ways out that came: as if they stood round the guarded statement. n and t are registers for it.
func (m *maker) exits(g *guard, n, t int) {
	for way := range g.came {
		if !g.came[way] {
			continue
		}
		var next label
		m.constant(n, api.CInt, exitText(way))
		m.emit(api.Ins{Op: api.OCmp, D: t, A: g.why, B: n, K: api.Eq})
		m.unless(t, &next)
		m.leave(way, g.val)
		m.set(&next)
	}
}
