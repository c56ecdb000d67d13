// Package trail: what was changed, written down as functions that change it back.
package trail

import "slices"

// Trail has the changes of levels within levels. Its zero value has no level.
type Trail struct {
	backs  []func()
	starts []int // for each level, how many functions there were when it began
}

// Level tells how many levels there are.
func (t *Trail) Level() int { return len(t.starts) }

// Push begins a level.
func (t *Trail) Push() { t.starts = append(t.starts, len(t.backs)) }

// Write takes a function that changes back what is changed now. Outside all levels nothing will be changed back, so
// that nothing is kept.
func (t *Trail) Write(back func()) {
	if t.Level() > 0 {
		t.backs = append(t.backs, back)
	}
}

// Pop ends the last level, if there is one: what was changed in it is changed back, the last change first.
func (t *Trail) Pop() {
	if t.Level() == 0 {
		return
	}
	last := t.Level() - 1
	start := t.starts[last]
	for _, back := range slices.Backward(t.backs[start:]) {
		back()
	}
	// The functions hold old diagrams: they are not to stay behind the list's end.
	clear(t.backs[start:])
	t.backs, t.starts = t.backs[:start], t.starts[:last]
}
