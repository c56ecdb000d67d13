package fretwork_test

import (
	"slices"
	"testing"

	"fretwork/api"
	"fretwork/fretwork"
)

func level(t *testing.T, w *fretwork.Work, want int) {
	t.Helper()
	if got := w.Look().Level; got != want {
		t.Fatalf("level %d, want %d", got, want)
	}
}

func push(t *testing.T, w *fretwork.Work) {
	t.Helper()
	was := w.Look()
	answers(t, w.Push(), api.OK)
	was.Level++
	if got := w.Look(); got != was {
		t.Fatalf("Look behind Push = %+v, want %+v", got, was)
	}
}

func pop(t *testing.T, w *fretwork.Work) {
	t.Helper()
	was := w.Look().Level
	answers(t, w.Pop(), api.OK)
	level(t, w, was-1)
}

func TestP4Level(t *testing.T) {
	all := api.Table{Vars: []int{0}, Not: true, Way: 1}
	wrong := api.Table{Vars: []int{1}, Way: 1}
	w := made(t, 2)
	push(t, w)
	answers(t, w.Post(all), api.ErrLevel)
	answers(t, w.Post(wrong), api.ErrArg)
	if got := w.Look(); got != (api.Look{Vars: 1, Level: 1, Left: 2}) {
		t.Errorf("Look = %+v", got)
	}
	answers(t, w.Fix(0, 0), api.OK)
	answers(t, w.Fix(0, 1), api.OK)
	answers(t, w.Post(all), api.ErrLevel)
	answers(t, w.Post(wrong), api.ErrArg)
	pop(t, w)

	for range api.MaxTables {
		answers(t, w.Post(all), api.OK)
	}
	push(t, w)
	answers(t, w.Post(all), api.ErrFull)
	answers(t, w.Post(wrong), api.ErrArg)
	answers(t, w.Remove(0, 0), api.OK)
	answers(t, w.Remove(0, 1), api.OK)
	answers(t, w.Post(all), api.ErrFull)
}

func TestP6Example(t *testing.T) {
	eachWay(t, func(t *testing.T, way int) {
		w := made(t, 3, 3)
		table := api.Table{Vars: []int{0, 1}, Rows: [][]int{{0, 1}, {1, 2}}, Way: way}
		answers(t, w.Post(table), api.OK)
		push(t, w)
		answers(t, w.Fix(0, 1), api.OK)
		left(t, w, []int{1}, []int{2})
		answers(t, w.Post(table), api.ErrLevel)
		pop(t, w)
		left(t, w, []int{0, 1}, []int{1, 2})
		answers(t, w.Pop(), api.ErrLevel)
		level(t, w, 0)
		left(t, w, []int{0, 1}, []int{1, 2})
	})
}

func TestP6PopAtLevel0(t *testing.T) {
	w := made(t, 3)
	answers(t, w.Remove(0, 1), api.OK)
	for range 3 {
		answers(t, w.Pop(), api.ErrLevel)
		level(t, w, 0)
		left(t, w, []int{0, 2})
	}
	push(t, w)
	answers(t, w.Remove(0, 0), api.OK)
	pop(t, w)
	answers(t, w.Pop(), api.ErrLevel)
	left(t, w, []int{0, 2})
	answers(t, w.Fix(0, 1), api.OK)
	answers(t, w.Pop(), api.ErrLevel)
	level(t, w, 0)
	left(t, w, nil)
}

// Each level takes one value out of one of four domains, until one value is left in each.
func TestP6MaxLevel(t *testing.T) {
	w := made(t, 6, 6, 6, 6)
	var was [][][]int
	for k := range api.MaxLevel {
		was = append(was, domains(t, w))
		push(t, w)
		level(t, w, k+1)
		answers(t, w.Remove(k%4, k/4), api.OK)
	}
	left(t, w, []int{5}, []int{5}, []int{5}, []int{5})
	for range 3 {
		answers(t, w.Push(), api.ErrFull)
		level(t, w, api.MaxLevel)
		left(t, w, []int{5}, []int{5}, []int{5}, []int{5})
	}
	for k := range api.MaxLevel {
		pop(t, w)
		level(t, w, api.MaxLevel-1-k)
		left(t, w, was[api.MaxLevel-1-k]...)
	}
	answers(t, w.Pop(), api.ErrLevel)
	for range api.MaxLevel {
		push(t, w)
	}
	answers(t, w.Push(), api.ErrFull)
}

// A refused Push begins no level: the next Pop ends the twentieth one.
func TestP6RefusedPushIsNoLevel(t *testing.T) {
	w := made(t, 4)
	for range api.MaxLevel {
		push(t, w)
	}
	answers(t, w.Remove(0, 0), api.OK)
	answers(t, w.Push(), api.ErrFull)
	answers(t, w.Remove(0, 1), api.OK)
	pop(t, w)
	level(t, w, api.MaxLevel-1)
	left(t, w, []int{0, 1, 2, 3})
	answers(t, w.Remove(0, 2), api.OK)
	left(t, w, []int{0, 1, 3})
}

// What is done at level 0 stays, whatever is pushed and popped behind it.
func TestP6Level0Stays(t *testing.T) {
	eachWay(t, func(t *testing.T, way int) {
		w := made(t, 4, 4)
		equal := [][]int{{0, 0}, {1, 1}, {2, 2}, {3, 3}}
		answers(t, w.Post(api.Table{Vars: []int{0, 1}, Rows: equal, Way: way}), api.OK)
		answers(t, w.Remove(0, 0), api.OK)
		push(t, w)
		answers(t, w.Fix(1, 2), api.OK)
		pop(t, w)
		left(t, w, []int{1, 2, 3}, []int{1, 2, 3})
		answers(t, w.Remove(1, 3), api.OK)
		push(t, w)
		pop(t, w)
		left(t, w, []int{1, 2}, []int{1, 2})
	})
}

// sums is a table of the rows of three entries below 4 whose last one is the sum of the other two.
func sums(way int) api.Table {
	t := api.Table{Vars: []int{0, 1, 2}, Way: way}
	for a := range 4 {
		for b := range 4 - a {
			t.Rows = append(t.Rows, []int{a, b, a + b})
		}
	}
	return t
}

func TestP6ManyChangesInOneLevel(t *testing.T) {
	eachWay(t, func(t *testing.T, way int) {
		four := []int{0, 1, 2, 3}
		w := made(t, 4, 4, 4)
		answers(t, w.Post(sums(way)), api.OK)
		for range 3 {
			left(t, w, four, four, four)
			push(t, w)
			answers(t, w.Remove(2, 3), api.OK)
			left(t, w, []int{0, 1, 2}, []int{0, 1, 2}, []int{0, 1, 2})
			answers(t, w.Remove(2, 3), api.OK)
			answers(t, w.Remove(0, 0), api.OK)
			left(t, w, []int{1, 2}, []int{0, 1}, []int{1, 2})
			answers(t, w.Remove(1, 0), api.OK)
			left(t, w, []int{1}, []int{1}, []int{2})
			answers(t, w.Fix(0, 1), api.OK)
			answers(t, w.Fix(2, 2), api.OK)
			answers(t, w.Remove(1, 3), api.OK)
			left(t, w, []int{1}, []int{1}, []int{2})
			pop(t, w)
		}
		left(t, w, four, four, four)
		answers(t, w.Fix(2, 3), api.OK)
		answers(t, w.Remove(1, 0), api.OK)
		left(t, w, []int{0, 1, 2}, []int{1, 2, 3}, []int{3})
	})
}

func TestP6LevelsWithinLevels(t *testing.T) {
	eachWay(t, func(t *testing.T, way int) {
		four := []int{0, 1, 2, 3}
		w := made(t, 4, 4, 4)
		answers(t, w.Post(sums(way)), api.OK)
		push(t, w)
		answers(t, w.Fix(2, 3), api.OK)
		push(t, w)
		push(t, w)
		answers(t, w.Remove(0, 0), api.OK)
		left(t, w, []int{1, 2, 3}, []int{0, 1, 2}, []int{3})
		push(t, w)
		answers(t, w.Fix(1, 2), api.OK)
		left(t, w, []int{1}, []int{2}, []int{3})
		pop(t, w)
		left(t, w, []int{1, 2, 3}, []int{0, 1, 2}, []int{3})
		push(t, w)
		answers(t, w.Fix(1, 1), api.OK)
		left(t, w, []int{2}, []int{1}, []int{3})
		pop(t, w)
		pop(t, w)
		left(t, w, four, four, []int{3})
		answers(t, w.Remove(1, 3), api.OK)
		left(t, w, []int{1, 2, 3}, []int{0, 1, 2}, []int{3})
		pop(t, w)
		left(t, w, four, four, []int{3})
		pop(t, w)
		left(t, w, four, four, four)
	})
}

func TestP6DeadAtALevel(t *testing.T) {
	eachWay(t, func(t *testing.T, way int) {
		four := []int{0, 1, 2, 3}
		w := made(t, 4, 4, 4)
		answers(t, w.Post(sums(way)), api.OK)
		push(t, w)
		answers(t, w.Fix(0, 2), api.OK)
		push(t, w)
		answers(t, w.Fix(2, 0), api.OK)
		left(t, w, nil, nil, nil)
		push(t, w)
		answers(t, w.Fix(0, 0), api.ErrDead)
		answers(t, w.Remove(0, 0), api.ErrDead)
		answers(t, w.Fix(0, 4), api.ErrArg)
		left(t, w, nil, nil, nil)
		pop(t, w)
		left(t, w, nil, nil, nil)
		pop(t, w)
		left(t, w, []int{2}, []int{0, 1}, []int{2, 3})
		answers(t, w.Remove(1, 1), api.OK)
		left(t, w, []int{2}, []int{0}, []int{2})
		answers(t, w.Remove(0, 2), api.OK)
		left(t, w, nil, nil, nil)
		pop(t, w)
		left(t, w, four, four, four)
		answers(t, w.Fix(2, 0), api.OK)
		left(t, w, []int{0}, []int{0}, []int{0})
	})
}

// Two tables that are narrowed one behind the other until nothing is left: both are put back.
func TestP6DeadByTwoTables(t *testing.T) {
	eachWay(t, func(t *testing.T, way int) {
		w := made(t, 3, 3)
		less := api.Table{Vars: []int{0, 1}, Rows: [][]int{{0, 1}, {0, 2}, {1, 2}}, Way: way}
		apart := api.Table{Vars: []int{1, 0}, Rows: [][]int{{2, 1}}, Not: true, Way: 3 - way}
		answers(t, w.Post(less), api.OK)
		answers(t, w.Post(apart), api.OK)
		for range 3 {
			left(t, w, []int{0, 1}, []int{1, 2})
			push(t, w)
			answers(t, w.Fix(0, 1), api.OK)
			left(t, w, nil, nil)
			pop(t, w)
			push(t, w)
			answers(t, w.Fix(1, 2), api.OK)
			left(t, w, []int{0}, []int{2})
			pop(t, w)
		}
	})
}

func TestP6PushWhereDead(t *testing.T) {
	w := made(t, 2, 2)
	answers(t, w.Post(api.Table{Vars: []int{0}, Way: 2}), api.OK)
	for k := range api.MaxLevel {
		answers(t, w.Push(), api.OK)
		if got := w.Look(); got != (api.Look{Vars: 2, Tables: 1, Level: k + 1, Dead: true}) {
			t.Fatalf("Look = %+v", got)
		}
	}
	answers(t, w.Push(), api.ErrFull)
	for range api.MaxLevel {
		pop(t, w)
		left(t, w, nil, nil)
	}
	answers(t, w.Pop(), api.ErrLevel)
	answers(t, w.Fix(0, 0), api.ErrDead)
}

// Of the lists that are left at a level others are left at the next: a table has them all again behind a Pop.
func TestP6TablesArePutBack(t *testing.T) {
	for _, not := range []bool{false, true} {
		eachWay(t, func(t *testing.T, way int) {
			rows := [][]int{{0, 1}, {1, 2}, {2, 0}, {3, api.Any}, {api.Any, 3}}
			allowed := [][]int{{1, 3}, {2, 3}, {0, 3}, {0, 1, 2, 3}}
			if not {
				allowed = [][]int{{0, 2}, {0, 1}, {1, 2}, nil}
			}
			w := made(t, 4, 4)
			answers(t, w.Post(api.Table{Vars: []int{0, 1}, Rows: rows, Not: not, Way: way}), api.OK)
			was := domains(t, w)
			for range 2 {
				for value, want := range allowed {
					push(t, w)
					answers(t, w.Fix(0, value), api.OK)
					if got, _ := w.Domain(1); !slices.Equal(got, want) {
						t.Errorf("Fix(0, %d): domain of 1 %v, want %v", value, got, want)
					}
					pop(t, w)
					left(t, w, was...)
				}
			}
		})
	}
}

func TestP6PostBetweenPopAndPush(t *testing.T) {
	eachWay(t, func(t *testing.T, way int) {
		w := made(t, 4, 4, 4)
		push(t, w)
		answers(t, w.Fix(2, 1), api.OK)
		pop(t, w)
		answers(t, w.Post(sums(way)), api.OK)
		push(t, w)
		answers(t, w.Fix(2, 0), api.OK)
		left(t, w, []int{0}, []int{0}, []int{0})
		pop(t, w)
		without := api.Table{Vars: []int{0, 1}, Rows: [][]int{{1, api.Any}, {api.Any, 3}}, Not: true, Way: 3 - way}
		answers(t, w.Post(without), api.OK)
		for range 2 {
			left(t, w, []int{0, 2, 3}, []int{0, 1, 2}, []int{0, 1, 2, 3})
			push(t, w)
			answers(t, w.Fix(2, 2), api.OK)
			left(t, w, []int{0, 2}, []int{0, 2}, []int{2})
			answers(t, w.Remove(1, 0), api.OK)
			left(t, w, []int{0}, []int{2}, []int{2})
			pop(t, w)
		}
		answers(t, w.Post(api.Table{Vars: []int{2}, Rows: [][]int{{2}}, Way: way}), api.OK)
		push(t, w)
		pop(t, w)
		left(t, w, []int{0, 2}, []int{0, 2}, []int{2})
	})
}

// climb is a trial with levels: beside it stand copies of what the domains were at each Push.
type climb struct {
	*trial
	was   [][][]int
	risen int // Pops that gave values back
}

func (c *climb) check() {
	c.Helper()
	for _, w := range c.works {
		level(c.T, w, len(c.was))
		left(c.T, w, c.ref.domains...)
	}
}

func (c *climb) push() {
	c.Helper()
	want := api.ErrFull
	if len(c.was) < api.MaxLevel {
		want = api.OK
		c.was = append(c.was, c.ref.copied())
	}
	for _, w := range c.works {
		answers(c.T, w.Push(), want)
	}
	c.check()
}

func (c *climb) pop() {
	c.Helper()
	want := api.ErrLevel
	before := c.works[0].Look().Left
	if top := len(c.was) - 1; top >= 0 {
		want = api.OK
		c.ref.domains, c.was = c.was[top], c.was[:top]
	}
	for _, w := range c.works {
		answers(c.T, w.Pop(), want)
	}
	c.check()
	if c.works[0].Look().Left > before {
		c.risen++
	}
}

// posts adds a table, if there may be one more; else it looks at the errors.
func (c *climb) posts(table api.Table, way int) {
	c.Helper()
	full := len(c.ref.tables) == api.MaxTables
	if !full && len(c.was) == 0 {
		c.post(table, way)
		return
	}
	want := api.ErrLevel
	if full {
		want = api.ErrFull
	}
	table.Way = way
	for _, w := range c.works {
		answers(c.T, w.Post(table), want)
	}
	c.check()
}

func (c *climb) step(d *dice, sizes []int) {
	switch d.below(8) {
	case 0, 1, 2:
		c.push()
	case 3, 4:
		c.pop()
	case 5:
		c.posts(d.table(sizes), 1+d.below(2))
	default:
		// At level 0 little is taken: what is dead there stays so.
		if len(c.was) == 0 && d.below(8) > 0 {
			c.push()
		}
		c.take(d, sizes)
	}
}

func TestP6AgainstReference(t *testing.T) {
	d := dice(6)
	risen := 0
	for range 2000 {
		sizes := make([]int, 2+d.below(4))
		for v := range sizes {
			sizes[v] = 2 + d.below(api.MaxSize-1)
		}
		c := climb{trial: newTrial(t, sizes)}
		for range 1 + d.below(4) {
			c.post(d.table(sizes), 1+d.below(2))
		}
		for range 40 {
			c.step(&d, sizes)
		}
		for len(c.was) > 0 {
			c.pop()
		}
		risen += c.risen
	}
	if risen < 4000 {
		t.Errorf("%d Pops gave values back: they test too little", risen)
	}
}
