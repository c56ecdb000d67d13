package fretwork_test

import (
	"math"
	"slices"
	"testing"

	"fretwork/api"
	"fretwork/fretwork"
)

func made(t *testing.T, sizes ...int) *fretwork.Work {
	t.Helper()
	w, e := fretwork.New(sizes...)
	if w == nil || e != api.OK {
		t.Fatalf("New(%v) = %v, %d", sizes, w, e)
	}
	return w
}

func answers(t *testing.T, got, want api.Errno) {
	t.Helper()
	if got != want {
		t.Fatalf("answered %d, want %d", got, want)
	}
}

func domains(t *testing.T, w *fretwork.Work) [][]int {
	t.Helper()
	var all [][]int
	for v := range w.Look().Vars {
		domain, e := w.Domain(v)
		answers(t, e, api.OK)
		all = append(all, domain)
	}
	return all
}

// left checks the domains, and that Look tells the same of them, whatever the tables and the level are.
func left(t *testing.T, w *fretwork.Work, want ...[]int) {
	t.Helper()
	if got := domains(t, w); !slices.EqualFunc(got, want, slices.Equal) {
		t.Fatalf("domains %v, want %v", got, want)
	}
	look := api.Look{Vars: len(want), Tables: w.Look().Tables, Level: w.Look().Level}
	for _, domain := range want {
		look.Left += len(domain)
		if len(domain) == 1 {
			look.Fixed++
		}
	}
	look.Dead = look.Left == 0
	if got := w.Look(); got != look {
		t.Fatalf("Look = %+v, want %+v", got, look)
	}
}

func eachWay(t *testing.T, test func(t *testing.T, way int)) {
	t.Run("way 1", func(t *testing.T) { test(t, 1) })
	t.Run("way 2", func(t *testing.T) { test(t, 2) })
}

func TestP3New(t *testing.T) {
	wrong := [][]int{
		nil, {}, {0}, {-1}, {7}, {math.MaxInt}, {math.MinInt}, {6, 6, 0}, {7, 1}, {1, 1, 1, 1, 1, 1, 1, 64},
		{1, 1, 1, 1, 1, 1, 1, 1, 1}, make([]int, 100000),
	}
	for _, sizes := range wrong {
		if w, e := fretwork.New(sizes...); w != nil || e != api.ErrArg {
			t.Errorf("New of %d sizes = %v, %d", len(sizes), w, e)
		}
	}
	if w, e := fretwork.New(); w != nil || e != api.ErrArg {
		t.Errorf("New() = %v, %d", w, e)
	}
	left(t, made(t, 1), []int{0})
	left(t, made(t, 6), []int{0, 1, 2, 3, 4, 5})
	w := made(t, 6, 5, 4, 3, 2, 1, 6, 6)
	left(t, w, []int{0, 1, 2, 3, 4, 5}, []int{0, 1, 2, 3, 4}, []int{0, 1, 2, 3}, []int{0, 1, 2}, []int{0, 1},
		[]int{0}, []int{0, 1, 2, 3, 4, 5}, []int{0, 1, 2, 3, 4, 5})
	if got := w.Look(); got != (api.Look{Vars: 8, Left: 33, Fixed: 1}) {
		t.Errorf("Look = %+v", got)
	}
}

func TestP4WrongTables(t *testing.T) {
	row := func(entries ...int) [][]int { return [][]int{{0, 0}, entries} }
	vars := []int{1, 0}
	wrong := []api.Table{
		{}, {Way: 1}, {Vars: []int{}, Way: 2},
		{Vars: vars}, {Vars: vars, Way: -1}, {Vars: vars, Way: 3}, {Vars: vars, Way: math.MaxInt},
		{Vars: []int{-1}, Way: 1}, {Vars: []int{5}, Way: 1}, {Vars: []int{0, math.MaxInt}, Way: 1},
		{Vars: []int{math.MinInt}, Way: 1}, {Vars: []int{1, 1}, Way: 1}, {Vars: []int{0, 1, 2, 0}, Way: 2},
		{Vars: []int{0, 1, 2, 3, 4}, Way: 1}, {Vars: make([]int, 100000), Way: 1},
		{Vars: vars, Rows: row(), Way: 1}, {Vars: vars, Rows: row(0), Way: 1}, {Vars: vars, Rows: row(0, 0, 0), Way: 1},
		{Vars: vars, Rows: row(0, 2), Way: 1}, {Vars: vars, Rows: row(3, 0), Way: 1}, {Vars: vars, Rows: row(-2, 0), Way: 1},
		{Vars: vars, Rows: row(0, math.MinInt), Way: 2}, {Vars: vars, Rows: row(math.MaxInt, 0), Way: 2},
		{Vars: vars, Rows: [][]int{nil}, Not: true, Way: 2},
		{Vars: vars, Rows: slices.Repeat([][]int{{0, 0}}, api.MaxRows+1), Way: 1},
		{Vars: vars, Rows: slices.Repeat([][]int{{0, 0}}, api.MaxRows+1), Not: true, Way: 2},
	}
	w := made(t, 2, 3, 2, 2, 2)
	for i, x := range wrong {
		if e := w.Post(x); e != api.ErrArg {
			t.Errorf("table %d: %d", i, e)
		}
		left(t, w, []int{0, 1}, []int{0, 1, 2}, []int{0, 1}, []int{0, 1}, []int{0, 1})
		if got := w.Look().Tables; got != 0 {
			t.Fatalf("table %d: %d tables", i, got)
		}
	}
	answers(t, w.Post(api.Table{Vars: vars, Rows: row(2, 1), Way: 1}), api.OK)
}

func TestP4OrderOfErrors(t *testing.T) {
	all := api.Table{Vars: []int{0}, Not: true, Way: 1}
	none := api.Table{Vars: []int{0}, Way: 2}
	wrong := api.Table{Vars: []int{1}, Way: 1}
	w := made(t, 2)
	for k := range api.MaxTables - 1 {
		answers(t, w.Post(all), api.OK)
		if got := w.Look().Tables; got != k+1 {
			t.Fatalf("%d tables behind %d Posts", got, k+1)
		}
	}
	answers(t, w.Post(all), api.OK)
	answers(t, w.Post(none), api.ErrFull)
	answers(t, w.Post(wrong), api.ErrArg)
	left(t, w, []int{0, 1})
	answers(t, w.Remove(0, 0), api.OK)
	answers(t, w.Remove(0, 1), api.OK)
	answers(t, w.Post(all), api.ErrFull)
	answers(t, w.Post(wrong), api.ErrArg)

	w = made(t, 2)
	answers(t, w.Post(none), api.OK)
	answers(t, w.Post(all), api.ErrDead)
	answers(t, w.Post(wrong), api.ErrArg)
	left(t, w, nil)
	if got := w.Look().Tables; got != 1 {
		t.Errorf("%d tables", got)
	}
}

func TestP4WithoutRows(t *testing.T) {
	eachWay(t, func(t *testing.T, way int) {
		w := made(t, 2, 3, 6)
		answers(t, w.Post(api.Table{Vars: []int{2, 0}, Rows: [][]int{}, Not: true, Way: way}), api.OK)
		left(t, w, []int{0, 1}, []int{0, 1, 2}, []int{0, 1, 2, 3, 4, 5})
		answers(t, w.Post(api.Table{Vars: []int{1}, Way: way}), api.OK)
		left(t, w, nil, nil, nil)
		if got := w.Look(); got != (api.Look{Vars: 3, Tables: 2, Dead: true}) {
			t.Errorf("Look = %+v", got)
		}
	})
}

func TestP4Any(t *testing.T) {
	eachWay(t, func(t *testing.T, way int) {
		all := [][]int{{1, api.Any, 0}, {api.Any, 2, 0}}
		w := made(t, 3, 3, 3)
		answers(t, w.Post(api.Table{Vars: []int{0, 1, 2}, Rows: all, Way: way}), api.OK)
		left(t, w, []int{0, 1, 2}, []int{0, 1, 2}, []int{0})
		answers(t, w.Remove(1, 2), api.OK)
		left(t, w, []int{1}, []int{0, 1}, []int{0})

		w = made(t, 3, 3, 3)
		answers(t, w.Post(api.Table{Vars: []int{0, 1, 2}, Rows: all, Not: true, Way: way}), api.OK)
		left(t, w, []int{0, 1, 2}, []int{0, 1, 2}, []int{0, 1, 2})
		answers(t, w.Fix(2, 0), api.OK)
		left(t, w, []int{0, 2}, []int{0, 1}, []int{0})

		w = made(t, 6, 6)
		answers(t, w.Post(api.Table{Vars: []int{0, 1}, Rows: [][]int{{api.Any, api.Any}}, Way: way}), api.OK)
		left(t, w, []int{0, 1, 2, 3, 4, 5}, []int{0, 1, 2, 3, 4, 5})
		answers(t, w.Post(api.Table{Vars: []int{0}, Rows: [][]int{{api.Any}}, Not: true, Way: way}), api.OK)
		left(t, w, nil, nil)
	})
}

// sixty is all rows of an entry below 5, one below 6 and one below 2.
func sixty() [][]int {
	var rows [][]int
	for k := range api.MaxRows {
		rows = append(rows, []int{k / 2 / 6, k / 2 % 6, k % 2})
	}
	return rows
}

func TestP4SixtyRows(t *testing.T) {
	eachWay(t, func(t *testing.T, way int) {
		w := made(t, 6, 6, 2)
		answers(t, w.Post(api.Table{Vars: []int{0, 1, 2}, Rows: sixty(), Way: way}), api.OK)
		left(t, w, []int{0, 1, 2, 3, 4}, []int{0, 1, 2, 3, 4, 5}, []int{0, 1})
		answers(t, w.Post(api.Table{Vars: []int{0, 1, 2}, Rows: sixty()[:59], Not: true, Way: way}), api.OK)
		left(t, w, []int{4}, []int{5}, []int{1})

		w = made(t, 6, 6, 2)
		answers(t, w.Post(api.Table{Vars: []int{0, 1, 2}, Rows: sixty(), Not: true, Way: way}), api.OK)
		left(t, w, []int{5}, []int{0, 1, 2, 3, 4, 5}, []int{0, 1})
	})
}

// The widest table that can be: four variables of six values each.
func TestP4Widest(t *testing.T) {
	eachWay(t, func(t *testing.T, way int) {
		w := made(t, 6, 6, 6, 6)
		rows := [][]int{{5, 5, 5, 5}, {0, api.Any, api.Any, api.Any}, {api.Any, api.Any, 3, api.Any}}
		answers(t, w.Post(api.Table{Vars: []int{3, 2, 1, 0}, Rows: rows, Not: true, Way: way}), api.OK)
		six := []int{0, 1, 2, 3, 4, 5}
		left(t, w, six, []int{0, 1, 2, 4, 5}, six, []int{1, 2, 3, 4, 5})
		answers(t, w.Fix(3, 5), api.OK)
		answers(t, w.Fix(2, 5), api.OK)
		answers(t, w.Fix(1, 5), api.OK)
		left(t, w, []int{0, 1, 2, 3, 4}, []int{5}, []int{5}, []int{5})
	})
}

func TestP5Errors(t *testing.T) {
	w := made(t, 2, 3)
	wrong := [][2]int{
		{-1, 0}, {2, 0}, {0, -1}, {0, 2}, {1, 3}, {math.MaxInt, 0}, {math.MinInt, 0}, {0, math.MaxInt},
		{0, math.MinInt}, {7, 7},
	}
	refuse := func() {
		for _, c := range wrong {
			answers(t, w.Fix(c[0], c[1]), api.ErrArg)
			answers(t, w.Remove(c[0], c[1]), api.ErrArg)
		}
	}
	refuse()
	left(t, w, []int{0, 1}, []int{0, 1, 2})
	answers(t, w.Fix(1, 2), api.OK)
	answers(t, w.Fix(1, 1), api.OK)
	left(t, w, nil, nil)
	refuse()
	answers(t, w.Fix(0, 1), api.ErrDead)
	answers(t, w.Remove(1, 0), api.ErrDead)
	left(t, w, nil, nil)
}

func TestP5WithoutTables(t *testing.T) {
	w := made(t, 6, 2)
	answers(t, w.Remove(0, 5), api.OK)
	answers(t, w.Remove(0, 0), api.OK)
	answers(t, w.Remove(0, 0), api.OK)
	left(t, w, []int{1, 2, 3, 4}, []int{0, 1})
	answers(t, w.Fix(0, 3), api.OK)
	answers(t, w.Fix(0, 3), api.OK)
	answers(t, w.Remove(0, 2), api.OK)
	left(t, w, []int{3}, []int{0, 1})
	answers(t, w.Remove(0, 3), api.OK)
	left(t, w, nil, nil)
}

func TestP5Examples(t *testing.T) {
	eachWay(t, func(t *testing.T, way int) {
		w := made(t, 3, 3)
		answers(t, w.Post(api.Table{Vars: []int{0, 1}, Rows: [][]int{{0, 1}, {1, 2}}, Way: way}), api.OK)
		left(t, w, []int{0, 1}, []int{1, 2})
		answers(t, w.Remove(1, 2), api.OK)
		left(t, w, []int{0}, []int{1})

		w = made(t, 2, 2, 2)
		for _, vars := range [][]int{{0, 1}, {1, 2}, {0, 2}} {
			differ := api.Table{Vars: vars, Rows: [][]int{{0, 0}, {1, 1}}, Not: true, Way: way}
			answers(t, w.Post(differ), api.OK)
		}
		left(t, w, []int{0, 1}, []int{0, 1}, []int{0, 1})
		answers(t, w.Fix(0, 0), api.OK)
		left(t, w, nil, nil, nil)

		either := api.Table{Vars: []int{0, 1}, Rows: [][]int{{0, api.Any}, {api.Any, 1}}, Way: way}
		w = made(t, 3, 2)
		answers(t, w.Post(either), api.OK)
		left(t, w, []int{0, 1, 2}, []int{0, 1})
		answers(t, w.Fix(0, 2), api.OK)
		left(t, w, []int{2}, []int{1})

		either.Not = true
		w = made(t, 3, 2)
		answers(t, w.Post(either), api.OK)
		left(t, w, []int{1, 2}, []int{0})
	})
}

// What is taken away at one end of a chain of tables goes on to the other end, and back.
func TestP5Chain(t *testing.T) {
	eachWay(t, func(t *testing.T, way int) {
		w := made(t, 4, 4, 4, 4)
		var next [][]int
		for value := range 4 {
			next = append(next, []int{value, value}, []int{value, (value + 1) % 4})
		}
		for _, v := range []int{1, 2, 0} {
			answers(t, w.Post(api.Table{Vars: []int{v, v + 1}, Rows: next, Way: 1 + (way+v)%2}), api.OK)
		}
		four := []int{0, 1, 2, 3}
		left(t, w, four, four, four, four)
		answers(t, w.Fix(0, 2), api.OK)
		left(t, w, []int{2}, []int{2, 3}, []int{0, 2, 3}, four)
		answers(t, w.Fix(3, 1), api.OK)
		left(t, w, []int{2}, []int{3}, []int{0}, []int{1})
	})
}

func TestP7Errors(t *testing.T) {
	w := made(t, 2, 3)
	for _, v := range []int{-1, 2, 8, math.MaxInt, math.MinInt} {
		if domain, e := w.Domain(v); len(domain) != 0 || e != api.ErrArg {
			t.Errorf("Domain(%d) = %v, %d", v, domain, e)
		}
	}
	answers(t, w.Fix(0, 0), api.OK)
	answers(t, w.Fix(0, 1), api.OK)
	for v, want := range []api.Errno{api.OK, api.OK, api.ErrArg} {
		if domain, e := w.Domain(v); len(domain) != 0 || e != want {
			t.Errorf("Domain(%d), dead = %v, %d", v, domain, e)
		}
	}
}

func TestP7Look(t *testing.T) {
	w := made(t, 3, 1, 2)
	looks := func(want api.Look) {
		t.Helper()
		if got := w.Look(); got != want {
			t.Errorf("Look = %+v, want %+v", got, want)
		}
	}
	looks(api.Look{Vars: 3, Left: 6, Fixed: 1})
	answers(t, w.Post(api.Table{Vars: []int{0, 2}, Rows: [][]int{{0, 0}, {1, 0}}, Way: 1}), api.OK)
	looks(api.Look{Vars: 3, Tables: 1, Left: 4, Fixed: 2})
	answers(t, w.Remove(0, 0), api.OK)
	looks(api.Look{Vars: 3, Tables: 1, Left: 3, Fixed: 3})
	answers(t, w.Remove(1, 0), api.OK)
	looks(api.Look{Vars: 3, Tables: 1, Dead: true})
}

// trial holds works that are told the same, but for the ways of their tables, against the reference.
type trial struct {
	*testing.T
	ref      *reference
	works    []*fretwork.Work
	narrowed int // calls that took something away and left something in every domain
}

func newTrial(t *testing.T, sizes []int) *trial {
	works := []*fretwork.Work{made(t, sizes...), made(t, sizes...), made(t, sizes...)}
	return &trial{T: t, ref: newReference(sizes...), works: works}
}

func (x *trial) each(same func(ref *reference), call func(k int, w *fretwork.Work) api.Errno) {
	x.Helper()
	want, before := api.ErrDead, x.works[0].Look().Left
	if !x.ref.dead() {
		want = api.OK
		same(x.ref)
	}
	for k, w := range x.works {
		answers(x.T, call(k, w), want)
		left(x.T, w, x.ref.domains...)
	}
	if after := x.works[0].Look().Left; after > 0 && after < before {
		x.narrowed++
	}
}

// post adds a table by Way 1, by Way 2, and by one of both.
func (x *trial) post(table api.Table, mixed int) {
	x.Helper()
	x.each(func(ref *reference) { ref.post(table) }, func(k int, w *fretwork.Work) api.Errno {
		table.Way = []int{1, 2, mixed}[k]
		return w.Post(table)
	})
}

// take takes values out of a domain.
func (x *trial) take(d *dice, sizes []int) {
	x.Helper()
	v := d.below(len(sizes))
	value := d.below(sizes[v])
	if d.below(3) == 0 {
		x.each(func(ref *reference) { ref.fix(v, value) },
			func(_ int, w *fretwork.Work) api.Errno { return w.Fix(v, value) })
		return
	}
	x.each(func(ref *reference) { ref.remove(v, value) },
		func(_ int, w *fretwork.Work) api.Errno { return w.Remove(v, value) })
}

func (x *trial) step(d *dice, sizes []int) {
	if d.below(8) < 3 {
		x.take(d, sizes)
		return
	}
	x.post(d.table(sizes), 1+d.below(2))
}

func TestClosureAgainstReference(t *testing.T) {
	d := dice(1)
	narrowed := 0
	for range 2000 {
		sizes := make([]int, 1+d.below(6))
		for v := range sizes {
			sizes[v] = 1 + d.below(api.MaxSize)
		}
		x := newTrial(t, sizes)
		for range 8 {
			x.step(&d, sizes)
		}
		narrowed += x.narrowed
	}
	if narrowed < 2000 {
		t.Errorf("%d calls narrowed the domains and left them alive: they test too little", narrowed)
	}
}
