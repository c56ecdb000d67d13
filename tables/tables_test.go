package tables

import (
	"testing"

	"fretwork/api"
	"fretwork/values"
)

func full(sizes ...int) values.Domains {
	var d values.Domains
	for v, size := range sizes {
		d[v] = values.Below(size)
	}
	return d
}

// bothWays runs a test with the same table made in each way.
func bothWays(t *testing.T, table api.Table, domains values.Domains, test func(t *testing.T, made Table)) {
	for way, name := range map[int]string{wayRows: "rows", wayDiagram: "diagram"} {
		table.Way = way
		t.Run(name, func(t *testing.T) { test(t, Make(table, domains)) })
	}
}

func TestMakeKinds(t *testing.T) {
	table := api.Table{Vars: []int{0}, Rows: [][]int{{0}}, Way: wayRows}
	if _, ok := Make(table, full(2)).(*rowSets); !ok {
		t.Error("Way 1 is not worked out by sets of rows")
	}
	table.Way = wayDiagram
	if _, ok := Make(table, full(2)).(*diagram); !ok {
		t.Error("Way 2 is not worked out by a diagram")
	}
}

func TestNarrowLeavesOtherVariables(t *testing.T) {
	domains := full(3, 4, 3)
	table := api.Table{Vars: []int{2, 0}, Rows: [][]int{{1, 0}, {1, 2}}}
	bothWays(t, table, domains, func(t *testing.T, made Table) {
		want := values.Domains{values.One(0) | values.One(2), values.Below(4), values.One(1)}
		if got := made.Narrow(domains); got != want {
			t.Errorf("Narrow = %v, want %v", got, want)
		}
	})
}

func TestNarrowStepByStep(t *testing.T) {
	domains := full(3, 3)
	table := api.Table{Vars: []int{0, 1}, Rows: [][]int{{0, api.Any}, {2, 1}, {2, 2}}, Not: true}
	bothWays(t, table, domains, func(t *testing.T, made Table) {
		want := values.Domains{values.One(1) | values.One(2), values.Below(3)}
		got := made.Narrow(domains)
		if got != want {
			t.Fatalf("Narrow = %v, want %v", got, want)
		}
		want[0] = values.One(2)
		got = made.Narrow(want)
		if want[1] = values.One(0); got != want {
			t.Errorf("Narrow with 0 = 2 is %v, want %v", got, want)
		}
	})
	bothWays(t, table, domains, func(t *testing.T, made Table) {
		made.Narrow(domains)
		if got := made.Narrow(values.Domains{values.One(2), values.One(1)}); got != (values.Domains{}) {
			t.Errorf("Narrow of what is not allowed = %v", got)
		}
	})
}

// Each step is put back to the one ahead of it, and narrowed another way from there.
func TestPutBack(t *testing.T) {
	domains := full(3, 3)
	for _, not := range []bool{false, true} {
		table := api.Table{Vars: []int{0, 1}, Rows: [][]int{{0, 0}, {0, 1}, {1, 2}, {2, api.Any}}, Not: not}
		others := [2]values.Set{values.One(0) | values.One(1), values.One(2)}
		if not {
			others[0], others[1] = others[1], others[0]
		}
		bothWays(t, table, domains, func(t *testing.T, made Table) {
			first := made.Narrow(domains)
			was := made.State()
			for range 2 {
				for value, want := range others {
					next := first
					next[0] = values.One(value)
					if got := made.Narrow(next); got[1] != want {
						t.Errorf("with 0 = %d, 1 is %v, want %v", value, got[1], want)
					}
					inner := made.State()
					made.Narrow(values.Domains{values.One(value), values.One(1)})
					PutBack(made, inner)
					if got := made.Narrow(next); got[1] != want {
						t.Errorf("put back with 0 = %d, 1 is %v, want %v", value, got[1], want)
					}
					PutBack(made, was)
				}
			}
			if got := made.Narrow(first); got != first {
				t.Errorf("Narrow of what was put back = %v, want %v", got, first)
			}
		})
	}
}

func TestChanged(t *testing.T) {
	domains := full(2, 2, 2)
	bothWays(t, api.Table{Vars: []int{2, 0}}, domains, func(t *testing.T, made Table) {
		for v, want := range []bool{true, false, true} {
			after := domains
			after[v] = values.One(0)
			if got := made.Changed(domains, after); got != want {
				t.Errorf("Changed by variable %d = %v", v, got)
			}
		}
		if made.Changed(domains, domains) {
			t.Error("Changed by nothing")
		}
	})
}

func TestLast(t *testing.T) {
	domains := full(2, 2, 2, 2)
	lasts := map[int][]int{0: {0}, 1: {1, 0}, 2: {0, 2}, 3: {1, 3, 2, 0}}
	for want, vars := range lasts {
		bothWays(t, api.Table{Vars: vars}, domains, func(t *testing.T, made Table) {
			if got := made.Last(); got != want {
				t.Errorf("Last of %v = %d", vars, got)
			}
		})
	}
}

// The table has variables 2 and 0: of a list it looks at these alone, in this order.
func TestAllows(t *testing.T) {
	domains := full(3, 2, 4)
	for _, not := range []bool{false, true} {
		table := api.Table{Vars: []int{2, 0}, Rows: [][]int{{3, 0}, {0, api.Any}, {api.Any, 1}, {2, 2}}, Not: not}
		bothWays(t, table, domains, func(t *testing.T, made Table) {
			check := func(domains values.Domains) {
				t.Helper()
				for first := range domains[0].Each {
					for last := range domains[2].Each {
						covered := last == 3 && first == 0 || last == 0 || first == 1 || last == 2 && first == 2
						if got := made.Allows([]int{first, 1, last}); got != (covered != not) {
							t.Errorf("Not %v: Allows %d and %d = %v", not, last, first, got)
						}
					}
				}
			}
			check(domains)
			made.Narrow(domains)
			check(domains)
			was := made.State()
			fewer := values.Domains{values.One(0) | values.One(2), values.Below(2), values.Below(4) &^ values.One(1)}
			check(made.Narrow(fewer))
			check(fewer)
			PutBack(made, was)
			check(domains)
		})
	}
}

func TestAllowsWithoutRows(t *testing.T) {
	domains := full(2, 2)
	for _, not := range []bool{false, true} {
		bothWays(t, api.Table{Vars: []int{1, 0}, Not: not}, domains, func(t *testing.T, made Table) {
			for k := range 4 {
				if got := made.Allows([]int{k / 2, k % 2}); got != not {
					t.Errorf("Not %v: Allows %d and %d = %v", not, k%2, k/2, got)
				}
			}
		})
	}
}

func TestRowSetsLetRowsGo(t *testing.T) {
	domains := full(3, 3)
	table := api.Table{Vars: []int{0, 1}, Rows: [][]int{{0, 1}, {1, 2}, {api.Any, 0}}, Way: wayRows}
	r := newRowSets(table)
	if r.Narrow(domains); r.live != 0b111 {
		t.Errorf("live rows %b", r.live)
	}
	domains[0] = values.One(1)
	if r.Narrow(domains); r.live != 0b110 {
		t.Errorf("live rows behind 0 = 1: %b", r.live)
	}
	domains[1] = values.One(2)
	if r.Narrow(domains); r.live != 0b010 {
		t.Errorf("live rows behind 1 = 2: %b", r.live)
	}
}

// A table that allows all needs one node an entry, if like parts are there once only.
func TestDiagramSharesLikeParts(t *testing.T) {
	domains := full(6, 6, 6, 6)
	d := newDiagram(api.Table{Vars: []int{0, 1, 2, 3}, Not: true, Way: wayDiagram}, domains)
	if got := len(d.nodes) - inner; got != api.MaxArity {
		t.Errorf("%d nodes for all lists", got)
	}
	for v := range api.MaxArity {
		domains[v] = values.Below(v + 2)
		if got := d.Narrow(domains); got != domains || len(d.nodes)-inner != api.MaxArity {
			t.Errorf("Narrow = %v, %d nodes", got, len(d.nodes)-inner)
		}
	}
}

// Two nodes that differed become one, when what made the difference is gone.
func TestDiagramMergesWhatBecomesLike(t *testing.T) {
	domains := full(2, 2)
	d := newDiagram(api.Table{Vars: []int{0, 1}, Rows: [][]int{{0, 0}, {1, api.Any}}, Way: wayDiagram}, domains)
	if got := len(d.nodes) - inner; got != 3 {
		t.Fatalf("%d nodes", got)
	}
	domains[1] = values.One(0)
	if got := d.Narrow(domains); got != domains || len(d.nodes)-inner != 2 {
		t.Errorf("Narrow = %v, %d nodes", got, len(d.nodes)-inner)
	}
}
