package tables

import (
	"fretwork/api"
	"fretwork/values"
)

// rowSet has one bit for each row: api.MaxRows of them fit into one word.
type rowSet uint64

// rowSets is a table of Way 1.
type rowSets struct {
	scope
	not    bool
	bearer [api.MaxArity][api.MaxSize]rowSet // the rows that bear a value at an entry
	live   rowSet                            // the rows that cover a list out of the domains
}

func newRowSets(t api.Table) *rowSets {
	r := &rowSets{scope: newScope(t.Vars), not: t.Not}
	for k, row := range t.Rows {
		r.live |= 1 << k
		r.add(row, 1<<k)
	}
	return r
}

func (r *rowSets) add(row []int, bit rowSet) {
	for i, entry := range row {
		for value := range api.MaxSize {
			if bears(entry, value) {
				r.bearer[i][value] |= bit
			}
		}
	}
}

// Narrow is a method of Table.
func (r *rowSets) Narrow(domains values.Domains) values.Domains {
	r.drop(domains)
	var supported values.Domains
	if r.not {
		r.markUncovered(0, r.live, &domains, &supported)
	} else {
		r.markCovered(&domains, &supported)
	}
	return r.replaced(domains, supported)
}

// Allows is a method of Table.
func (r *rowSets) Allows(list []int) bool {
	covering := r.live
	for i, v := range r.vars {
		covering &= r.bearer[i][list[v]]
	}
	return (covering != 0) != r.not
}

// State is a method of Table.
func (r *rowSets) State() State { return State{live: r.live} }

// drop lets go of the rows that have an entry without any value in its domain.
func (r *rowSets) drop(domains values.Domains) {
	for i, v := range r.vars {
		var some rowSet
		for value := range domains[v].Each {
			some |= r.bearer[i][value]
		}
		r.live &= some
	}
}

// markCovered marks the values that a live row bears: its other entries all have a value left.
func (r *rowSets) markCovered(domains, supported *values.Domains) {
	for i, v := range r.vars {
		for value := range domains[v].Each {
			if r.live&r.bearer[i][value] != 0 {
				supported[v] |= values.One(value)
			}
		}
	}
}

// markUncovered marks, from entry i on, the values of the lists that none of the rows covers, and tells whether there
// is such a list. The rows are those that bear all values chosen ahead of i.
func (r *rowSets) markUncovered(i int, rows rowSet, domains, supported *values.Domains) bool {
	if rows == 0 {
		// Nothing can cover the list any more, whatever its other values are.
		for _, v := range r.vars[i:] {
			supported[v] = domains[v]
		}
		return true
	}
	if i == len(r.vars) {
		return false
	}
	found := false
	v := r.vars[i]
	for value := range domains[v].Each {
		if r.markUncovered(i+1, rows&r.bearer[i][value], domains, supported) {
			supported[v] |= values.One(value)
			found = true
		}
	}
	return found
}
