// Package tables: what a table allows, worked out in two ways behind one interface.
package tables

import (
	"slices"

	"fretwork/api"
	"fretwork/values"
)

// The two ways that api.Table.Way names.
const (
	wayRows    = 1
	wayDiagram = 2
)

// Table is what is left of a posted table under domains that only shrink, but where it is put back together with them.
type Table interface {
	// Changed tells whether a variable of the table has another domain in one than in the other.
	Changed(before, after values.Domains) bool
	// Narrow answers the domains with nothing but supported values for the table's variables, and lets go of what
	// the domains rule out. It is asked only while every variable has a value left.
	Narrow(domains values.Domains) values.Domains
	// Last is the greatest of the table's variables.
	Last() int
	// Allows tells whether the table allows its variables' values in list, which has one for each variable up to
	// Last at least, all of them out of the domains.
	Allows(list []int) bool
	// State is what Narrow changes, as it is now.
	State() State
}

// State is what is left of a table, of either kind.
type State struct {
	live  rowSet // of sets of rows
	nodes []node // of a diagram
	root  int    // of a diagram
}

// PutBack gives t a state that it had.
func PutBack(t Table, was State) {
	switch t := t.(type) {
	case *rowSets:
		t.live = was.live
	case *diagram:
		t.nodes, t.root = was.nodes, was.root
	}
}

// Make makes a table of t, which must be valid; it keeps nothing of t's memory.
func Make(t api.Table, domains values.Domains) Table {
	if t.Way == wayDiagram {
		return newDiagram(t, domains)
	}
	return newRowSets(t)
}

// Valid tells whether t is a table of variables of these sizes.
func Valid(t api.Table, sizes []int) bool {
	if t.Way != wayRows && t.Way != wayDiagram {
		return false
	}
	if !validVars(t.Vars, len(sizes)) || len(t.Rows) > api.MaxRows {
		return false
	}
	for _, row := range t.Rows {
		if !validRow(row, t.Vars, sizes) {
			return false
		}
	}
	return true
}

func validVars(vars []int, count int) bool {
	if len(vars) < 1 || len(vars) > api.MaxArity {
		return false
	}
	for i, v := range vars {
		if v < 0 || v >= count || slices.Contains(vars[:i], v) {
			return false
		}
	}
	return true
}

func validRow(row, vars, sizes []int) bool {
	if len(row) != len(vars) {
		return false
	}
	for i, entry := range row {
		if entry != api.Any && (entry < 0 || entry >= sizes[vars[i]]) {
			return false
		}
	}
	return true
}

// bears tells whether an entry of a row stands for this value.
func bears(entry, value int) bool { return entry == api.Any || entry == value }

// scope is the variables of a table, which both kinds have.
type scope struct {
	vars []int
}

func newScope(vars []int) scope { return scope{vars: slices.Clone(vars)} }

// Changed is a method of both kinds of Table.
func (s scope) Changed(before, after values.Domains) bool {
	for _, v := range s.vars {
		if before[v] != after[v] {
			return true
		}
	}
	return false
}

// Last is a method of both kinds of Table.
func (s scope) Last() int { return slices.Max(s.vars) }

// replaced answers the domains with those of the table's variables taken from supported.
func (s scope) replaced(domains, supported values.Domains) values.Domains {
	for _, v := range s.vars {
		domains[v] = supported[v]
	}
	return domains
}
