package fretwork

import (
	"testing"

	"fretwork/api"
)

// The level is set from inside, so that P4 and P7 are tested apart from Push.
func TestP4Level(t *testing.T) {
	all := api.Table{Vars: []int{0}, Not: true, Way: 1}
	post := func(w *Work, x api.Table, want api.Errno) {
		t.Helper()
		if e := w.Post(x); e != want {
			t.Errorf("Post answered %d, want %d", e, want)
		}
	}
	w, _ := New(2)
	w.level = 1
	post(w, all, api.ErrLevel)
	post(w, api.Table{Vars: []int{1}, Way: 1}, api.ErrArg)
	if got := w.Look(); got != (api.Look{Vars: 1, Level: 1, Left: 2}) {
		t.Errorf("Look = %+v", got)
	}
	if e := w.Fix(0, 0); e != api.OK {
		t.Errorf("Fix answered %d", e)
	}
	w.Fix(0, 1)
	post(w, all, api.ErrLevel)
	w.level = 0
	post(w, all, api.ErrDead)

	w, _ = New(2)
	for range api.MaxTables {
		post(w, all, api.OK)
	}
	w.level = 1
	post(w, all, api.ErrFull)
}
