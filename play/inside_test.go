package play

import (
	"fmt"
	"testing"

	"bonsai/api"
)

// P24.2: where there is no next time, a local move tells ErrBig, whatever else it is. No script comes so far: the marks are
// set by hand.
func TestNoTime(t *testing.T) {
	for _, c := range []struct {
		counter int
		d       api.Deed
		e       api.Errno
	}{
		{api.MaxCounter, api.Deed{Kind: api.Local, Who: 2, Child: 1}, api.ErrBig},
		{api.MaxCounter, api.Deed{Kind: api.Local, Who: 2, Child: 0}, api.ErrBig},
		{api.MaxCounter, api.Deed{Kind: api.Reload, Who: 2}, api.OK},
		{api.MaxCounter - 1, api.Deed{Kind: api.Local, Who: 2, Child: 0}, api.ErrArg},
		{api.MaxCounter - 1, api.Deed{Kind: api.Local, Who: 2, Child: 1}, api.OK},
	} {
		w := New(2)
		w.replicas[1].Marks = []api.Mark{{Replica: 7, Counter: c.counter}}
		was := fmt.Sprintf("%+v", *w)
		if e := w.Step(c.d); e != c.e {
			t.Errorf("%+v at %d: %d, not %d", c.d, c.counter, e, c.e)
		}
		if c.e != api.OK {
			if now := fmt.Sprintf("%+v", *w); now != was {
				t.Errorf("%+v changed %s to %s", c.d, was, now)
			}
			continue
		}
		if e := w.Step(api.Deed{Kind: api.Local, Who: 1, Child: 1}); e != api.OK {
			t.Errorf("the other replica: %d", e)
		}
	}
}

// P24.2, R4: each deed tells the error of what it calls, and changes nothing then, also of a replica that may not be. No
// script makes one: it is set by hand.
func TestNoReplica(t *testing.T) {
	for _, d := range []api.Deed{
		{Kind: api.Local, Who: 1, Child: 1},
		{Kind: api.Deliver, Who: 1, At: 0},
		{Kind: api.Prune, Who: 1, At: 1, From: 1},
		{Kind: api.Reload, Who: 1},
	} {
		w := New(2)
		if e := w.Step(api.Deed{Kind: api.Local, Who: 2, Child: 1}); e != api.OK {
			t.Fatalf("a move: %d", e)
		}
		w.replicas[0] = api.Replica{Floor: api.Time{Counter: 1, Replica: 1}}
		was := fmt.Sprintf("%+v", *w)
		if e := w.Step(d); e != api.ErrArg {
			t.Errorf("%+v: %d", d, e)
		}
		if now := fmt.Sprintf("%+v", *w); now != was {
			t.Errorf("%+v changed %s to %s", d, was, now)
		}
		if s, e := w.File(1); s != "" || e != api.ErrArg {
			t.Errorf("File: %q, %d", s, e)
		}
	}
}
