package book

import (
	"testing"

	"stockroom/api"
)

func receive(id, cell, count int) api.Request {
	return api.Request{ID: id, Kind: api.Receive, Cell: cell, Count: count}
}

func reserve(id, cell, hold, count, time int) api.Request {
	return api.Request{ID: id, Kind: api.Reserve, Cell: cell, Hold: hold, Count: count, Time: time}
}

func commit(id, hold int) api.Request { return api.Request{ID: id, Kind: api.Commit, Hold: hold} }

func release(id, hold int) api.Request { return api.Request{ID: id, Kind: api.Release, Hold: hold} }

func tick(id, time int) api.Request { return api.Request{ID: id, Kind: api.Tick, Time: time} }

// asking is a request and what should become of it.
type asking struct {
	request     api.Request
	code, count int
	done        bool
}

func checkAsking(t *testing.T, b *Book, l ...asking) {
	t.Helper()
	for i, a := range l {
		before := *b
		reply, done := b.Ask(LookOver(a.request))
		if want := (api.Reply{Code: a.code, Count: a.count}); reply != want || done != a.done {
			t.Errorf("%d: of %v became %v, %t, want %v, %t", i, a.request, reply, done, want, a.done)
		}
		if !done && *b != before {
			t.Errorf("%d: %v was not done, but changed the book", i, a.request)
		}
		if done && b.Count() != before.Count()+1 {
			t.Errorf("%d: %v was done, but the count went from %d to %d", i, a.request, before.Count(), b.Count())
		}
	}
}

func TestRequestsOfEachKind(t *testing.T) {
	whole := []struct {
		r       api.Request
		good    []api.Request
		useless []string
	}{
		{receive(1, 0, 1), []api.Request{receive(1000000000, 7, 1000000)}, []string{"Hold", "Time"}},
		{reserve(1, 0, 1, 1, 0), []api.Request{reserve(1000000000, 7, 50, 1000000, 1000000000)}, nil},
		{commit(1, 1), []api.Request{commit(1000000000, 50)}, []string{"Cell", "Count", "Time"}},
		{release(1, 1), []api.Request{release(1000000000, 50)}, []string{"Cell", "Count", "Time"}},
		{tick(1, 0), []api.Request{tick(1000000000, 1000000000)}, []string{"Cell", "Hold", "Count"}},
	}
	for _, x := range whole {
		for _, r := range append(x.good, x.r) {
			if !isRequest(r) {
				t.Errorf("%v is no request", r)
			}
			for _, bad := range beyond(r) {
				if isRequest(bad) {
					t.Errorf("%v is a request", bad)
				}
			}
			for _, field := range x.useless {
				for _, n := range []int{1, -1, 1 << 40} {
					bad := r
					*fieldOf(&bad, field) = n
					if isRequest(bad) {
						t.Errorf("%v is a request, with a %s", bad, field)
					}
				}
			}
		}
	}
	for _, kind := range []int{-1, 5, 6, 1 << 40, -1 << 63} {
		for _, r := range []api.Request{receive(1, 0, 1), reserve(1, 0, 1, 1, 0), commit(1, 1), tick(1, 0)} {
			r.Kind = kind
			if isRequest(r) {
				t.Errorf("%v is a request", r)
			}
		}
	}
}

func fieldOf(r *api.Request, name string) *int {
	return map[string]*int{"ID": &r.ID, "Cell": &r.Cell, "Hold": &r.Hold, "Count": &r.Count, "Time": &r.Time}[name]
}

// beyond tells requests of which one number is just or far out of its bounds.
func beyond(r api.Request) []api.Request {
	var l []api.Request
	for field, numbers := range map[string][]int{
		"ID": {0, 1000000001}, "Cell": {-1, 8}, "Hold": {-1, 51}, "Count": {-1, 1000001}, "Time": {-1, 1000000001},
	} {
		for _, n := range append(numbers, -1<<63, 1<<63-1) {
			bad := r
			*fieldOf(&bad, field) = n
			l = append(l, bad)
		}
	}
	if r.Kind != api.Tick {
		bad := r
		bad.Hold, bad.Count = 0, 0
		l = append(l, bad)
	}
	return l
}

func TestZeroWhereANumberIsAskedFor(t *testing.T) {
	for _, r := range []api.Request{{}, {ID: 1}, receive(1, 0, 0), reserve(1, 0, 0, 1, 1), reserve(1, 0, 1, 0, 1), commit(1, 0), release(1, 0), receive(0, 0, 1)} {
		if isRequest(r) {
			t.Errorf("%v is a request", r)
		}
	}
}

func TestReceive(t *testing.T) {
	b := New()
	checkAsking(t, &b, asking{receive(1, 0, 5), 0, 5, true}, asking{receive(2, 0, 6), 0, 11, true}, asking{receive(3, 7, 1), 0, 1, true},
		asking{reserve(4, 0, 1, 4, 9), 0, 7, true}, asking{receive(5, 0, 1), 0, 8, true}, asking{commit(6, 1), 0, 4, true}, asking{receive(7, 0, 1), 0, 9, true})
	if c := b.Cell(0); c != (api.Cell{OnHand: 13, Committed: 4, Free: 9}) {
		t.Errorf("cell 0 is %v", c)
	}
}

func TestReceiveUpToTheBound(t *testing.T) {
	b := New()
	b.cells[2].onHand = 999999999
	checkAsking(t, &b, asking{receive(1, 2, 2), 1, 0, true}, asking{receive(2, 2, 1), 0, 1000000000, true}, asking{receive(3, 2, 1), 1, 0, true})
	checkAsking(t, &b, asking{reserve(4, 2, 1, 1000000, 1), 0, 999000000, true}, asking{commit(5, 1), 0, 1000000, true}, asking{receive(6, 2, 1), 1, 0, true})
	if c := b.Cell(2); c != (api.Cell{OnHand: 1000000000, Committed: 1000000, Free: 999000000}) {
		t.Errorf("cell 2 is %v", c)
	}
}

func TestReserve(t *testing.T) {
	b := New()
	checkAsking(t, &b, asking{receive(1, 3, 10), 0, 10, true}, asking{reserve(2, 3, 1, 11, 1), 1, 0, true}, asking{reserve(3, 3, 1, 10, 0), 1, 0, true},
		asking{reserve(4, 3, 1, 4, 1), 0, 6, true}, asking{reserve(5, 3, 1, 1, 1), 1, 0, true}, asking{reserve(6, 3, 50, 7, 1), 1, 0, true},
		asking{reserve(7, 3, 50, 6, 1000000000), 0, 0, true}, asking{reserve(8, 3, 2, 1, 1), 1, 0, true}, asking{reserve(9, 4, 2, 1, 1), 1, 0, true})
	checkAsking(t, &b, asking{tick(10, 7), 0, 1, true}, asking{reserve(11, 3, 1, 1, 7), 1, 0, true}, asking{reserve(12, 3, 1, 1, 8), 0, 3, true})
	if h, live := b.Hold(1); h != (api.Hold{Cell: 3, Count: 1, Time: 8}) || !live {
		t.Errorf("hold 1 is %v, %t", h, live)
	}
}

func TestCommitAndRelease(t *testing.T) {
	b := New()
	checkAsking(t, &b, asking{receive(1, 5, 10), 0, 10, true}, asking{reserve(2, 5, 1, 3, 1), 0, 7, true}, asking{reserve(3, 5, 2, 4, 1), 0, 3, true},
		asking{commit(4, 3), 1, 0, true}, asking{release(5, 3), 1, 0, true}, asking{commit(6, 1), 0, 3, true}, asking{commit(7, 1), 1, 0, true},
		asking{release(8, 1), 1, 0, true}, asking{release(9, 2), 0, 4, true}, asking{release(10, 2), 1, 0, true}, asking{commit(11, 2), 1, 0, true})
	if c := b.Cell(5); c != (api.Cell{OnHand: 10, Committed: 3, Free: 7}) {
		t.Errorf("cell 5 is %v", c)
	}
	if c := b.Cell(0); c != (api.Cell{}) {
		t.Errorf("cell 0 is %v", c)
	}
}

func TestTick(t *testing.T) {
	b := New()
	checkAsking(t, &b, asking{tick(1, 0), 0, 0, true}, asking{receive(2, 0, 9), 0, 9, true}, asking{reserve(3, 0, 1, 1, 4), 0, 8, true},
		asking{reserve(4, 0, 2, 1, 5), 0, 7, true}, asking{reserve(5, 0, 3, 1, 6), 0, 6, true}, asking{tick(6, 3), 0, 0, true},
		asking{tick(7, 2), 1, 0, true}, asking{tick(8, 5), 0, 2, true}, asking{tick(9, 5), 0, 0, true}, asking{tick(10, 4), 1, 0, true},
		asking{tick(11, 1000000000), 0, 1, true})
	if b.Clock() != 1000000000 || b.Cell(0) != (api.Cell{OnHand: 9, Free: 9}) {
		t.Errorf("the clock is %d, cell 0 %v", b.Clock(), b.Cell(0))
	}
}

func TestRemembered(t *testing.T) {
	b := New()
	b.Keep(2)
	checkAsking(t, &b, asking{receive(1, 0, 5), 0, 5, true}, asking{reserve(2, 0, 7, 3, 10), 0, 2, true}, asking{reserve(3, 0, 8, 3, 10), 1, 0, true},
		asking{reserve(2, 0, 7, 3, 10), 0, 2, false}, asking{reserve(3, 0, 8, 3, 10), 1, 0, false}, asking{receive(2, 8, 1), 4, 0, false})
	for _, r := range []api.Request{reserve(2, 1, 7, 3, 10), reserve(2, 0, 8, 3, 10), reserve(2, 0, 7, 4, 10), reserve(2, 0, 7, 3, 9), commit(2, 7), tick(3, 1)} {
		checkAsking(t, &b, asking{r, 2, 0, false})
	}
	checkAsking(t, &b, asking{receive(1, 0, 5), 0, 7, true}, asking{reserve(2, 0, 7, 3, 10), 1, 0, true}, asking{receive(1, 0, 5), 0, 7, false})
}

func TestEachWindow(t *testing.T) {
	for window := 1; window <= api.MaxWindow; window++ {
		b := New()
		b.Keep(window)
		for id := 1; id <= 30; id++ {
			b.Ask(LookOver(receive(id, 0, 1)))
		}
		for id := 1; id <= 30; id++ {
			c := b
			if _, done := c.Ask(LookOver(receive(id, 0, 1))); done != (id <= 30-window) {
				t.Errorf("window %d: ID %d is done again: %t", window, id, done)
			}
		}
	}
}

func TestKeepForgetsTheFirst(t *testing.T) {
	b := New()
	for id := 1; id <= 5; id++ {
		b.Ask(LookOver(receive(id, 0, 1)))
	}
	b.Keep(8)
	checkAsking(t, &b, asking{receive(1, 0, 1), 0, 1, false})
	b.Keep(2)
	for i, old := range b.past[2:] {
		if old != (answered{}) {
			t.Errorf("what was forgotten still stands at %d: %v", 2+i, old)
		}
	}
	checkAsking(t, &b, asking{receive(4, 0, 1), 0, 4, false}, asking{receive(5, 0, 1), 0, 5, false}, asking{receive(3, 0, 1), 0, 6, true}, asking{receive(4, 0, 1), 0, 7, true})
}

func TestACopySharesNothing(t *testing.T) {
	b := New()
	checkAsking(t, &b, asking{receive(1, 0, 5), 0, 5, true}, asking{reserve(2, 0, 1, 2, 3), 0, 3, true})
	before, c := b, b
	checkAsking(t, &c, asking{receive(3, 0, 5), 0, 8, true}, asking{commit(4, 1), 0, 2, true}, asking{tick(5, 9), 0, 0, true})
	if b != before {
		t.Error("what was done in a copy changed the book")
	}
}

func TestWhatWasNotLookedOverIsWrong(t *testing.T) {
	b := New()
	for _, x := range []Looked{{}, {request: receive(1, 0, 5)}, LookOver(api.Request{}), LookOver(receive(1, 8, 5))} {
		if reply, done := b.Ask(x); reply != (api.Reply{Code: api.Wrong}) || done || b != New() {
			t.Errorf("of %v became %v, %t", x, reply, done)
		}
	}
}

// Known tells what Ask does, where that does nothing, and changes nothing where Ask would.
func TestKnown(t *testing.T) {
	b := New()
	b.Keep(2)
	checkAsking(t, &b, asking{receive(1, 0, 5), 0, 5, true}, asking{reserve(2, 0, 1, 2, 9), 0, 3, true}, asking{commit(3, 2), 1, 0, true})
	before := b
	for _, x := range []struct {
		request     api.Request
		code, count int
		known       bool
	}{
		{reserve(2, 0, 1, 2, 9), 0, 3, true}, {commit(3, 2), 1, 0, true}, {commit(2, 2), 2, 0, true}, {commit(3, 3), 2, 0, true},
		{commit(2, 51), 4, 0, true}, {api.Request{}, 4, 0, true}, {receive(1, 0, 5), 0, 0, false}, {receive(4, 0, 5), 0, 0, false}, {commit(5, 1), 0, 0, false},
	} {
		if reply, known := b.Known(LookOver(x.request)); reply != (api.Reply{Code: x.code, Count: x.count}) || known != x.known {
			t.Errorf("of %v is known %v, %t", x.request, reply, known)
		}
		if b != before {
			t.Fatalf("asking what is known of %v changed the book", x.request)
		}
	}
}
