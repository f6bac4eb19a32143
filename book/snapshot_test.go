package book

import (
	"fmt"
	"math/rand"
	"testing"

	"stockroom/api"
)

// cellsOf are the numbers of the cells of a snapshot of which only the first has anything.
func cellsOf(onHand, committed int) []int {
	return append([]int{onHand, committed}, make([]int, 14)...)
}

func checkSnapshot(t *testing.T, what string, b *Book, parts ...[]int) {
	t.Helper()
	var numbers []int
	for _, l := range parts {
		numbers = append(numbers, l...)
	}
	if got, want := b.Snapshot(), four(numbers...); got != want {
		t.Errorf("%s: the snapshot is\n%x, want\n%x", what, got, want)
	}
}

func TestSnapshotHasTheWrittenNumbers(t *testing.T) {
	b := New()
	checkSnapshot(t, "at the beginning", &b, []int{0, 0}, cellsOf(0, 0), []int{0}, []int{0})
	b.Keep(3)
	b.Ask(LookOver(receive(1, 0, 9)))
	checkSnapshot(t, "behind one", &b, []int{1, 0}, cellsOf(9, 0), []int{0}, []int{1}, []int{1, 0, 0, 0, 9, 0, 0, 9})
	b.Ask(LookOver(reserve(2, 0, 50, 2, 7)))
	b.Ask(LookOver(reserve(3, 0, 4, 3, 6)))
	checkSnapshot(t, "holds", &b, []int{3, 0}, cellsOf(9, 0), []int{2, 4, 0, 3, 6, 50, 0, 2, 7}, []int{3},
		[]int{1, 0, 0, 0, 9, 0, 0, 9}, []int{2, 1, 0, 50, 2, 7, 0, 7}, []int{3, 1, 0, 4, 3, 6, 0, 4})
	b.Ask(LookOver(commit(4, 50)))
	b.Ask(LookOver(tick(5, 6)))
	b.Ask(LookOver(release(6, 4)))
	checkSnapshot(t, "gone, over, and the first forgotten", &b, []int{6, 6}, cellsOf(9, 2), []int{0}, []int{3},
		[]int{4, 2, 0, 50, 0, 0, 0, 2}, []int{5, 4, 0, 0, 0, 6, 0, 1}, []int{6, 3, 0, 4, 0, 0, 1, 0})
}

func TestSnapshotOfGreatNumbers(t *testing.T) {
	b := New()
	b.done, b.clock = MaxDone, api.MaxTime
	for i := range b.cells {
		b.cells[i] = stock{onHand: api.MaxStock, committed: api.MaxStock - i}
	}
	var cells []int
	for i := range api.Cells {
		cells = append(cells, 1000000000, 1000000000-i)
	}
	checkSnapshot(t, "the most of all", &b, []int{1000000000, 1000000000}, cells, []int{0}, []int{0})
}

// The longest snapshot has to find room in a frame.
func TestSnapshotOfAllHoldsAndTheWidestWindow(t *testing.T) {
	b := New()
	for i := range b.cells {
		b.cells[i].onHand = api.MaxStock
	}
	for number := 1; number <= api.MaxHold; number++ {
		b.Ask(LookOver(reserve(number, number%8, number, api.MaxCount, api.MaxTime)))
	}
	text := b.Snapshot()
	if len(text) != 4*(2+16+1+50*4+1+20*8) || len(text) > api.MaxPayload {
		t.Errorf("the longest snapshot has %d bytes", len(text))
	}
	checkRestored(t, "the longest snapshot", &b, api.MaxWindow)
}

// checkRestored reads a book from its own snapshot.
func checkRestored(t *testing.T, what string, b *Book, window int) {
	t.Helper()
	before := *b
	c, ok := Restore(b.Snapshot())
	if c.Keep(window); !ok || c != *b {
		t.Errorf("%s: the book restored from its snapshot is another: %t", what, ok)
	}
	if *b != before {
		t.Errorf("%s: telling the snapshot changed the book", what)
	}
}

func TestSnapshotIsRestored(t *testing.T) {
	r := rand.New(rand.NewSource(2))
	for window := 1; window <= api.MaxWindow; window++ {
		b := New()
		b.Keep(window)
		for i := range 200 {
			checkRestored(t, fmt.Sprint("window ", window, ", ", i, " asked"), &b, window)
			id, cell, hold, count, time := 1+r.Intn(40), r.Intn(8), 1+r.Intn(50), 1+r.Intn(9), r.Intn(40)
			b.Ask(LookOver([]api.Request{
				receive(id, cell, count), reserve(id, cell, hold, count, time), reserve(id, cell, hold, count, 40+time), commit(id, hold), release(id, hold), tick(id, i/6),
			}[r.Intn(6)]))
		}
	}
}
