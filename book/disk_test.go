package book

import (
	"fmt"
	"slices"
	"strings"
	"testing"

	"stockroom/api"
	"stockroom/frames"
)

func four(numbers ...int) string {
	text := ""
	for _, n := range numbers {
		text += string([]byte{byte(n), byte(n >> 8), byte(n >> 16), byte(n >> 24)})
	}
	return text
}

func recordText(number int, r api.Request) string {
	return frames.Of(four(number, r.ID, r.Kind, r.Cell, r.Hold, r.Count, r.Time))
}

func TestReaderTakesNumbers(t *testing.T) {
	r := &reader{left: "\x00\x00\x00\x00\x01\x02\x03\x04\xff\xff\xff\xff"}
	for _, want := range []int{0, 0x04030201, 1<<32 - 1} {
		if n := r.next(); n != want {
			t.Errorf("next = %d, want %d", n, want)
		}
	}
	if !r.ended() {
		t.Error("not ended at the end")
	}
	if n := r.next(); n != 0 || r.ended() {
		t.Errorf("next at the end = %d", n)
	}
}

func TestReaderStaysBad(t *testing.T) {
	for _, x := range []struct {
		n, low, high int
		good         bool
	}{{5, 5, 9, true}, {9, 5, 9, true}, {4, 5, 9, false}, {10, 5, 9, false}, {5, 6, 5, false}, {1<<32 - 1, 0, 9, false}} {
		r := &reader{left: four(x.n)}
		if n := r.within(x.low, x.high); (n == x.n) != x.good || !x.good && n != 0 || r.ended() != x.good {
			t.Errorf("%d within %d and %d: %d, %t", x.n, x.low, x.high, n, r.ended())
		}
	}
	for _, text := range []string{"x", "abc", "abcde", "abcdefg"} {
		r := &reader{left: text}
		r.next()
		r.next()
		if r.ended() || r.left != "" {
			t.Errorf("%q was read as numbers", text)
		}
	}
}

func TestRestoreThenForget(t *testing.T) {
	l := []int{3, 1}
	l = append(l, 9, 2)
	l = append(l, make([]int, 14)...)
	l = append(l, 1, 4, 0, 6, 2)
	l = append(l, 2, 8, 0, 0, 0, 9, 0, 0, 9, 7, 3, 0, 5, 0, 0, 1, 0)
	b, ok := Restore(four(l...))
	if !ok {
		t.Fatal("the snapshot is none")
	}
	checkAsking(t, &b, asking{receive(8, 0, 9), 0, 9, false}, asking{release(7, 5), 1, 0, false}, asking{release(7, 4), 2, 0, false})
	b.Keep(1)
	checkAsking(t, &b, asking{release(7, 5), 1, 0, false}, asking{receive(8, 0, 9), 0, 10, true}, asking{release(7, 4), 0, 6, true})
	if c := b.Cell(0); c != (api.Cell{OnHand: 18, Committed: 2, Free: 16}) || b.Clock() != 1 || b.Count() != 5 {
		t.Errorf("cell 0 is %v, the clock %d, %d are done", c, b.Clock(), b.Count())
	}
}

func TestRestoreOfNone(t *testing.T) {
	empty := make([]int, 20)
	if b, ok := Restore(four(empty...)); !ok || b != New() {
		t.Error("the book at the beginning was not restored")
	}
	for _, payload := range []string{"", four(0), four(empty[1:]...), four(empty...) + "\x00", four(empty...) + four(0), strings.Repeat("\xff", 80), strings.Repeat("\x00", 4000)} {
		if b, ok := Restore(payload); ok || b != (Book{}) {
			t.Errorf("a book was restored from %.20x", payload)
		}
	}
}

func TestFollows(t *testing.T) {
	for _, x := range []struct {
		number, ahead, old int
		want               bool
	}{
		{0, 0, 0, false}, {1, 0, 0, true}, {2, 0, 0, false}, {1, 0, 9, true}, {9, 0, 9, true}, {10, 0, 9, true}, {11, 0, 9, false}, {0, 0, 9, false}, {-1, 0, 9, false},
		{1, 1, 9, false}, {2, 1, 9, true}, {3, 1, 9, false}, {11, 10, 9, true}, {12, 10, 9, false}, {1, 5, 9, false},
		{MaxDone, 0, MaxDone, true}, {MaxDone + 1, 0, MaxDone, false}, {MaxDone, MaxDone - 1, 0, true}, {MaxDone + 1, MaxDone, 0, false},
	} {
		if got := follows(x.number, x.ahead, x.old); got != x.want {
			t.Errorf("number %d behind %d, with %d done of old: %t", x.number, x.ahead, x.old, got)
		}
	}
}

func TestReplayTellsTheLogsEnd(t *testing.T) {
	one, two, three := recordText(1, receive(1, 0, 5)), recordText(2, tick(2, 3)), recordText(3, commit(3, 1))
	for _, x := range []struct {
		log        []string
		end, count int
	}{
		{nil, 0, 0}, {[]string{one}, 32, 1}, {[]string{one, two, three}, 96, 3}, {[]string{two}, 0, 0}, {[]string{one, three}, 32, 1},
		{[]string{one, two, three[:31]}, 64, 2}, {[]string{one, frames.Of(""), two}, 32, 1}, {[]string{one, recordText(2, receive(1, 0, 5)), three}, 32, 1},
		{[]string{one, recordText(2, receive(2, 8, 5)), three}, 32, 1}, {[]string{"x", one}, 0, 0},
	} {
		b := New()
		if end := b.Replay(strings.Join(x.log, "")); end != x.end || b.Count() != x.count {
			t.Errorf("of the log %x the end is %d, and %d are done, want %d and %d", x.log, end, b.Count(), x.end, x.count)
		}
	}
}

func TestReplayPassesOverWhatWasDone(t *testing.T) {
	requests := []api.Request{receive(1, 0, 5), reserve(2, 0, 1, 3, 9), commit(3, 1), receive(4, 0, 1), tick(5, 2)}
	whole := New()
	var log []string
	var books []Book
	for i, r := range requests {
		books = append(books, whole)
		whole.Ask(LookOver(r))
		log = append(log, recordText(i+1, r))
	}
	books = append(books, whole)
	for done, b := range books {
		for first := range done + 1 {
			c := b
			text := strings.Join(log[first:], "")
			if end := c.Replay(text); end != len(text) || c != whole {
				t.Errorf("%d done, the log from %d on: it ends at %d of %d, %d are done", done, first+1, end, len(text), c.Count())
			}
		}
	}
}

func TestRecordsOfOtherLengths(t *testing.T) {
	whole := four(1, 2, 3, 4, 5, 6, 7)
	if rec, ok := readRecord(whole); !ok || rec.number != 1 || rec.request != (api.Request{ID: 2, Kind: 3, Cell: 4, Hold: 5, Count: 6, Time: 7}) {
		t.Errorf("the record is %v, %t", rec, ok)
	}
	for n := range 60 {
		text := (whole + whole + whole)[:n]
		if _, ok := readRecord(text); ok != (n == 28) {
			t.Error(fmt.Sprint(n, " bytes: ", ok))
		}
	}
	if _, ok := readRecord(four(slices.Repeat([]int{1<<32 - 1}, 7)...)); !ok {
		t.Error("a record of great numbers is none")
	}
}

func TestRecordHasTheWrittenBytes(t *testing.T) {
	for _, x := range []struct {
		number int
		r      api.Request
		want   string
	}{
		{1, receive(2, 3, 4), "\x01\x00\x00\x00\x02\x00\x00\x00\x00\x00\x00\x00\x03\x00\x00\x00\x00\x00\x00\x00\x04\x00\x00\x00\x00\x00\x00\x00"},
		{0x3b9aca00, reserve(0x01020304, 7, 50, 0x0f4240, 0x05060708), "\x00\xca\x9a\x3b\x04\x03\x02\x01\x01\x00\x00\x00\x07\x00\x00\x00\x32\x00\x00\x00\x40\x42\x0f\x00\x08\x07\x06\x05"},
		{256, commit(257, 9), "\x00\x01\x00\x00\x01\x01\x00\x00\x02\x00\x00\x00\x00\x00\x00\x00\x09\x00\x00\x00\x00\x00\x00\x00\x00\x00\x00\x00"},
	} {
		text := Record(x.number, LookOver(x.r))
		if text != x.want {
			t.Errorf("the record of %v as number %d is %x, want %x", x.r, x.number, text, x.want)
		}
		if rec, ok := readRecord(text); !ok || rec != (record{x.number, x.r}) {
			t.Errorf("the record of %v as number %d is read as %v, %t", x.r, x.number, rec, ok)
		}
	}
}
