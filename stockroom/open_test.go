package stockroom_test

import (
	"fmt"
	"math/rand"
	"slices"
	"strings"
	"testing"
	"unsafe"

	"stockroom/api"
	"stockroom/stockroom"
)

var widest = api.Config{Window: 20, Group: 16, Room: 5000}

func logOf(frames ...string) api.File {
	return api.File{Name: "log", Data: strings.Join(frames, "")}
}

func snapOf(numbers []int) api.File {
	return api.File{Name: "snap", Data: frameOf(fourOf(numbers...))}
}

func receive(id, cell, count int) api.Request {
	return api.Request{ID: id, Kind: api.Receive, Cell: cell, Count: count}
}

func reserve(id, cell, hold, count, time int) api.Request {
	return api.Request{ID: id, Kind: api.Reserve, Cell: cell, Hold: hold, Count: count, Time: time}
}

func commit(id, hold int) api.Request { return api.Request{ID: id, Kind: api.Commit, Hold: hold} }

func release(id, hold int) api.Request { return api.Request{ID: id, Kind: api.Release, Hold: hold} }

func tick(id, time int) api.Request { return api.Request{ID: id, Kind: api.Tick, Time: time} }

// recordsOf frames requests as records of rising numbers.
func recordsOf(first int, l ...api.Request) []string {
	var out []string
	for i, r := range l {
		out = append(out, recordOf(first+i, r))
	}
	return out
}

// someBook is a book with something of everything: 9 done at 4; cell 0 has 100, of it 30 held and 20 gone, cell 7 has 7, all held; two requests are remembered.
func someBook() *model {
	m := newModel(20)
	m.count, m.clock = 9, 4
	m.in[0], m.out[0], m.in[7] = 100, 20, 7
	m.holds[7] = api.Hold{Cell: 0, Count: 30, Time: 10}
	m.holds[50] = api.Hold{Cell: 7, Count: 7, Time: 1000000000}
	m.past = []asked{{receive(5, 0, 7), api.Reply{Count: 7}}, {commit(6, 9), api.Reply{Code: 1}}}
	return m
}

// Where the numbers of someBook's snapshot stand.
const (
	atCount, atClock, atCells, atHolds, atPast = 0, 1, 2, 18, 27
)

// P5.

func TestOpenConfig(t *testing.T) {
	low := api.Config{Window: 1, Group: 1, Room: 100}
	for _, base := range []api.Config{low, widest, {Window: 7, Group: 3, Room: 800}} {
		for _, n := range append(byOne(0, 1, 16, 20, 100, 5000), -1<<63, 1<<63-1, 1<<32+1) {
			window, group, room := base, base, base
			window.Window, group.Group, room.Room = n, n, n
			for _, c := range []api.Config{window, group, room} {
				checkOpen(t, fmt.Sprint(c), nil, c)
			}
		}
	}
	for _, x := range []struct {
		c    api.Config
		want api.Errno
	}{
		{low, 0}, {widest, 0}, {api.Config{}, 2},
		{api.Config{Window: 0, Group: 1, Room: 100}, 2}, {api.Config{Window: 21, Group: 1, Room: 100}, 2},
		{api.Config{Window: 1, Group: 0, Room: 100}, 2}, {api.Config{Window: 1, Group: 17, Room: 100}, 2},
		{api.Config{Window: 1, Group: 1, Room: 99}, 2}, {api.Config{Window: 1, Group: 1, Room: 5001}, 2},
	} {
		if s, e := stockroom.Open(nil, x.c); e != x.want || (s == nil) != (e != 0) {
			t.Errorf("Open with %v = %v, %d, want %d", x.c, s, e, x.want)
		}
	}
}

func TestOpenFiles(t *testing.T) {
	file := func(names ...string) (l []api.File) {
		for _, n := range names {
			l = append(l, api.File{Name: n, Data: snapOf(newModel(20).snapshot()).Data})
		}
		return l
	}
	for _, x := range []struct {
		files []api.File
		want  api.Errno
	}{
		{nil, 0}, {[]api.File{}, 0}, {file("log"), 0}, {file("snap"), 0}, {file("tmp"), 0},
		{file("log", "snap", "tmp"), 0}, {file("tmp", "snap", "log"), 0}, {file("snap", "log"), 0},
		{file(""), 3}, {file("Log"), 3}, {file("log "), 3}, {file("lo"), 3}, {file("snapshot"), 3}, {file("log\x00"), 3},
		{file("log", "snap", "tmp", "more"), 3}, {file("log", "other", "snap"), 3}, {file(strings.Repeat("log", 100000)), 3},
		{file("log", "log"), 3}, {file("snap", "snap"), 3}, {file("tmp", "tmp"), 3},
		{file("log", "snap", "log"), 3}, {file("log", "snap", "tmp", "tmp"), 3}, {file("tmp", "log", "snap", "snap"), 3},
		{slices.Repeat(file("log"), 100000), 3},
	} {
		if s, e := stockroom.Open(x.files, widest); e != x.want || (s == nil) != (e != 0) {
			t.Errorf("Open of %d files %.60q = %v, %d, want %d", len(x.files), x.files, s, e, x.want)
		}
	}
}

func TestOpenFirstErrorNamed(t *testing.T) {
	bad := api.File{Name: "snap", Data: "x"}
	for _, x := range []struct {
		files []api.File
		c     api.Config
		want  api.Errno
	}{
		{[]api.File{bad, bad}, api.Config{}, 2},
		{[]api.File{bad, {Name: "x"}}, api.Config{Window: 20, Group: 16, Room: 99}, 2},
		{[]api.File{bad}, api.Config{Window: 21, Group: 16, Room: 100}, 2},
		{[]api.File{bad, bad}, widest, 3},
		{[]api.File{bad, {Name: "x"}}, widest, 3},
		{[]api.File{bad, logOf("x")}, widest, 4},
	} {
		if s, e := stockroom.Open(x.files, x.c); s != nil || e != x.want {
			t.Errorf("Open of %q with %v = %v, %d, want %d", x.files, x.c, s, e, x.want)
		}
	}
}

func TestOpenSnapshot(t *testing.T) {
	s := mustOpen(t, widest, snapOf(someBook().snapshot()))
	want := "9 done, clock 4, cell 0: 100 = 30 held + 20 gone + 50 free, cell 7: 7 = 7 held + 0 gone + 0 free, hold 7: 30 of 0 until 10, hold 50: 7 of 7 until 1000000000"
	if got := tell(t, s).String(); got != want {
		t.Errorf("the shop tells %s, want %s", got, want)
	}
	checkOpen(t, "the book at the beginning", []api.File{snapOf(newModel(20).snapshot())}, widest)
}

// Every number of the snapshot takes every value at which a bound may lie.
func TestOpenSnapshotNumbers(t *testing.T) {
	whole := someBook().snapshot()
	values := append(byOne(0, 4, 7, 10, 20, 30, 50, 80, 100, 1000000, 1000000000), 1<<31-1, 1<<31, 1<<32-1)
	for at := range whole {
		for _, n := range values {
			l := slices.Clone(whole)
			l[at] = max(n, 0)
			checkOpen(t, fmt.Sprintf("number %d of the snapshot is %d", at, l[at]), []api.File{snapOf(l)}, widest)
		}
	}
}

func TestOpenSnapshotBounds(t *testing.T) {
	set := func(at, n int) func([]int) []int {
		return func(l []int) []int { l[at] = n; return l }
	}
	for _, x := range []struct {
		what   string
		change func([]int) []int
		want   api.Errno
	}{
		{"10^9 done", set(atCount, 1000000000), 0}, {"more done", set(atCount, 1000000001), 4},
		{"as many done as remembered", set(atCount, 2), 0}, {"one less done", set(atCount, 1), 4},
		{"the clock just ahead of a hold's time", set(atClock, 9), 0}, {"at it", set(atClock, 10), 4},
		{"10^9 in a cell", set(atCells+2, 1000000000), 0}, {"more in it", set(atCells+2, 1000000001), 4},
		{"gone what came", set(atCells+2*7, 7), 0}, {"nothing came of what is held", set(atCells+2*7, 6), 4},
		{"nothing free", set(atCells+1, 70), 0}, {"less than nothing", set(atCells+1, 71), 4},
		{"gone from an empty cell", set(atCells+3, 1), 4},
		{"gone so many that four bytes are full", set(atCells+1, 1<<32-1), 4},
		{"hold 1", set(atHolds+1, 1), 0}, {"hold 0", set(atHolds+1, 0), 4},
		{"hold 49", set(atHolds+1, 49), 0}, {"hold 50 twice", set(atHolds+1, 50), 4},
		{"holds that fall", set(atHolds+5, 6), 4}, {"hold 51", set(atHolds+5, 51), 4},
		{"a hold of cell 8", set(atHolds+2, 8), 4}, {"a hold of nothing", set(atHolds+3, 0), 4},
		{"a hold of all that is free", set(atHolds+3, 80), 0}, {"a hold of more", set(atHolds+3, 81), 4},
		{"a hold until the clock", set(atHolds+4, 4), 4}, {"a hold until just behind it", set(atHolds+4, 5), 0},
		{"a hold until 10^9 + 1", set(atHolds+8, 1000000001), 4},
		{"a hold less than told", set(atHolds, 3), 4}, {"a hold more than told", set(atHolds, 1), 4},
		{"no hold told", set(atHolds, 0), 4}, {"so many holds that four bytes are full", set(atHolds, 1<<32-1), 4},
		{"one remembered less than told", set(atPast, 3), 4}, {"one more than told", set(atPast, 1), 4},
		{"so many remembered that four bytes are full", set(atPast, 1<<32-1), 4},
		{"ID 10^9", set(atPast+1, 1000000000), 0}, {"ID 10^9 + 1", set(atPast+1, 1000000001), 4}, {"ID 0", set(atPast+1, 0), 4},
		{"one ID twice", set(atPast+1, 6), 4},
		{"kind 5", set(atPast+2, 5), 4}, {"a kind that asks for other numbers", set(atPast+2, 4), 4},
		{"cell 7", set(atPast+3, 7), 0}, {"cell 8", set(atPast+3, 8), 4},
		{"a hold where none is asked for", set(atPast+4, 1), 4}, {"a time where none is asked for", set(atPast+6, 1), 4},
		{"a count of 10^6", set(atPast+5, 1000000), 0}, {"of 10^6 + 1", set(atPast+5, 1000001), 4}, {"of 0", set(atPast+5, 0), 4},
		{"a reply of 10^9", set(atPast+8, 1000000000), 0}, {"of 10^9 + 1", set(atPast+8, 1000000001), 4},
		{"rejected with a number", set(atPast+7, 1), 4}, {"a conflict", set(atPast+15, 2), 4}, {"refused", set(atPast+15, 3), 4}, {"wrong", set(atPast+15, 4), 4},
		{"rejected with 1", set(atPast+16, 1), 4}, {"the rejected one done", set(atPast+15, 0), 0},
		{"a number more", func(l []int) []int { return append(l, 0) }, 4},
		{"a number less", func(l []int) []int { return l[:len(l)-1] }, 4},
		{"nothing remembered, and nothing of it told", func(l []int) []int { return l[:atPast] }, 4},
		{"nothing remembered", func(l []int) []int { return append(l[:atPast], 0) }, 0},
		{"no number", func([]int) []int { return nil }, 4},
	} {
		l := x.change(someBook().snapshot())
		if s, e := stockroom.Open([]api.File{snapOf(l)}, widest); e != x.want || (s == nil) != (e != 0) {
			t.Errorf("%s: Open = %v, %d, want %d", x.what, s, e, x.want)
		}
		checkOpen(t, x.what, []api.File{snapOf(l)}, widest)
	}
}

func TestOpenSnapshotOfTheLatestClock(t *testing.T) {
	m := newModel(20)
	m.clock = 1000000000
	if _, e := stockroom.Open([]api.File{snapOf(m.snapshot())}, widest); e != api.OK {
		t.Errorf("the clock at 10^9: error %d", e)
	}
	m.clock++
	if _, e := stockroom.Open([]api.File{snapOf(m.snapshot())}, widest); e != api.ErrSnap {
		t.Errorf("the clock at 10^9 + 1: error %d", e)
	}
}

func TestOpenSnapshotOfAllHoldsAndOneTooMany(t *testing.T) {
	m := newModel(20)
	for i := range m.in {
		m.in[i] = 1000000000
	}
	for n := 1; n <= 50; n++ {
		m.holds[n] = api.Hold{Cell: n % 8, Count: 1000000, Time: 1000000000 - n}
	}
	checkOpen(t, "50 holds", []api.File{snapOf(m.snapshot())}, widest)
	mustOpen(t, widest, snapOf(m.snapshot()))
	m.holds[51] = api.Hold{Cell: 1, Count: 1, Time: 1}
	if s, e := stockroom.Open([]api.File{snapOf(m.snapshot())}, widest); s != nil || e != api.ErrSnap {
		t.Errorf("51 holds: Open = %v, %d", s, e)
	}
}

func TestOpenSnapshotThatRemembersTheMostAndOneMore(t *testing.T) {
	m := newModel(21)
	for id := 1; id <= 20; id++ {
		m.ask(receive(id, 0, 1))
	}
	for _, window := range []int{1, 19, 20} {
		mustOpen(t, api.Config{Window: window, Group: 1, Room: 100}, snapOf(m.snapshot()))
	}
	m.ask(receive(21, 0, 1))
	for _, window := range []int{1, 19, 20} {
		if s, e := stockroom.Open([]api.File{snapOf(m.snapshot())}, api.Config{Window: window, Group: 1, Room: 100}); s != nil || e != api.ErrSnap {
			t.Errorf("21 remembered, window %d: Open = %v, %d", window, s, e)
		}
	}
}

// The snapshot is looked over whole, also where the window takes only the last of what it remembers.
func TestOpenSnapshotFaultsOutsideTheWindow(t *testing.T) {
	c := api.Config{Window: 1, Group: 1, Room: 100}
	l := someBook().snapshot()
	mustOpen(t, c, snapOf(l))
	for at, n := range map[int]int{atPast + 1: 6, atPast + 2: 5, atPast + 7: 1, atPast + 8: 1000000001} {
		bad := slices.Clone(l)
		bad[at] = n
		if s, e := stockroom.Open([]api.File{snapOf(bad)}, c); s != nil || e != api.ErrSnap {
			t.Errorf("number %d is %d: Open = %v, %d", at, n, s, e)
		}
	}
}

func TestOpenSnapshotBytes(t *testing.T) {
	payload := fourOf(someBook().snapshot()...)
	whole := frameOf(payload)
	texts := []string{"", "x", frameOf(""), payload, whole + "x", whole + "\x00", whole + whole, "x" + whole, frameOf("") + whole, whole + frameOf(""), frameOf(whole),
		frameOf(payload + "x"), frameOf(payload + "\x00"), frameOf(payload[:len(payload)-1]), frameOf(payload[1:]), frameOf(payload + payload),
		frameOf(payload + strings.Repeat("\x00", 4000-len(payload))), strings.Repeat("\xff", 4004), strings.Repeat("\x00", 100000)}
	for n := range len(whole) {
		texts = append(texts, whole[:n])
	}
	for n := range len(payload) {
		texts = append(texts, frameOf(payload[:n]), frameOf(payload[:n]+"\x00"+payload[n:]))
	}
	for _, text := range texts {
		if s, e := stockroom.Open([]api.File{{Name: "snap", Data: text}}, widest); s != nil || e != api.ErrSnap {
			t.Errorf("Open of a snap %.60x = %v, %d", text, s, e)
		}
	}
}

func TestOpenSnapshotWithAByteChanged(t *testing.T) {
	whole := frameOf(fourOf(someBook().snapshot()...))
	for i := range whole {
		for _, change := range []byte{1, 2, 0x80, 0xff} {
			b := []byte(whole)
			b[i] ^= change
			if s, e := stockroom.Open([]api.File{{Name: "snap", Data: string(b)}}, widest); s != nil || e != api.ErrSnap {
				t.Errorf("byte %d changed by %x: Open = %v, %d", i, change, s, e)
			}
		}
	}
}

// P6.

func checkTold(t *testing.T, what string, s *stockroom.Shop, want string) {
	t.Helper()
	if got := tell(t, s).String(); got != want {
		t.Errorf("%s: the shop tells %s, want %s", what, got, want)
	}
}

func TestOpenLogs(t *testing.T) {
	a, b, c := receive(1, 0, 5), reserve(2, 0, 7, 3, 10), tick(3, 4)
	none, one := "0 done, clock 0", "1 done, clock 0, cell 0: 5 = 0 held + 0 gone + 5 free"
	two := "2 done, clock 0, cell 0: 5 = 3 held + 0 gone + 2 free, hold 7: 3 of 0 until 10"
	three := strings.Replace(two, "2 done, clock 0", "3 done, clock 4", 1)
	r1, r2, r3 := recordOf(1, a), recordOf(2, b), recordOf(3, c)
	long := func(r string, more string) string { return frameOf(r[4:] + more) }
	for _, x := range []struct {
		what string
		log  []string
		want string
	}{
		{"no record", nil, none}, {"one", []string{r1}, one}, {"two", []string{r1, r2}, two}, {"three", []string{r1, r2, r3}, three},
		{"the first is 0", []string{recordOf(0, a), recordOf(1, a)}, none}, {"the first is 2", []string{recordOf(2, a), recordOf(3, b)}, none},
		{"the first is 10^9 + 1", []string{recordOf(1000000001, a)}, none}, {"the first is 2^32 - 1", []string{recordOf(1<<32-1, a)}, none},
		{"a number left out", []string{r1, recordOf(3, b), r3}, one}, {"a number twice", []string{r1, recordOf(1, b), r2}, one},
		{"the numbers fall", []string{r1, recordOf(0, b), r2}, one}, {"they begin anew", []string{r1, r2, r1, r2, r3}, two},
		{"no request", []string{r1, recordOf(2, receive(4, 8, 5)), recordOf(3, b)}, one},
		{"no request, then its number again", []string{r1, recordOf(2, receive(4, 8, 5)), r2}, one},
		{"a request with a number that it has no use for", []string{r1, recordOf(2, api.Request{ID: 2, Kind: 4, Time: 3, Cell: 1})}, one},
		{"a remembered one", []string{r1, r2, recordOf(3, a), recordOf(4, c)}, two},
		{"another one with its ID", []string{r1, r2, recordOf(3, tick(1, 4))}, two},
		{"one that can't be done", []string{recordOf(1, b), recordOf(2, a)}, "2 done, clock 0, cell 0: 5 = 0 held + 0 gone + 5 free"},
		{"27 bytes", []string{r1, frameOf(r2[4 : len(r2)-1]), r3}, one}, {"29 bytes", []string{r1, long(r2, "\x00"), r3}, one},
		{"32 bytes", []string{r1, long(r2, "\x00\x00\x00\x00"), r3}, one}, {"24 bytes", []string{r1, frameOf(r2[4 : len(r2)-4])}, one},
		{"no byte", []string{r1, frameOf(""), r2}, one}, {"56 bytes", []string{r1, frameOf(r2[4:] + r3[4:])}, one},
		{"27 bytes at first", []string{frameOf(r1[4:31]), r1}, none}, {"29 bytes at first", []string{long(r1, "\x00"), r1}, none},
		{"junk", []string{r1, "junk", r2}, one}, {"junk at first", []string{"x", r1}, none}, {"junk at the end", []string{r1, r2, "\x1c\x00"}, two},
		{"a record without its frame", []string{r1, r2[4:]}, one},
		{"kinds one behind the other", recordsOf(1, a, b, reserve(3, 0, 8, 2, 11), commit(4, 7), release(5, 8), reserve(6, 0, 8, 1, 9), tick(7, 9)), "7 done, clock 9, cell 0: 5 = 0 held + 3 gone + 2 free"},
	} {
		files := []api.File{logOf(x.log...)}
		checkTold(t, x.what, mustOpen(t, widest, files...), x.want)
		checkOpen(t, x.what, files, widest)
	}
}

func TestOpenLogTornAtEachByte(t *testing.T) {
	l := strings.Join(recordsOf(1, receive(1, 3, 50), reserve(2, 3, 50, 50, 1), receive(3, 3, 50), tick(4, 1), reserve(5, 3, 1, 100, 2)), "")
	for n := range len(l) + 1 {
		for _, junk := range []string{"", "\x00", "x", strings.Repeat("\xff", 50)} {
			checkOpen(t, fmt.Sprintf("%d bytes and %x", n, junk), []api.File{{Name: "log", Data: l[:n] + junk}}, widest)
		}
		s := mustOpen(t, widest, api.File{Name: "log", Data: l[:n]})
		if count, _ := s.Count(); count != n/32 {
			t.Errorf("%d bytes of the log: %d done", n, count)
		}
	}
}

func TestOpenLogBehindASnapshot(t *testing.T) {
	snap := snapOf(someBook().snapshot())
	as := "9 done, clock 4, cell 0: 100 = 30 held + 20 gone + 50 free, cell 7: 7 = 7 held + 0 gone + 0 free, hold 7: 30 of 0 until 10, hold 50: 7 of 7 until 1000000000"
	next := strings.NewReplacer("9 done", "10 done", "100 = ", "101 = ", "50 free", "51 free").Replace(as)
	more := receive(12, 0, 1)
	for _, x := range []struct {
		what string
		log  []string
		want string
	}{
		{"none", nil, as}, {"the next one", []string{recordOf(10, more)}, next}, {"a gap", []string{recordOf(11, more)}, as},
		{"number 0", []string{recordOf(0, more)}, as}, {"the last one", []string{recordOf(9, more)}, as},
		{"the last one and the next", []string{recordOf(9, tick(1, 1)), recordOf(10, more)}, next},
		{"all from the first on", recordsOf(1, slices.Concat(slices.Repeat([]api.Request{tick(1, 1)}, 9), []api.Request{more})...), next},
		{"from a middle one on", recordsOf(6, slices.Concat(slices.Repeat([]api.Request{{}}, 4), []api.Request{more})...), next},
		{"passed over is what is no request", []string{frameOf(fourOf(9, 0, 9, 9, 9, 9, 1<<32-1)), recordOf(10, more)}, next},
		{"27 bytes are not passed over", []string{frameOf(fourOf(9, 0, 9, 9, 9, 9) + "\x00\x00\x00"), recordOf(10, more)}, as},
		{"nor are 29", []string{frameOf(fourOf(9, 0, 9, 9, 9, 9, 9) + "\x00"), recordOf(10, more)}, as},
		{"a number left out of those passed over", []string{recordOf(7, more), recordOf(9, more), recordOf(10, more)}, as},
		{"one of them twice", []string{recordOf(9, more), recordOf(9, more), recordOf(10, more)}, as},
		{"a number left out behind those passed over", []string{recordOf(8, more), recordOf(10, more)}, as},
		{"those passed over end ahead of the last", []string{recordOf(7, more), recordOf(8, more)}, as},
		{"the next one is remembered", []string{recordOf(10, commit(6, 9)), recordOf(11, more)}, as},
		{"the next one has a remembered ID", []string{recordOf(10, commit(5, 9)), recordOf(11, more)}, as},
		{"the next one is no request", []string{recordOf(10, commit(13, 51)), recordOf(11, more)}, as},
		{"the second one twice", []string{recordOf(10, more), recordOf(10, receive(14, 0, 1))}, next},
	} {
		for _, files := range [][]api.File{{snap, logOf(x.log...)}, {logOf(x.log...), {Name: "tmp", Data: "torn"}, snap}} {
			checkTold(t, x.what, mustOpen(t, widest, files...), x.want)
			checkOpen(t, x.what, files, widest)
		}
	}
}

func TestOpenLogUpToTheLastNumber(t *testing.T) {
	m := newModel(20)
	m.count = 999999998
	files := []api.File{snapOf(m.snapshot()), logOf(recordsOf(999999999, receive(1, 0, 1), receive(2, 0, 1), receive(3, 0, 1))...)}
	checkTold(t, "up to 10^9", mustOpen(t, widest, files...), "1000000000 done, clock 0, cell 0: 2 = 0 held + 0 gone + 2 free")
	m.count = 1000000000
	files = []api.File{snapOf(m.snapshot()), logOf(recordsOf(1000000001, receive(1, 0, 1))...)}
	checkTold(t, "behind 10^9", mustOpen(t, widest, files...), "1000000000 done, clock 0")
	files[1] = logOf(recordsOf(1000000000, receive(1, 0, 1), receive(2, 0, 1))...)
	checkTold(t, "at 10^9", mustOpen(t, widest, files...), "1000000000 done, clock 0")
}

func TestOpenWindowOfTheLog(t *testing.T) {
	var l []api.Request
	for id := 1; id <= 20; id++ {
		l = append(l, receive(id, 0, 1))
	}
	for window := 1; window <= 20; window++ {
		for again := 1; again <= 20; again++ {
			s := mustOpen(t, api.Config{Window: window, Group: 1, Room: 100}, logOf(recordsOf(1, append(slices.Clone(l), receive(again, 0, 1))...)...))
			want := 20
			if again <= 20-window {
				want = 21
			}
			if n, e := s.Count(); n != want || e != api.OK {
				t.Errorf("window %d, ID %d again: %d done, want %d", window, again, n, want)
			}
		}
	}
}

func TestOpenWindowSmallerThanTheSnapshots(t *testing.T) {
	m := newModel(20)
	for id := 1; id <= 20; id++ {
		m.ask(receive(id, 1, 1))
	}
	for window := 1; window <= 20; window++ {
		for again := 1; again <= 20; again++ {
			files := []api.File{snapOf(m.snapshot()), logOf(recordOf(21, tick(again, 7)))}
			s := mustOpen(t, api.Config{Window: window, Group: 16, Room: 100}, files...)
			want := 0
			if again <= 20-window {
				want = 7
			}
			if n, e := s.Clock(); n != want || e != api.OK {
				t.Errorf("window %d, ID %d again: the clock is %d, want %d", window, again, n, want)
			}
		}
	}
}

func TestOpenTakesNothingFromATmp(t *testing.T) {
	m := someBook()
	for _, data := range []string{"", "torn", snapOf(m.snapshot()).Data, recordOf(1, receive(1, 0, 5)), strings.Repeat("\xff", 100000)} {
		checkTold(t, "a tmp", mustOpen(t, widest, api.File{Name: "tmp", Data: data}), "0 done, clock 0")
	}
}

func TestOpenBooksAgainstTheModel(t *testing.T) {
	r := rand.New(rand.NewSource(3))
	opened := 0
	for i := range 6000 {
		files, c := someFiles(r)
		checkOpen(t, fmt.Sprint("files ", i), files, c)
		if _, e := stockroom.Open(files, c); e == api.OK {
			opened++
		}
		if t.Failed() {
			t.Fatalf("with %v, %q", c, files)
		}
	}
	if opened < 3000 {
		t.Errorf("only %d opened", opened)
	}
}

// someFiles makes a log of requests, at times a snapshot from the midst of it, and at times spoils either.
func someFiles(r *rand.Rand) ([]api.File, api.Config) {
	c := api.Config{Window: 1 + r.Intn(20), Group: 1 + r.Intn(16), Room: 100 + r.Intn(4901)}
	m := newModel(1 + r.Intn(20))
	m.count = r.Intn(3)
	var records []string
	var snap []int
	if m.count > 0 || r.Intn(2) == 0 {
		snap = m.snapshot()
	}
	for range r.Intn(40) {
		q := someRequest(r)
		if _, done := m.ask(q); done || r.Intn(20) == 0 {
			records = append(records, recordOf(m.count, q))
		}
		if r.Intn(15) == 0 {
			snap = m.snapshot()
		}
	}
	if r.Intn(3) == 0 {
		records = spoilRecords(r, records)
	}
	files := []api.File{logOf(records...)}
	if snap != nil {
		if r.Intn(8) == 0 {
			snap[r.Intn(len(snap))] = []int{0, 1, 2, 7, 8, 50, 51, 1000000, 1000000001}[r.Intn(9)]
		}
		files = append(files, snapOf(snap))
	}
	r.Shuffle(len(files), func(i, j int) { files[i], files[j] = files[j], files[i] })
	return files, c
}

// someRequest takes its numbers from few, so that requests meet; now and then it is none.
func someRequest(r *rand.Rand) api.Request {
	id, cell, hold := 1+r.Intn(40), r.Intn(3), 1+r.Intn(5)
	q := []api.Request{
		receive(id, cell, 1+r.Intn(9)), reserve(id, cell, hold, 1+r.Intn(9), r.Intn(30)),
		reserve(id, cell, hold, 1+r.Intn(5), 20+r.Intn(20)), commit(id, hold), release(id, hold), tick(id, r.Intn(25)),
		receive(id, cell, 1000000), reserve(id, cell, hold, 1000000, 1000000000),
	}[r.Intn(8)]
	if r.Intn(60) == 0 {
		q.Cell += 8
	}
	return q
}

func spoilRecords(r *rand.Rand, l []string) []string {
	if len(l) == 0 {
		return l
	}
	i := r.Intn(len(l))
	b := []byte(l[i])
	switch r.Intn(6) {
	case 0:
		b[r.Intn(len(b))] ^= byte(1 + r.Intn(255))
		l[i] = string(b)
	case 1:
		l[i] = string(b[:r.Intn(len(b))])
	case 2:
		b[4+4*r.Intn(7)] ^= byte(1 + r.Intn(255))
		l[i] = frameOf(string(b[4:]))
	case 3:
		return slices.Delete(l, i, i+1)
	case 4:
		return slices.Insert(l, i, l[r.Intn(len(l))])
	case 5:
		return l[i:]
	}
	return l
}

// P9.

func TestCellsAndHoldsAtTheirBounds(t *testing.T) {
	m := newModel(20)
	m.count = 3
	for i := range m.in {
		m.in[i], m.out[i] = 100+i, i
	}
	m.holds[1] = api.Hold{Cell: 0, Count: 4, Time: 9}
	m.holds[50] = api.Hold{Cell: 7, Count: 5, Time: 8}
	s := mustOpen(t, widest, snapOf(m.snapshot()))
	for _, x := range []struct {
		i    int
		want api.Cell
		e    api.Errno
	}{
		{0, api.Cell{OnHand: 100, Held: 4, Committed: 0, Free: 96}, 0}, {1, api.Cell{OnHand: 101, Held: 0, Committed: 1, Free: 100}, 0},
		{7, api.Cell{OnHand: 107, Held: 5, Committed: 7, Free: 95}, 0},
		{-1, api.Cell{}, 5}, {8, api.Cell{}, 5}, {1 << 62, api.Cell{}, 5}, {-1 << 63, api.Cell{}, 5}, {1 << 32, api.Cell{}, 5},
	} {
		if c, e := s.Cell(x.i); c != x.want || e != x.e {
			t.Errorf("Cell(%d) = %v, %d, want %v, %d", x.i, c, e, x.want, x.e)
		}
	}
	for _, x := range []struct {
		h    int
		want api.Hold
		e    api.Errno
	}{
		{1, api.Hold{Cell: 0, Count: 4, Time: 9}, 0}, {50, api.Hold{Cell: 7, Count: 5, Time: 8}, 0}, {2, api.Hold{}, 6}, {49, api.Hold{}, 6},
		{0, api.Hold{}, 5}, {51, api.Hold{}, 5}, {-1, api.Hold{}, 5}, {1<<63 - 1, api.Hold{}, 5}, {-1 << 63, api.Hold{}, 5}, {1<<32 + 1, api.Hold{}, 5},
	} {
		if h, e := s.Hold(x.h); h != x.want || e != x.e {
			t.Errorf("Hold(%d) = %v, %d, want %v, %d", x.h, h, e, x.want, x.e)
		}
	}
	empty := mustOpen(t, widest)
	for _, h := range []int{1, 50} {
		if x, e := empty.Hold(h); x != (api.Hold{}) || e != api.ErrNone {
			t.Errorf("Hold(%d) of an empty shop = %v, %d", h, x, e)
		}
	}
}

func TestHoldsThatAreLiveNoMore(t *testing.T) {
	s := mustOpen(t, widest, logOf(recordsOf(1, receive(1, 0, 9), reserve(2, 0, 1, 1, 5), reserve(3, 0, 2, 2, 5), reserve(4, 0, 3, 3, 6), reserve(5, 0, 4, 1, 7), commit(6, 1), release(7, 2), tick(8, 6))...))
	for h, want := range map[int]api.Errno{1: 6, 2: 6, 3: 6, 4: 0} {
		if x, e := s.Hold(h); e != want || (x == api.Hold{}) != (e != 0) {
			t.Errorf("Hold(%d) = %v, %d, want %d", h, x, e, want)
		}
	}
	checkTold(t, "behind a commit, a release and a tick", s, "8 done, clock 6, cell 0: 9 = 1 held + 1 gone + 7 free, hold 4: 1 of 0 until 7")
}

// P1.

func TestOpenOfVeryLongTexts(t *testing.T) {
	var l []api.Request
	for i := range 20000 {
		l = append(l, receive(1+i, i%8, 1))
	}
	s := mustOpen(t, api.Config{Window: 1, Group: 1, Room: 100}, logOf(recordsOf(1, l...)...), api.File{Name: "tmp", Data: strings.Repeat("x", 10000000)})
	if n, e := s.Count(); n != 20000 || e != api.OK {
		t.Errorf("Count = %d, %d", n, e)
	}
	for _, b := range []string{"\x00", "\x01", "\xff"} {
		text := strings.Repeat(b, 10000000)
		checkTold(t, "a long log", mustOpen(t, widest, api.File{Name: "log", Data: text}), "0 done, clock 0")
		if s, e := stockroom.Open([]api.File{{Name: "snap", Data: text}}, widest); s != nil || e != api.ErrSnap {
			t.Errorf("a long snap of %x: Open = %v, %d", b, s, e)
		}
	}
}

// P2.

func TestOpenKeepsAndChangesNothingHandedIn(t *testing.T) {
	snap := []byte(snapOf(someBook().snapshot()).Data)
	log := []byte(recordOf(10, receive(12, 0, 1)) + "torn")
	tmp := []byte("half")
	files := []api.File{
		{Name: "log", Data: unsafe.String(&log[0], len(log))}, {Name: "snap", Data: unsafe.String(&snap[0], len(snap))},
		{Name: "tmp", Data: unsafe.String(&tmp[0], len(tmp))}, {Name: "spare", Data: "room"},
	}
	before := slices.Clone(files)
	for i := range before {
		before[i].Data = strings.Clone(before[i].Data)
	}
	s := mustOpen(t, widest, files[:3]...)
	if !slices.Equal(files, before) {
		t.Errorf("Open changed the files: %q", files)
	}
	want := tell(t, s)
	for _, b := range [][]byte{log, snap, tmp} {
		clear(b)
	}
	clear(files)
	if got := tell(t, s); got != want {
		t.Errorf("the shop changed with what was handed in: %v, was %v", got, want)
	}
}

func TestShopsDoNotTouchOneAnother(t *testing.T) {
	files := []api.File{snapOf(someBook().snapshot())}
	first := mustOpen(t, widest, files...)
	want := tell(t, first)
	second := mustOpen(t, widest, append(files, logOf(recordsOf(10, commit(20, 7), release(21, 50), tick(22, 50), receive(23, 0, 9))...))...)
	third := mustOpen(t, widest)
	if got := tell(t, first); got != want {
		t.Errorf("the first shop tells %v, told %v", got, want)
	}
	checkTold(t, "the second", second, "13 done, clock 50, cell 0: 109 = 0 held + 50 gone + 59 free, cell 7: 7 = 0 held + 0 gone + 7 free")
	checkTold(t, "the third", third, "0 done, clock 0")
}

func ExampleOpen() {
	s, e := stockroom.Open(nil, api.Config{Window: 2, Group: 2, Room: 100})
	count, _ := s.Count()
	cell, _ := s.Cell(0)
	fmt.Println(e, count, cell)
	_, e = stockroom.Open([]api.File{{Name: "snap", Data: "torn"}}, api.Config{Window: 2, Group: 2, Room: 100})
	fmt.Println(e == api.ErrSnap)
	// Output:
	// 0 0 {0 0 0 0}
	// true
}
