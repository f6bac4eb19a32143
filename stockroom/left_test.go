package stockroom_test

import (
	"fmt"
	"math/rand"
	"slices"
	"strings"
	"testing"
	"unsafe"

	"stockroom/api"
	"stockroom/stockroom"
)

// While no bytes are under way Left tells the same, whatever is kept and whatever the junk is.
var (
	keeps = []int{-1 << 63, -1, 0, 1, 31, 32, 33, 5000, 1 << 32, 1<<63 - 1}
	junks = []string{"", "x", strings.Repeat("j", 50), strings.Repeat("j", 51), frameOf(""), recordOf(1, receive(1, 0, 5))}
)

func filesOf(l []api.File) string {
	text := ""
	for _, f := range l {
		text += fmt.Sprintf("\n\t%s %x", f.Name, f.Data)
	}
	return text
}

func checkLeft(t *testing.T, what string, s *stockroom.Shop, want ...api.File) {
	t.Helper()
	for _, keep := range keeps {
		for _, junk := range junks {
			if got := s.Left(keep, junk); !slices.Equal(got, want) {
				t.Errorf("%s: Left(%d, %q) =%s\nwant%s", what, keep, junk, filesOf(got), filesOf(want))
				return
			}
		}
	}
}

// P12.

// Ahead of the first Serve a shop leaves what it was opened with, but for a tmp; a log is there always.
func TestLeftOfAShopJustOpened(t *testing.T) {
	snap, log, tmp := snapOf(someBook().snapshot()), logOf(recordsOf(10, receive(12, 0, 1), tick(13, 5))...), api.File{Name: "tmp", Data: "half"}
	first, none := logOf(recordsOf(1, receive(12, 0, 1))...), logOf()
	for _, x := range []struct {
		what  string
		files []api.File
		want  []api.File
	}{
		{"no files", nil, []api.File{none}},
		{"an empty log", []api.File{none}, []api.File{none}},
		{"a log", []api.File{first}, []api.File{first}},
		{"a snap", []api.File{snap}, []api.File{none, snap}},
		{"an empty log and a snap", []api.File{none, snap}, []api.File{none, snap}},
		{"both", []api.File{log, snap}, []api.File{log, snap}},
		{"both, the snap first", []api.File{snap, log}, []api.File{log, snap}},
		{"a tmp", []api.File{tmp}, []api.File{none}},
		{"a tmp that is a snapshot", []api.File{{Name: "tmp", Data: snap.Data}}, []api.File{none}},
		{"a log and a tmp", []api.File{tmp, first}, []api.File{first}},
		{"a snap and a tmp", []api.File{tmp, snap}, []api.File{none, snap}},
		{"all three", []api.File{tmp, snap, log}, []api.File{log, snap}},
	} {
		checkLeft(t, x.what, mustOpen(t, widest, x.files...), x.want...)
	}
}

// What stands behind the log's end is cut off at once, and the next record stands in its place.
func TestLeftIsTheLogWithoutWhatWasCutOff(t *testing.T) {
	one, two, three := recordOf(1, receive(1, 0, 5)), recordOf(2, reserve(2, 0, 7, 3, 10)), recordOf(3, commit(3, 7))
	for _, x := range []struct{ log, want string }{
		{"junk", ""}, {one[:31], ""}, {two, ""}, {frameOf("") + one, ""}, {one + "x", one}, {one + two[:31], one}, {one + two[1:], one},
		{one + "junk" + two, one}, {one + two + two, one + two}, {one + frameOf("no record") + two, one}, {one + three, one},
		{one + recordOf(2, reserve(2, 8, 7, 3, 10)) + three, one}, {one + recordOf(2, receive(1, 0, 5)), one}, {one + two + strings.Repeat("\xff", 5000), one + two},
	} {
		s := mustOpen(t, widest, api.File{Name: "log", Data: x.log}, api.File{Name: "tmp", Data: one})
		checkLeft(t, "opened", s, logOf(x.want))
		n, _ := s.Count()
		if n != len(x.want)/32 {
			t.Errorf("of the log %x %d are done", x.log, n)
		}
		checkServe(t, "one more", s, "d0", tick(9, 1))
		checkLeft(t, "one more", s, logOf(x.want, recordOf(n+1, tick(9, 1))))
	}
}

// Records that the snapshot's book has done are passed over, but stay in the log.
func TestLeftHasWhatWasPassedOver(t *testing.T) {
	snap := snapOf(someBook().snapshot())
	nine, next := recordOf(9, api.Request{ID: 9, Kind: 9, Cell: 9, Hold: 9, Count: 9, Time: 9}), recordOf(10, receive(12, 0, 1))
	for _, x := range []struct{ log, want []string }{
		{[]string{nine}, []string{nine}}, {[]string{nine, next}, []string{nine, next}}, {[]string{nine, "x"}, []string{nine}},
		{[]string{recordOf(8, api.Request{}), nine, nine}, []string{recordOf(8, api.Request{}), nine}}, {[]string{recordOf(11, tick(1, 9))}, nil},
	} {
		checkLeft(t, "passed over", mustOpen(t, widest, snap, logOf(x.log...)), logOf(x.want...), snap)
	}
	s := mustOpen(t, widest, snap, logOf(nine))
	checkServe(t, "behind what was passed over", s, "d51", receive(12, 0, 1))
	checkLeft(t, "behind what was passed over", s, logOf(nine, next), snap)
}

// A log of old that ends ahead of the snapshot's last request gets the next record behind it all the same, where Open finds a gap; a checkpoint ahead of that spares it.
func TestLeftOfALogThatEndsAheadOfTheSnapshot(t *testing.T) {
	snap := snapOf(someBook().snapshot())
	old, next := recordOf(7, tick(1, 1)), recordOf(10, receive(12, 0, 1))
	s := mustOpen(t, widest, snap, logOf(old))
	checkServe(t, "one more", s, "d51", receive(12, 0, 1))
	checkLeft(t, "one more", s, logOf(old, next), snap)
	again := mustOpen(t, widest, s.Left(0, "")...)
	checkLeft(t, "opened again", again, logOf(old), snap)
	if n, _ := again.Count(); n != 9 {
		t.Errorf("opened again %d are done", n)
	}
	checkPoint(t, "opened again", again, someBook())
	checkServe(t, "behind a checkpoint", again, "d51", receive(12, 0, 1))
	checkLeft(t, "behind a checkpoint", mustOpen(t, widest, again.Left(0, "")...), logOf(next), snap)
}

// A log that is longer than there is room for is left as it is.
func TestLeftOfALogThatIsTooLong(t *testing.T) {
	log := logOf(recordsOf(1, receives(1, 2000)...)...)
	s := mustOpen(t, configOf(1, 1, 100), log)
	checkLeft(t, "2000 records", s, log)
	checkServe(t, "one more", s, "f0", receive(2001, 0, 1))
	checkLeft(t, "one more", s, log)
}

// The records of what was done stand at the log's end, and those of nothing else.
func TestLeftBehindServe(t *testing.T) {
	l := []api.Request{receive(1, 3, 5), reserve(2, 3, 7, 4, 10), commit(3, 7), release(4, 7), tick(5, 9)}
	whole := recordsOf(1, l...)
	for group := 1; group <= api.MaxGroup; group++ {
		s := mustOpen(t, configOf(20, group, 5000))
		for _, x := range []struct {
			what string
			l    []api.Request
			want []string
		}{
			{"nothing", nil, nil}, {"wrong ones", []api.Request{{}, {ID: 1, Kind: 5}, receive(1, 8, 1)}, nil},
			{"the first two, some twice", []api.Request{l[0], l[0], {}, l[1], l[1]}, whole[:2]},
			{"remembered ones", []api.Request{l[0], l[1], tick(1, 0), receive(1, 3, 6)}, whole[:2]},
			{"the others, a rejected one too", []api.Request{l[2], l[3], l[4], l[3], l[2]}, whole},
		} {
			if _, e := s.Serve(x.l); e != api.OK {
				t.Errorf("%s: error %d", x.what, e)
			}
			checkLeft(t, fmt.Sprint("groups of ", group, ", ", x.what), s, logOf(x.want...))
		}
		checkTold(t, "behind them", s, "5 done, clock 9, cell 3: 5 = 0 held + 4 gone + 1 free")
	}
}

func TestLeftBehindARefusedGroup(t *testing.T) {
	s := mustOpen(t, configOf(20, 3, 100))
	records := recordsOf(1, receives(1, 3)...)
	checkServe(t, "the first", s, "d1", receives(1, 1)...)
	checkServe(t, "three more", s, "f0 f0 f0", receives(2, 3)...)
	checkLeft(t, "behind a refused group", s, logOf(records[0]))
	checkTold(t, "behind a refused group", s, stocked(1))
	checkServe(t, "two more", s, "d2 d3", receives(2, 2)...)
	checkLeft(t, "a group that there was room for", s, logOf(records...))
	checkServe(t, "one more", s, "f0 d3 c0 w0", receive(4, 0, 1), receive(3, 0, 1), receive(3, 0, 2), receive(3, 0, 0))
	checkLeft(t, "a full log", s, logOf(records...))
	checkTold(t, "a full log", s, stocked(3))
	first := mustOpen(t, configOf(20, 4, 100))
	checkServe(t, "the first group", first, "f0 f0 f0 f0", receives(1, 4)...)
	checkLeft(t, "the first group was refused", first, logOf())
}

// Asking for what is left changes nothing: not what is answered, and not what is left.
func TestLeftChangesNothing(t *testing.T) {
	asked, silent := mustOpen(t, configOf(2, 2, 200)), mustOpen(t, configOf(2, 2, 200))
	r := rand.New(rand.NewSource(12))
	for range 40 {
		for range r.Intn(4) {
			asked.Left(keeps[r.Intn(len(keeps))], junks[r.Intn(len(junks))])
		}
		l := someRequests(r)
		p, e := asked.Serve(l)
		q, f := silent.Serve(l)
		if !slices.Equal(p, q) || e != f || tell(t, asked) != tell(t, silent) {
			t.Fatalf("a shop that was asked for what is left answers %v, %d, another one %v, %d", p, e, q, f)
		}
		if r.Intn(4) == 0 {
			checkCheckpoint(t, "asked", asked)
			checkCheckpoint(t, "not asked", silent)
		}
	}
	checkLeft(t, "at last", asked, silent.Left(0, "")...)
}

// P5, P6, P10 and P12 together: files of all kinds, then calls of all kinds.
func TestLeftAgainstTheModel(t *testing.T) {
	r := rand.New(rand.NewSource(13))
	seen := map[string]int{}
	for i := range 2500 {
		files, c := someFiles(r)
		c.Room = []int{100, 100 + r.Intn(600), c.Room}[r.Intn(3)]
		if _, _, e := openModel(files, c); e != api.OK {
			continue
		}
		m, s := openShopModel(t, files, c), mustOpen(t, c, files...)
		for range 1 + r.Intn(8) {
			what := []string{"serve", "serve", "checkpoint", "open again"}[r.Intn(4)]
			switch what {
			case "serve":
				l := someRequests(r)
				if got, e := s.Serve(l); e != api.OK || !slices.Equal(got, m.serve(l)) {
					t.Fatalf("run %d, %v: Serve(%v) = %s, %d", i, c, l, repliesOf(got), e)
				}
			case "checkpoint":
				checkCheckpoint(t, fmt.Sprint("run ", i), s)
				m.checkpoint()
			case "open again":
				s, m = mustOpen(t, c, s.Left(r.Intn(40), "junk")...), openShopModel(t, m.left(0, ""), c)
			}
			seen[what]++
			if got := s.Left(r.Intn(40)-1, junks[r.Intn(len(junks))]); !slices.Equal(got, m.left(0, "")) {
				t.Fatalf("run %d, %v: behind %s left are%s\nwant%s", i, c, what, filesOf(got), filesOf(m.left(0, "")))
			}
			if got := tell(t, s); got != m.told() {
				t.Fatalf("run %d, %v: behind %s\nthe shop tells %v\nwant           %v", i, c, what, got, m.told())
			}
		}
	}
	if len(seen) != 3 || seen["checkpoint"] < 1000 || seen["open again"] < 1000 {
		t.Errorf("too little was asked: %v", seen)
	}
}

// A shop that is opened by what another leaves answers every later call as that one.
func TestLeftOpensAShopThatAnswersTheSame(t *testing.T) {
	r := rand.New(rand.NewSource(14))
	for i := range 400 {
		c := configOf(1+r.Intn(20), 1+r.Intn(16), []int{100, 100 + r.Intn(600), 5000}[r.Intn(3)])
		s := mustOpen(t, c, [][]api.File{nil, {snapOf(someBook().snapshot())}, {logOf(recordsOf(1, receives(1, 2)...)...)}}[r.Intn(3)]...)
		for range r.Intn(6) {
			s.Serve(someRequests(r))
			if r.Intn(3) == 0 {
				s.Checkpoint()
			}
		}
		shops := []*stockroom.Shop{s}
		for range 3 { // each by what the one ahead of it leaves
			shops = append(shops, mustOpen(t, c, shops[len(shops)-1].Left(r.Intn(40), "junk")...))
		}
		for range 1 + r.Intn(6) {
			l, point := someRequests(r), r.Intn(3) == 0
			want := answersOf(t, s, l, point)
			for n, other := range shops[1:] {
				if got := answersOf(t, other, l, point); got != want {
					t.Fatalf("run %d, %v, behind Serve(%v): shop %d answers\n%s\nwant\n%s", i, c, l, n+1, got, want)
				}
			}
		}
	}
}

// answersOf asks a shop for all that it can be asked for.
func answersOf(t *testing.T, s *stockroom.Shop, l []api.Request, checkpoint bool) string {
	t.Helper()
	replies, e := s.Serve(l)
	text := fmt.Sprint(repliesOf(replies), " ", e, " ", tell(t, s), filesOf(s.Left(0, "")))
	if checkpoint {
		text += fmt.Sprint(" ", s.Checkpoint(), " ", tell(t, s), filesOf(s.Left(0, "")))
	}
	return text
}

// What was left and then spoilt is none: the snap may not be opened, the log ends where it is spoilt.
func TestLeftAndThenSpoilt(t *testing.T) {
	s := mustOpen(t, widest)
	checkServe(t, "two", s, "d1 d2", receives(1, 2)...)
	checkCheckpoint(t, "two", s)
	checkServe(t, "two more", s, "d3 d4", receives(3, 2)...)
	left := s.Left(0, "")
	log, snap := left[0], left[1]
	for i := range snap.Data {
		b := []byte(snap.Data)
		b[i] ^= 0x80
		for _, bad := range []string{string(b), snap.Data[:i]} {
			if s, e := stockroom.Open([]api.File{log, {Name: "snap", Data: bad}}, widest); s != nil || e != api.ErrSnap {
				t.Errorf("byte %d of the snap: Open = %v, %d", i, s, e)
			}
		}
	}
	for i := range log.Data {
		b := []byte(log.Data)
		b[i] ^= 0x80
		for _, bad := range []string{string(b), log.Data[:i]} {
			again := mustOpen(t, widest, api.File{Name: "log", Data: bad}, snap)
			checkTold(t, fmt.Sprint("byte ", i, " of the log"), again, stocked(2+i/32))
			checkLeft(t, fmt.Sprint("byte ", i, " of the log"), again, logOf(log.Data[:i/32*32]), snap)
		}
	}
	if s, e := stockroom.Open(append(left, log), widest); s != nil || e != api.ErrFiles {
		t.Errorf("what is left with a second log: Open = %v, %d", s, e)
	}
}

// P1.

func TestLeftOfVeryLongJunk(t *testing.T) {
	s := mustOpen(t, widest)
	checkServe(t, "one", s, "d1", receive(1, 0, 1))
	long := strings.Repeat(recordOf(2, receive(2, 0, 1)), 300000)
	for _, keep := range keeps {
		if got := s.Left(keep, long); !slices.Equal(got, []api.File{logOf(recordOf(1, receive(1, 0, 1)))}) {
			t.Errorf("Left(%d) =%.300s", keep, filesOf(got))
		}
	}
}

// P2.

func TestLeftIsTheCallers(t *testing.T) {
	for _, checkpoint := range []bool{false, true} {
		s := mustOpen(t, widest)
		checkServe(t, "two", s, "d1 d2", receives(1, 2)...)
		if checkpoint {
			checkCheckpoint(t, "two", s)
			checkServe(t, "one more", s, "d3", receives(3, 1)...)
		}
		want := tell(t, s)
		first, second := s.Left(0, ""), s.Left(0, "")
		kept := slices.Clone(second)
		for i, f := range second[len(second):cap(second)] {
			if f != (api.File{}) {
				t.Errorf("spare room %d holds %v", i, f)
			}
		}
		for i := range first[:cap(first)] {
			first[:cap(first)][i] = api.File{Name: "x", Data: "x"}
		}
		checkLeft(t, "written into by the caller", s, kept...)
		if !slices.Equal(second, kept) {
			t.Errorf("writing into one answer changed another: %s", filesOf(second))
		}
		if got := tell(t, s); got != want {
			t.Errorf("writing into an answer changed the shop: %v, was %v", got, want)
		}
		checkServe(t, "later", s, "d2", receives(2, 1)...)
		s.Serve(receives(4, 3))
		s.Checkpoint()
		s.Serve(receives(7, 3))
		if !slices.Equal(second, kept) {
			t.Errorf("later calls changed an answer: %s", filesOf(second))
		}
	}
}

// The bytes of an answer are no other answer's, and not the shop's.
func TestLeftIsNewMemory(t *testing.T) {
	s := mustOpen(t, widest, snapOf(someBook().snapshot()), logOf(recordOf(10, receive(12, 0, 1))))
	for _, what := range []string{"opened", "behind Serve", "behind Checkpoint"} {
		switch what {
		case "behind Serve":
			checkServe(t, what, s, "d52", receive(13, 0, 1))
		case "behind Checkpoint":
			checkCheckpoint(t, what, s)
		}
		first, second := s.Left(0, ""), s.Left(0, "")
		for i := range first {
			if a, b := first[i].Data, second[i].Data; a != "" && unsafe.StringData(a) == unsafe.StringData(b) {
				t.Errorf("%s: two answers share the bytes of the %s", what, first[i].Name)
			}
			clear(unsafe.Slice(unsafe.StringData(first[i].Data), len(first[i].Data)))
		}
		checkLeft(t, what, s, second...)
	}
}

// What is left does not change with what was handed in to Open, to Serve and to Left.
func TestLeftKeepsNothingHandedIn(t *testing.T) {
	snapBytes, logBytes := []byte(snapOf(someBook().snapshot()).Data), []byte(recordOf(10, receive(12, 0, 1))+"torn")
	files := []api.File{{Name: "log", Data: unsafe.String(&logBytes[0], len(logBytes))}, {Name: "snap", Data: unsafe.String(&snapBytes[0], len(snapBytes))}, {Name: "spare", Data: "room"}}
	before := []api.File{logOf(recordOf(10, receive(12, 0, 1))), snapOf(someBook().snapshot())}
	s := mustOpen(t, widest, files[:2]...)
	if files[2] != (api.File{Name: "spare", Data: "room"}) {
		t.Errorf("the spare room holds %v", files[2])
	}
	clear(snapBytes)
	clear(logBytes)
	clear(files)
	checkLeft(t, "the files changed by the caller", s, before...)
	l := []api.Request{receive(13, 0, 1), tick(14, 5)}
	checkServe(t, "two more", s, "d52 d0", l...)
	clear(l)
	want := []api.File{logOf(recordsOf(10, receive(12, 0, 1), receive(13, 0, 1), tick(14, 5))...), before[1]}
	checkLeft(t, "the requests changed by the caller", s, want...)
	junk := []byte("some junk")
	got := s.Left(5, unsafe.String(&junk[0], len(junk)))
	if string(junk) != "some junk" {
		t.Errorf("the junk was changed to %q", junk)
	}
	clear(junk)
	if !slices.Equal(got, want) {
		t.Errorf("the junk changed by the caller: left are%s", filesOf(got))
	}
}

// Shops that are opened by the same answer do not touch one another, nor the one that gave it.
func TestLeftOfShopsThatDoNotTouchOneAnother(t *testing.T) {
	a := mustOpen(t, widest)
	checkServe(t, "the first", a, "d1 d2", receives(1, 2)...)
	left := a.Left(0, "")
	kept := slices.Clone(left)
	b, c := mustOpen(t, widest, left...), mustOpen(t, widest, left...)
	checkServe(t, "the second", b, "d3", receive(3, 0, 1))
	checkCheckpoint(t, "the second", b)
	checkServe(t, "the second", b, "d4", receive(4, 0, 1))
	checkLeft(t, "the first", a, kept...)
	checkLeft(t, "the third", c, kept...)
	checkTold(t, "the first", a, stocked(2))
	checkTold(t, "the third", c, stocked(2))
	if !slices.Equal(left, kept) {
		t.Errorf("what was left changed to %s", filesOf(left))
	}
	checkServe(t, "the third", c, "d2 d3", receive(2, 0, 1), receive(4, 0, 1))
	checkTold(t, "the second", b, stocked(4))
}

func ExampleShop_Left() {
	c := api.Config{Window: 2, Group: 2, Room: 100}
	s, _ := stockroom.Open(nil, c)
	s.Serve([]api.Request{{ID: 1, Kind: api.Receive, Cell: 0, Count: 5}})
	for _, f := range s.Left(0, "") {
		fmt.Println(f.Name, len(f.Data))
	}
	again, e := stockroom.Open(s.Left(0, ""), c)
	cell, _ := again.Cell(0)
	fmt.Println(e, cell)
	// Output:
	// log 32
	// 0 {5 0 0 5}
}
