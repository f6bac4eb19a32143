package stockroom_test

import (
	"fmt"
	"math/rand"
	"runtime"
	"slices"
	"strings"
	"sync"
	"testing"
	"time"

	"stockroom/api"
	"stockroom/stockroom"
)

// codes: done, rejected, conflict, refused (f), wrong.
const codes = "drcfw"

// repliesOf writes replies as letters and numbers, as "d5 r0".
func repliesOf(l []api.Reply) string {
	var words []string
	for _, p := range l {
		word := fmt.Sprint(p.Code, "?")
		if p.Code >= 0 && p.Code < len(codes) {
			word = codes[p.Code : p.Code+1]
		}
		words = append(words, word+fmt.Sprint(p.Count))
	}
	return strings.Join(words, " ")
}

func checkServe(t *testing.T, what string, s *stockroom.Shop, want string, l ...api.Request) {
	t.Helper()
	replies, e := s.Serve(l)
	if got := repliesOf(replies); got != want || e != api.OK {
		t.Errorf("%s: Serve of %d requests, from %v on\nanswers %s, %d\nwant    %s", what, len(l), l[:min(len(l), 20)], got, e, want)
	}
}

func configOf(window, group, room int) api.Config {
	return api.Config{Window: window, Group: group, Room: room}
}

// receives are n requests of one good each, with the IDs from first on.
func receives(first, n int) []api.Request {
	var l []api.Request
	for i := range n {
		l = append(l, receive(first+i, 0, 1))
	}
	return l
}

// counts are n replies of done, from first on.
func counts(first, n int) []string {
	var l []string
	for i := range n {
		l = append(l, fmt.Sprint("d", first+i))
	}
	return l
}

func refusals(n int) []string { return slices.Repeat([]string{"f0"}, n) }

func words(l ...[]string) string { return strings.Join(slices.Concat(l...), " ") }

// stocked tells of a shop that did n requests of one good each.
func stocked(n int) string {
	if n == 0 {
		return "0 done, clock 0"
	}
	return fmt.Sprintf("%d done, clock 0, cell 0: %d = 0 held + 0 gone + %d free", n, n, n)
}

// P7.

func TestServeNothing(t *testing.T) {
	for _, s := range []*stockroom.Shop{mustOpen(t, widest), mustOpen(t, configOf(1, 1, 100), snapOf(someBook().snapshot()))} {
		before := tell(t, s)
		for _, l := range [][]api.Request{nil, {}, make([]api.Request, 0, 9)} {
			if replies, e := s.Serve(l); len(replies) != 0 || e != api.OK {
				t.Errorf("Serve of nothing = %v, %d", replies, e)
			}
		}
		if got := tell(t, s); got != before {
			t.Errorf("behind nothing the shop tells %v, told %v", got, before)
		}
	}
}

// What becomes of requests one behind the other does not hang on where a group ends, nor on where a call does.
func TestServeRequestsOfEachKind(t *testing.T) {
	for _, x := range []struct {
		what  string
		l     []api.Request
		want  string
		state string
	}{
		{"goods come in", []api.Request{receive(1, 0, 5), receive(2, 0, 1000000), receive(3, 7, 1)}, "d5 d1000005 d1",
			"3 done, clock 0, cell 0: 1000005 = 0 held + 0 gone + 1000005 free, cell 7: 1 = 0 held + 0 gone + 1 free"},
		{"goods come in while some are held and gone", []api.Request{receive(1, 4, 9), reserve(2, 4, 1, 2, 1), reserve(3, 4, 2, 3, 1), commit(4, 1), receive(5, 4, 1)}, "d9 d7 d4 d2 d5",
			"5 done, clock 0, cell 4: 10 = 3 held + 2 gone + 5 free, hold 2: 3 of 4 until 1"},
		{"all that is free, and one more", []api.Request{receive(1, 0, 5), reserve(2, 0, 1, 6, 9), reserve(3, 0, 1, 5, 9), reserve(4, 0, 2, 1, 9)}, "d5 r0 d0 r0",
			"4 done, clock 0, cell 0: 5 = 5 held + 0 gone + 0 free, hold 1: 5 of 0 until 9"},
		{"of another cell nothing is free", []api.Request{receive(1, 0, 5), reserve(2, 1, 1, 1, 9), reserve(3, 7, 1, 1, 9)}, "d5 r0 r0",
			"3 done, clock 0, cell 0: 5 = 0 held + 0 gone + 5 free"},
		{"a hold that is live", []api.Request{receive(1, 0, 5), reserve(2, 0, 7, 1, 9), reserve(3, 0, 7, 2, 10), reserve(4, 0, 8, 2, 10)}, "d5 d4 r0 d2",
			"4 done, clock 0, cell 0: 5 = 3 held + 0 gone + 2 free, hold 7: 1 of 0 until 9, hold 8: 2 of 0 until 10"},
		{"a hold made good", []api.Request{receive(1, 0, 5), reserve(2, 0, 7, 3, 10), commit(3, 8), commit(4, 7), commit(5, 7), release(6, 7)}, "d5 d2 r0 d3 r0 r0",
			"6 done, clock 0, cell 0: 5 = 0 held + 3 gone + 2 free"},
		{"a hold given up", []api.Request{receive(1, 0, 5), reserve(2, 0, 7, 3, 10), release(3, 8), release(4, 7), release(5, 7), commit(6, 7)}, "d5 d2 r0 d3 r0 r0",
			"6 done, clock 0, cell 0: 5 = 0 held + 0 gone + 5 free"},
		{"a hold's number once more", []api.Request{receive(1, 0, 5), reserve(2, 0, 7, 3, 10), commit(3, 7), reserve(4, 0, 7, 2, 10), release(5, 7), reserve(6, 0, 7, 1, 10)}, "d5 d2 d3 d0 d2 d1",
			"6 done, clock 0, cell 0: 5 = 1 held + 3 gone + 1 free, hold 7: 1 of 0 until 10"},
		{"a time at, below and above the clock", []api.Request{tick(1, 0), tick(2, 5), tick(3, 5), tick(4, 4), tick(5, 0), tick(6, 6), tick(7, 1000000000), tick(8, 999999999), tick(9, 1000000000)}, "d0 d0 d0 r0 r0 d0 d0 r0 d0",
			"9 done, clock 1000000000"},
		{"a hold until, below and above the clock", []api.Request{receive(1, 0, 9), reserve(2, 0, 1, 1, 0), tick(3, 5), reserve(4, 0, 1, 1, 4), reserve(5, 0, 2, 1, 5), reserve(6, 0, 3, 1, 6)}, "d9 r0 d0 r0 r0 d8",
			"6 done, clock 5, cell 0: 9 = 1 held + 0 gone + 8 free, hold 3: 1 of 0 until 6"},
		{"holds that a tick ends", []api.Request{receive(1, 0, 9), receive(2, 1, 9), reserve(3, 0, 1, 1, 4), reserve(4, 1, 2, 2, 5), reserve(5, 0, 50, 3, 6), tick(6, 3), tick(7, 5), commit(8, 1), tick(9, 4), tick(10, 5)}, "d9 d9 d8 d7 d5 d0 d2 r0 r0 d0",
			"10 done, clock 5, cell 0: 9 = 3 held + 0 gone + 6 free, cell 1: 9 = 0 held + 0 gone + 9 free, hold 50: 3 of 0 until 6"},
		{"the last time ends all holds", []api.Request{receive(1, 0, 9), reserve(2, 0, 1, 1, 1), reserve(3, 0, 2, 1, 1000000000), tick(4, 1000000000), reserve(5, 0, 3, 1, 1000000000)}, "d9 d8 d7 d2 r0",
			"5 done, clock 1000000000, cell 0: 9 = 0 held + 0 gone + 9 free"},
		{"wrong among others", []api.Request{receive(1, 0, 5), receive(2, 8, 5), reserve(2, 0, 1, 3, 1), {}, commit(3, 51), commit(3, 1), tick(1, -1)}, "d5 w0 d2 w0 w0 d3 w0",
			"3 done, clock 0, cell 0: 5 = 0 held + 3 gone + 2 free"},
		{"only wrong ones", []api.Request{{}, {ID: 1, Kind: 5}, tick(0, 0)}, "w0 w0 w0", "0 done, clock 0"},
		{"rejected is done", []api.Request{commit(1, 1), receive(2, 0, 1), reserve(3, 0, 1, 1, 1), commit(1, 1), release(1, 1)}, "r0 d1 d0 r0 c0",
			"3 done, clock 0, cell 0: 1 = 1 held + 0 gone + 0 free, hold 1: 1 of 0 until 1"},
	} {
		for _, group := range []int{1, 2, 3, 4, 7, 16} {
			whole, apart := mustOpen(t, configOf(20, group, 5000)), mustOpen(t, configOf(20, group, 5000))
			checkServe(t, x.what, whole, x.want, x.l...)
			checkTold(t, x.what, whole, x.state)
			for i, r := range x.l {
				checkServe(t, x.what+", each by itself", apart, strings.Fields(x.want)[i], r)
			}
			checkTold(t, x.what+", each by itself", apart, x.state)
		}
	}
}

// Each number of a request of each kind takes each value at which a bound may lie.
func TestServeRequestsAtTheirBounds(t *testing.T) {
	start := someBook()
	start.in[0], start.out[0] = 100000000, 0
	values := append(byOne(0, 1, 4, 7, 30, 50, 1000000, 1000000000), -1<<63, 1<<63-1, 1<<32, 1<<32+1, 1<<32+7)
	least := []api.Request{receive(1, 0, 1), reserve(1, 0, 1, 1, 0), commit(1, 1), release(1, 1), tick(1, 0)}
	most := []api.Request{receive(1000000000, 7, 1000000), reserve(1000000000, 7, 50, 1000000, 1000000000), commit(1000000000, 50), release(1000000000, 50), tick(1000000000, 1000000000)}
	some := []api.Request{receive(9, 3, 30), reserve(9, 0, 8, 30, 5), commit(9, 7), release(9, 7), tick(9, 5)}
	for _, base := range slices.Concat(least, most, some) {
		for _, n := range values {
			for _, r := range withNumber(base, n) {
				checkOne(t, start, r)
			}
		}
	}
}

// withNumber tells requests that have another number once in each place.
func withNumber(r api.Request, n int) []api.Request {
	l := slices.Repeat([]api.Request{r}, 6)
	l[0].ID, l[1].Kind, l[2].Cell, l[3].Hold, l[4].Count, l[5].Time = n, n, n, n, n, n
	return l
}

// checkOne serves one request in a book, and holds all that is told behind it against the model.
func checkOne(t *testing.T, start *model, r api.Request) {
	t.Helper()
	m := start.clone()
	s := mustOpen(t, widest, snapOf(m.snapshot()))
	want, done := m.ask(r)
	replies, e := s.Serve([]api.Request{r})
	if e != api.OK || !slices.Equal(replies, []api.Reply{want}) {
		t.Errorf("Serve of %v = %v, %d, want %v", r, replies, e, want)
	}
	if got := tell(t, s); got != m.told() {
		t.Errorf("behind %v:\nthe shop tells %v\nwant           %v", r, got, m.told())
	}
	if (want.Code == api.Wrong) == requestMayBe(r) || done != (m.count > start.count) {
		t.Errorf("the model goes wrong at %v", r)
	}
}

func TestServeWrong(t *testing.T) {
	bad := []api.Request{
		receive(0, 0, 5), receive(1000000001, 0, 5), receive(-1, 0, 5), receive(1, -1, 5), receive(1, 8, 5), receive(1, 0, 0), receive(1, 0, -1), receive(1, 0, 1000001),
		reserve(0, 0, 1, 1, 1), reserve(1, -1, 1, 1, 1), reserve(1, 8, 1, 1, 1), reserve(1, 0, 0, 1, 1), reserve(1, 0, 51, 1, 1), reserve(1, 0, 1, 0, 1), reserve(1, 0, 1, 1000001, 1), reserve(1, 0, 1, 1, -1), reserve(1, 0, 1, 1, 1000000001),
		commit(0, 1), commit(1, 0), commit(1, 51), commit(1, -1), release(0, 1), release(1, 0), release(1, 51), tick(0, 1), tick(1, -1), tick(1, 1000000001),
		{ID: 1, Kind: 5}, {ID: 1, Kind: -1}, {ID: 1, Kind: 1 << 32, Count: 1}, {ID: 1 + 1<<32, Count: 1},
		{ID: 1, Kind: 0, Count: 1, Hold: 1}, {ID: 1, Kind: 0, Count: 1, Time: 1},
		{ID: 1, Kind: 2, Hold: 1, Cell: 1}, {ID: 1, Kind: 2, Hold: 1, Count: 1}, {ID: 1, Kind: 2, Hold: 1, Time: 1},
		{ID: 1, Kind: 3, Hold: 1, Cell: 1}, {ID: 1, Kind: 3, Hold: 1, Count: 1}, {ID: 1, Kind: 3, Hold: 1, Time: 1},
		{ID: 1, Kind: 4, Cell: 1}, {ID: 1, Kind: 4, Hold: 1}, {ID: 1, Kind: 4, Count: 1},
	}
	for _, group := range []int{1, 5, 16} {
		s := mustOpen(t, configOf(20, group, 100))
		wrong := strings.TrimSuffix(strings.Repeat("w0 ", len(bad)), " ")
		checkServe(t, "wrong ones", s, wrong, bad...)
		checkTold(t, "behind wrong ones", s, stocked(0))
		checkServe(t, "the ID of wrong ones", s, "d5", receive(1, 0, 5))
		checkServe(t, "wrong ones, whose ID is remembered", s, wrong, bad...)
		checkTold(t, "behind wrong ones once more", s, "1 done, clock 0, cell 0: 5 = 0 held + 0 gone + 5 free")
	}
}

func TestServeGroupsOfEachSize(t *testing.T) {
	for _, group := range []int{1, 2, 3, 8, 15, 16} {
		for _, n := range []int{group - 1, group, group + 1, 2*group - 1, 2 * group, 2*group + 1, 5 * group, 5*group + 1} {
			s := mustOpen(t, configOf(20, group, 5000))
			checkServe(t, fmt.Sprint(n, " in groups of ", group), s, words(counts(1, n)), receives(1, n)...)
			checkTold(t, fmt.Sprint(n, " in groups of ", group), s, stocked(n))
		}
	}
}

// Where a group ends shows by what is refused: a log of 100 bytes takes three records.
func TestServeRefusesByGroups(t *testing.T) {
	for _, x := range []struct {
		group, n int
		want     [][]string
		done     int
	}{
		{1, 5, [][]string{counts(1, 3), refusals(2)}, 3},
		{2, 4, [][]string{counts(1, 2), refusals(2)}, 2},
		{2, 5, [][]string{counts(1, 2), refusals(2), counts(3, 1)}, 3},
		{2, 3, [][]string{counts(1, 3)}, 3},
		{2, 7, [][]string{counts(1, 2), refusals(4), counts(3, 1)}, 3},
		{3, 3, [][]string{counts(1, 3)}, 3},
		{3, 4, [][]string{counts(1, 3), refusals(1)}, 3},
		{4, 3, [][]string{counts(1, 3)}, 3},
		{4, 4, [][]string{refusals(4)}, 0},
		{4, 7, [][]string{refusals(4), counts(1, 3)}, 3},
		{4, 8, [][]string{refusals(8)}, 0},
		{4, 5, [][]string{refusals(4), counts(1, 1)}, 1},
		{16, 16, [][]string{refusals(16)}, 0},
		{16, 18, [][]string{refusals(16), counts(1, 2)}, 2},
	} {
		s := mustOpen(t, configOf(20, x.group, 100))
		what := fmt.Sprint(x.n, " in groups of ", x.group)
		checkServe(t, what, s, words(x.want...), receives(1, x.n)...)
		checkTold(t, what, s, stocked(x.done))
	}
}

// A call's last group ends with the call: the next call begins a new one.
func TestServeGroupsEndWithTheCall(t *testing.T) {
	s := mustOpen(t, configOf(20, 4, 128))
	checkServe(t, "the first call", s, "d1 d2 d3", receives(1, 3)...)
	checkServe(t, "the second call", s, "f0 f0", receives(4, 2)...)
	checkServe(t, "the third call", s, "d4", receives(4, 1)...)
	checkTold(t, "behind them", s, stocked(4))
}

func TestServeALogThatIsFullToTheByte(t *testing.T) {
	for _, x := range []struct{ group, room int }{{1, 128}, {2, 128}, {4, 128}, {5, 160}, {16, 512}, {16, 4992}, {1, 4992}, {3, 192}} {
		n := x.room / 32
		for _, less := range []int{0, 1} {
			s := mustOpen(t, configOf(20, x.group, x.room-less))
			last := ((n-1)%x.group + 1) * less // what one byte less leaves no room for: the last group
			what := fmt.Sprint(n, " records in groups of ", x.group, ", room for ", x.room-less, " bytes")
			checkServe(t, what, s, words(counts(1, n-last), refusals(last)), receives(1, n)...)
			checkTold(t, what, s, stocked(n-last))
		}
		s := mustOpen(t, configOf(20, x.group, x.room))
		s.Serve(receives(1, n))
		checkServe(t, "one record more than a full log takes", s, "f0", receive(n+1, 0, 1))
		checkServe(t, "what is no record, when the log is full", s, fmt.Sprint("d", n, " c0 w0"), receive(n, 0, 1), receive(n, 0, 2), receive(n, 0, 0))
		checkTold(t, "a full log", s, stocked(n))
	}
}

// What the log has when it is opened counts too, also what is passed over and what is more than there is room for; what was cut off does not.
func TestServeWithALogOfOld(t *testing.T) {
	empty := newModel(20)
	empty.count = 2
	records := recordsOf(1, receives(1, 5)...)
	for _, x := range []struct {
		what  string
		files []api.File
		want  string
		state string
	}{
		{"two records", []api.File{logOf(records[:2]...)}, "d3 f0", stocked(3)},
		{"two records and junk", []api.File{logOf(records[0], records[1], strings.Repeat("x", 50))}, "d3 f0", stocked(3)},
		{"two records and one that is torn", []api.File{logOf(records[0], records[1], records[2][:31])}, "d3 f0", stocked(3)},
		{"two records and one that does not follow", []api.File{logOf(records[0], records[1], records[3])}, "d3 f0", stocked(3)},
		{"three records", []api.File{logOf(records[:3]...)}, "f0 f0", stocked(3)},
		{"more than there is room for", []api.File{logOf(records...)}, "f0 f0", stocked(5)},
		{"records that are passed over", []api.File{snapOf(empty.snapshot()), logOf(records[:2]...)}, "d1 f0", "3 done, clock 0, cell 0: 1 = 0 held + 0 gone + 1 free"},
		{"a snapshot alone", []api.File{snapOf(empty.snapshot())}, "d1 d2", "4 done, clock 0, cell 0: 2 = 0 held + 0 gone + 2 free"},
		{"a snapshot and a tmp", []api.File{snapOf(empty.snapshot()), {Name: "tmp", Data: strings.Repeat("x", 500)}}, "d1 d2", "4 done, clock 0, cell 0: 2 = 0 held + 0 gone + 2 free"},
	} {
		s := mustOpen(t, configOf(20, 1, 100), x.files...)
		checkServe(t, x.what, s, x.want, receives(11, 2)...)
		checkTold(t, x.what, s, x.state)
	}
}

// The others of a refused group count for nothing: each request is answered as in the book ahead of it.
func TestServeRefusedEachByItself(t *testing.T) {
	old := []api.Request{receive(1, 0, 5), reserve(2, 0, 7, 3, 10), reserve(3, 0, 8, 3, 10)}
	state := "3 done, clock 0, cell 0: 5 = 3 held + 0 gone + 2 free, hold 7: 3 of 0 until 10"
	for _, x := range []struct {
		what   string
		window int
		l      []api.Request
		want   string
	}{
		{"a new one alone", 3, []api.Request{receive(4, 0, 5)}, "f0"},
		{"one that would be rejected", 3, []api.Request{commit(4, 50)}, "f0"},
		{"two of one new number", 3, []api.Request{receive(4, 0, 5), receive(4, 0, 5)}, "f0 f0"},
		{"two others of one new number", 3, []api.Request{receive(4, 0, 5), receive(4, 0, 6), tick(4, 1)}, "f0 f0 f0"},
		{"a wrong one of a new number", 3, []api.Request{receive(4, 0, 5), receive(4, 8, 5)}, "f0 w0"},
		{"remembered ones among new ones", 3, []api.Request{receive(1, 0, 5), receive(4, 0, 1), reserve(2, 0, 7, 3, 10), reserve(3, 0, 8, 3, 10), receive(5, 0, 1)}, "d5 f0 d2 r0 f0"},
		{"others with remembered numbers", 3, []api.Request{receive(4, 0, 1), receive(1, 0, 6), commit(2, 7), reserve(3, 0, 8, 3, 11)}, "f0 c0 c0 c0"},
		{"all kinds of answers", 3, []api.Request{{}, receive(4, 0, 1), reserve(2, 0, 7, 3, 10), receive(4, 0, 1), reserve(3, 0, 8, 3, 10), tick(1, 1), tick(6, -1)}, "w0 f0 d2 f0 r0 c0 w0"},
		{"one that the group would have forgotten", 3, []api.Request{receive(4, 0, 1), receive(1, 0, 5), receive(1, 0, 6)}, "f0 d5 c0"},
		{"one that is forgotten", 2, []api.Request{receive(1, 0, 5), reserve(2, 0, 7, 3, 10)}, "f0 d2"},
		{"one that is forgotten, twice", 2, []api.Request{receive(1, 0, 5), receive(1, 0, 5), receive(1, 0, 6)}, "f0 f0 f0"},
		{"all but the last are forgotten", 1, []api.Request{reserve(2, 0, 7, 3, 10), reserve(3, 0, 8, 3, 10), receive(1, 0, 5)}, "f0 r0 f0"},
		{"one that needs another of the group", 3, []api.Request{receive(4, 3, 5), reserve(5, 3, 9, 5, 1), commit(6, 9)}, "f0 f0 f0"},
	} {
		s := mustOpen(t, configOf(x.window, 16, 100))
		s.Serve(old)
		checkServe(t, x.what, s, x.want, x.l...)
		checkTold(t, x.what, s, state)
		checkServe(t, x.what+", once more", s, x.want, x.l...)
		checkServe(t, x.what+", then the last one of old", s, "r0", old[2])
		checkTold(t, x.what+", once more", s, state)
	}
}

// A refused group leaves nothing behind: neither in what is remembered nor in the cells, the holds and the clock.
func TestServeAfterARefusedGroup(t *testing.T) {
	s := mustOpen(t, configOf(1, 4, 100))
	checkServe(t, "the first", s, "d5", receive(1, 0, 5))
	for range 3 {
		checkServe(t, "the refused", s, "f0 f0 f0 f0", reserve(2, 0, 1, 5, 3), commit(3, 1), tick(4, 9), receive(5, 1, 1))
	}
	checkTold(t, "behind them", s, "1 done, clock 0, cell 0: 5 = 0 held + 0 gone + 5 free")
	checkServe(t, "the first again", s, "d5", receive(1, 0, 5))
	checkServe(t, "a smaller group", s, "d3 d2", reserve(2, 0, 1, 2, 3), commit(3, 1))
	checkTold(t, "at last", s, "3 done, clock 0, cell 0: 5 = 0 held + 2 gone + 3 free")
}

// A group that is refused does not hold up those behind it.
func TestServeGoesOnBehindARefusedGroup(t *testing.T) {
	s := mustOpen(t, configOf(20, 2, 100))
	l := []api.Request{receive(1, 0, 1), receive(2, 0, 1), receive(3, 0, 1), receive(4, 0, 1), receive(1, 0, 1), receive(3, 0, 1), receive(4, 0, 1), {}, receive(2, 0, 1), receive(2, 0, 2)}
	checkServe(t, "groups of two", s, "d1 d2 f0 f0 d1 d3 f0 w0 d2 c0", l...)
	checkTold(t, "groups of two", s, stocked(3))
}

func TestServeOneSentAgain(t *testing.T) {
	first, other := receive(1, 0, 5), receive(1, 0, 6)
	for _, x := range []struct {
		what   string
		window int
		l      []api.Request
		want   string
		count  int
	}{
		{"at once", 1, []api.Request{first, first, first}, "d5 d5 d5", 1},
		{"with other numbers", 1, []api.Request{first, other, receive(1, 1, 5), tick(1, 5), commit(1, 1), release(1, 1), reserve(1, 0, 1, 1, 1), first}, "d5 c0 c0 c0 c0 c0 c0 d5", 1},
		{"a rejected one", 1, []api.Request{commit(1, 1), commit(1, 1), commit(1, 2)}, "r0 r0 c0", 1},
		{"the window is 1, one between", 1, []api.Request{first, receive(2, 0, 5), first, first, other}, "d5 d10 d15 d15 c0", 3},
		{"the window is 1, other numbers behind one", 1, []api.Request{first, receive(2, 0, 5), other, other, first}, "d5 d10 d16 d16 c0", 3},
		{"the window is 1, a wrong one between", 1, []api.Request{first, receive(2, 8, 5), first}, "d5 w0 d5", 1},
		{"the window is 1, a rejected one between", 1, []api.Request{first, commit(2, 8), first}, "d5 r0 d10", 3},
		{"the window is 2", 2, []api.Request{first, receive(2, 0, 5), first, receive(3, 0, 5), first, receive(2, 0, 5), first}, "d5 d10 d5 d15 d20 d25 d20", 5},
		{"being sent again does not keep it", 2, []api.Request{first, receive(2, 0, 5), first, first, receive(3, 0, 5), receive(2, 0, 5), other}, "d5 d10 d5 d5 d15 d10 d21", 4},
		{"a conflict does not keep it", 2, []api.Request{first, receive(2, 0, 5), other, receive(3, 0, 5), other}, "d5 d10 c0 d15 d21", 4},
	} {
		for _, group := range []int{1, 2, 3, 16} {
			whole, apart := mustOpen(t, configOf(x.window, group, 5000)), mustOpen(t, configOf(x.window, group, 5000))
			checkServe(t, x.what, whole, x.want, x.l...)
			for i, r := range x.l {
				checkServe(t, x.what+", in later calls", apart, strings.Fields(x.want)[i], r)
			}
			for _, s := range []*stockroom.Shop{whole, apart} {
				if n, e := s.Count(); n != x.count || e != api.OK {
					t.Errorf("%s: Count = %d, %d, want %d", x.what, n, e, x.count)
				}
			}
		}
	}
}

func TestServeTheWidestWindow(t *testing.T) {
	for _, group := range []int{1, 2, 3, 16} {
		s := mustOpen(t, configOf(20, group, 5000))
		checkServe(t, "20", s, words(counts(1, 20)), receives(1, 20)...)
		checkServe(t, "20 remembered", s, words(counts(1, 20)), receives(1, 20)...)
		checkServe(t, "the 21st", s, "d21", receive(21, 0, 1))
		checkServe(t, "the 2nd, other numbers for the 2nd, the 1st, the 2nd", s, "d2 c0 d22 d23", receive(2, 0, 1), receive(2, 0, 2), receive(1, 0, 1), receive(2, 0, 1))
		checkServe(t, "the 4th to the 21st", s, words(counts(4, 18)), receives(4, 18)...)
		checkTold(t, "behind them", s, stocked(23))
	}
}

// Of the requests that a snapshot remembers the window takes the last ones.
func TestServeWhatASnapshotRemembers(t *testing.T) {
	snap := snapOf(someBook().snapshot())
	s := mustOpen(t, configOf(20, 16, 5000), snap)
	checkServe(t, "both", s, "d7 r0 c0 c0", receive(5, 0, 7), commit(6, 9), receive(5, 0, 8), release(6, 9))
	s = mustOpen(t, configOf(1, 16, 5000), snap)
	checkServe(t, "the last", s, "r0 c0 d57 r0", commit(6, 9), release(6, 9), receive(5, 0, 7), release(6, 9))
}

// Of the requests of the log the replies are remembered too.
func TestServeWhatTheLogRemembers(t *testing.T) {
	l := []api.Request{receive(1, 0, 5), reserve(2, 0, 7, 3, 10), reserve(3, 0, 8, 3, 10)}
	s := mustOpen(t, configOf(2, 16, 5000), logOf(recordsOf(1, l...)...))
	checkServe(t, "of the log", s, "d2 r0 c0 d7", l[1], l[2], reserve(3, 0, 8, 3, 9), l[0])
}

func TestServeUpToTheMostOfACell(t *testing.T) {
	for _, x := range []struct {
		in, count int
		want      string
	}{
		{999999999, 1, "d1000000000 r0"}, {999999999, 2, "r0 d1000000000"}, {999000000, 1000000, "d1000000000 r0"}, {999000001, 1000000, "r0 d999000002"}, {1000000000, 1, "r0 r0"}, {1000000000, 1000000, "r0 r0"},
	} {
		for _, cell := range []int{0, 7} {
			m := newModel(20)
			m.in[cell] = x.in
			shop := &shopModel{model: m, config: widest}
			s := mustOpen(t, widest, snapOf(m.snapshot()))
			l := []api.Request{receive(1, cell, x.count), receive(2, cell, 1)}
			checkServe(t, fmt.Sprint(x.in, " and ", x.count), s, x.want, l...)
			shop.serve(l)
			if got := tell(t, s); got != shop.told() {
				t.Errorf("the shop tells %v, want %v", got, shop.told())
			}
		}
	}
	m := newModel(20)
	m.in[2], m.out[2] = 1000000000, 999999999
	s := mustOpen(t, widest, snapOf(m.snapshot()))
	checkServe(t, "what went out makes no room", s, "r0 d0", receive(1, 2, 1), reserve(2, 2, 1, 1, 1))
}

func TestServeUpToTheMostDone(t *testing.T) {
	at := func(count, group int) *stockroom.Shop {
		m := newModel(20)
		m.count = count
		return mustOpen(t, configOf(20, group, 5000), snapOf(m.snapshot()))
	}
	most := "1000000000 done, clock 0, cell 0: 1 = 0 held + 0 gone + 1 free"
	for _, group := range []int{1, 2, 16} {
		s := at(1000000000, group)
		checkServe(t, "10^9 done", s, "f0 w0 f0 f0", receive(1, 0, 1), receive(2, 8, 1), commit(3, 1), receive(1, 0, 1))
		checkTold(t, "10^9 done", s, "1000000000 done, clock 0")
		s = at(999999999, group)
		checkServe(t, "one less", s, "d1", receive(1, 0, 1))
		checkServe(t, "behind the last", s, "d1 c0 w0 f0", receive(1, 0, 1), receive(1, 0, 2), receive(1, 0, 0), receive(2, 0, 1))
		checkTold(t, "behind the last", s, most)
	}
	s := at(999999999, 1)
	checkServe(t, "one less, by ones", s, "d1 f0 d1", receive(1, 0, 1), receive(2, 0, 1), receive(1, 0, 1))
	checkTold(t, "one less, by ones", s, most)
	s = at(999999999, 2)
	checkServe(t, "one less, by twos", s, "f0 f0 d1 w0", receive(1, 0, 1), receive(2, 0, 1), receive(1, 0, 1), receive(2, 0, 0))
	checkTold(t, "one less, by twos", s, most)
	s = at(999999999, 3)
	checkServe(t, "one less, one thing thrice", s, "d1 d1 d1", receive(1, 0, 1), receive(1, 0, 1), receive(1, 0, 1))
	s = at(999999984, 16)
	checkServe(t, "a whole group less", s, words(counts(1, 16), refusals(1)), receives(1, 17)...)
	s = at(999999985, 16)
	checkServe(t, "one less than a whole group", s, words(refusals(16), counts(1, 1)), receives(1, 17)...)
}

func TestServeTheDocumentsExample(t *testing.T) {
	s := mustOpen(t, configOf(2, 2, 100))
	checkServe(t, "three", s, "d5 d2 r0", receive(1, 0, 5), reserve(2, 0, 7, 3, 10), reserve(3, 0, 8, 3, 10))
	checkServe(t, "ID 2", s, "d2", reserve(2, 0, 7, 3, 10))
	checkServe(t, "ID 2 of 4", s, "c0", reserve(2, 0, 7, 4, 10))
	checkServe(t, "ID 1", s, "f0", receive(1, 0, 5))
	checkTold(t, "behind them", s, "3 done, clock 0, cell 0: 5 = 3 held + 0 gone + 2 free, hold 7: 3 of 0 until 10")
	checkCheckpoint(t, "a full log", s)
	checkServe(t, "ID 1, with room", s, "d7", receive(1, 0, 5))
	checkTold(t, "with room", s, "4 done, clock 0, cell 0: 10 = 3 held + 0 gone + 7 free, hold 7: 3 of 0 until 10")
	checkServe(t, "ID 4", s, "d3", commit(4, 7))
	checkTold(t, "at last", s, "5 done, clock 0, cell 0: 10 = 0 held + 3 gone + 7 free")
}

func TestServeAgainstTheModel(t *testing.T) {
	r := rand.New(rand.NewSource(7))
	seen := map[int]int{}
	for i := range 3000 {
		files, c := someFiles(r)
		c.Room = []int{100, 100 + r.Intn(600), c.Room}[r.Intn(3)]
		if _, _, e := openModel(files, c); e != api.OK {
			continue
		}
		shop := openShopModel(t, files, c)
		s := mustOpen(t, c, files...)
		for range 1 + r.Intn(4) {
			l := someRequests(r)
			want := shop.serve(l)
			got, e := s.Serve(l)
			if e != api.OK || !slices.Equal(got, want) {
				t.Fatalf("run %d, %v: Serve(%v)\nanswers %s, %d\nwant    %s", i, c, l, repliesOf(got), e, repliesOf(want))
			}
			if got := tell(t, s); got != shop.told() {
				t.Fatalf("run %d, %v: behind Serve(%v)\nthe shop tells %v\nwant           %v", i, c, l, got, shop.told())
			}
			for _, p := range want {
				seen[p.Code]++
			}
		}
	}
	for code := range codes {
		if seen[code] < 500 {
			t.Errorf("only %d answers with code %d", seen[code], code)
		}
	}
}

// someRequests are requests of which some are sent again, some with another number.
func someRequests(r *rand.Rand) []api.Request {
	var l []api.Request
	for range r.Intn(40) {
		q := someRequest(r)
		if len(l) > 0 && r.Intn(4) == 0 {
			q = l[r.Intn(len(l))]
			q.Count += r.Intn(2)
		}
		l = append(l, q)
	}
	return l
}

// P1.

func TestServeOfVeryManyRequests(t *testing.T) {
	for _, group := range []int{1, 16} {
		s := mustOpen(t, configOf(20, group, 5000))
		l := receives(1, 100000)
		replies, e := s.Serve(l)
		if len(replies) != len(l) || e != api.OK {
			t.Fatalf("%d replies to %d requests, error %d", len(replies), len(l), e)
		}
		done := 5000 / 32 / group * group
		for i, p := range replies {
			if want := (api.Reply{Code: api.Refused}); i >= done && p != want || i < done && p != (api.Reply{Count: i + 1}) {
				t.Fatalf("groups of %d: reply %d is %v", group, i, p)
			}
		}
		checkTold(t, "behind very many", s, stocked(done))
	}
}

func TestServeNeverPanics(t *testing.T) {
	ends := []int{-1 << 63, -1<<63 + 1, -1 << 32, -1, 0, 1, 7, 8, 50, 51, 1 << 31, 1 << 32, 1<<63 - 1}
	r := rand.New(rand.NewSource(9))
	one := func() int { return ends[r.Intn(len(ends))] }
	s := mustOpen(t, configOf(3, 5, 100), snapOf(someBook().snapshot()))
	m := &shopModel{model: someBook(), config: configOf(3, 5, 100)}
	m.window = 3
	for range 2000 {
		l := make([]api.Request, r.Intn(12))
		for i := range l {
			l[i] = api.Request{ID: one(), Kind: r.Intn(7) - 1, Cell: one(), Hold: one(), Count: one(), Time: one()}
		}
		replies, e := s.Serve(l)
		if want := m.serve(l); e != api.OK || !slices.Equal(replies, want) {
			t.Fatalf("Serve(%v) = %v, %d, want %v", l, replies, e, want)
		}
	}
}

// All goroutines of a call have ended when it answers.
func TestServeLeavesNoGoroutine(t *testing.T) {
	s := mustOpen(t, widest)
	before := runtime.NumGoroutine()
	for range 50 {
		s.Serve(receives(1, 160))
	}
	after := runtime.NumGoroutine()
	for range 100 { // one that has called Done may need a moment to be gone
		if after <= before {
			return
		}
		time.Sleep(time.Millisecond)
		after = runtime.NumGoroutine()
	}
	t.Errorf("%d goroutines were there, then %d", before, after)
}

// P2.

func TestServeChangesNothingHandedIn(t *testing.T) {
	whole := append(receives(1, 40), api.Request{ID: -1}, api.Request{ID: -2})
	for _, group := range []int{1, 3, 16} {
		for _, room := range []int{100, 5000} {
			l := slices.Clone(whole)
			s := mustOpen(t, configOf(20, group, room))
			if replies, e := s.Serve(l[:40]); len(replies) != 40 || e != api.OK {
				t.Errorf("%d replies, error %d", len(replies), e)
			}
			if !slices.Equal(l, whole) {
				t.Errorf("Serve in groups of %d changed what was handed in: %v", group, l)
			}
		}
	}
}

func TestServeKeepsNothingHandedIn(t *testing.T) {
	s := mustOpen(t, widest)
	l := []api.Request{receive(1, 0, 5), reserve(2, 0, 1, 2, 9)}
	checkServe(t, "at first", s, "d5 d3", l...)
	l[0], l[1] = receive(1, 0, 6), tick(2, 9)
	checkServe(t, "changed by the caller", s, "c0 c0", l...)
	checkServe(t, "as it was", s, "d5 d3", receive(1, 0, 5), reserve(2, 0, 1, 2, 9))
	checkTold(t, "behind them", s, "2 done, clock 0, cell 0: 5 = 2 held + 0 gone + 3 free, hold 1: 2 of 0 until 9")
}

func TestServeAnswersAreTheCallers(t *testing.T) {
	for _, group := range []int{1, 3, 16} {
		s := mustOpen(t, configOf(20, group, 5000))
		l := receives(1, 20)
		first, _ := s.Serve(l)
		second, _ := s.Serve(l)
		for i := range first[:cap(first)] {
			first[:cap(first)][i] = api.Reply{Code: -1, Count: -1}
		}
		if got := repliesOf(second); got != words(counts(1, 20)) {
			t.Errorf("writing into one answer changed another: %s", got)
		}
		for i, p := range second[len(second):cap(second)] {
			if p != (api.Reply{}) {
				t.Errorf("spare room %d holds %v", i, p)
			}
		}
		checkServe(t, "later", s, words(counts(1, 20)), l...)
		s.Serve([]api.Request{receive(21, 0, 1), tick(22, 9)})
		if got := repliesOf(second); got != words(counts(1, 20)) {
			t.Errorf("a later call changed an answer: %s", got)
		}
	}
}

func TestServeOfShopsThatDoNotTouchOneAnother(t *testing.T) {
	files := []api.File{snapOf(someBook().snapshot())}
	a, b := mustOpen(t, widest, files...), mustOpen(t, configOf(1, 1, 100), files...)
	want := tell(t, b)
	checkServe(t, "the first", a, "d51 d30 d1", receive(11, 0, 1), commit(12, 7), tick(13, 1000000000))
	if got := tell(t, b); got != want {
		t.Errorf("the second shop tells %v, told %v", got, want)
	}
	checkServe(t, "the second", b, "d51 d52 d53 f0", receive(11, 0, 1), receive(12, 0, 1), receive(13, 0, 1), receive(14, 0, 1))
	checkServe(t, "the first once more", a, "d51 d30 d1 d72", receive(11, 0, 1), commit(12, 7), tick(13, 1000000000), receive(14, 0, 21))
}

// The same is answered however the goroutines run, with other shops at work at the same time.
func TestServeAnswersTheSameAtAnyTime(t *testing.T) {
	r := rand.New(rand.NewSource(11))
	var calls [][]api.Request
	for range 60 {
		calls = append(calls, someRequests(r))
	}
	m := &shopModel{model: newModel(5), config: configOf(5, 7, 5000)}
	var want [][]api.Reply
	for _, l := range calls {
		want = append(want, m.serve(l))
	}
	var all sync.WaitGroup
	for range 8 {
		all.Go(func() {
			s, _ := stockroom.Open(nil, m.config)
			for i, l := range calls {
				if got, e := s.Serve(l); e != api.OK || !slices.Equal(got, want[i]) {
					t.Errorf("call %d: Serve(%v) = %s, %d, want %s", i, l, repliesOf(got), e, repliesOf(want[i]))
				}
			}
		})
	}
	all.Wait()
}

func ExampleShop_Serve() {
	s, _ := stockroom.Open(nil, api.Config{Window: 2, Group: 2, Room: 100})
	replies, e := s.Serve([]api.Request{
		{ID: 1, Kind: api.Receive, Cell: 0, Count: 5},
		{ID: 2, Kind: api.Reserve, Cell: 0, Hold: 7, Count: 3, Time: 10},
		{ID: 3, Kind: api.Reserve, Cell: 0, Hold: 8, Count: 3, Time: 10},
	})
	fmt.Println(replies, e)
	again, e := s.Serve([]api.Request{
		{ID: 2, Kind: api.Reserve, Cell: 0, Hold: 7, Count: 3, Time: 10},
		{ID: 2, Kind: api.Reserve, Cell: 0, Hold: 7, Count: 4, Time: 10},
		{ID: 4, Kind: api.Commit, Hold: 7},
	})
	fmt.Println(again, e)
	// Output:
	// [{0 5} {0 2} {1 0}] 0
	// [{0 2} {2 0} {3 0}] 0
}
