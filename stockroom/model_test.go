package stockroom_test

import (
	"cmp"
	"fmt"
	"maps"
	"slices"
	"testing"

	"stockroom/api"
	"stockroom/stockroom"
)

// model is the book once more, by the document's words, in maps and lists, to hold the program's answers against.
type model struct {
	in, out      [8]int
	holds        map[int]api.Hold
	clock, count int
	window       int
	past         []asked
}

type asked struct {
	request api.Request
	reply   api.Reply
}

func newModel(window int) *model {
	return &model{holds: map[int]api.Hold{}, window: window}
}

// bounds: for each kind the least and the most that Cell, Hold, Count and Time may be.
var bounds = [5][4][2]int{
	api.Receive: {{0, 7}, {0, 0}, {1, 1000000}, {0, 0}},
	api.Reserve: {{0, 7}, {1, 50}, {1, 1000000}, {0, 1000000000}},
	api.Commit:  {{0, 0}, {1, 50}, {0, 0}, {0, 0}},
	api.Release: {{0, 0}, {1, 50}, {0, 0}, {0, 0}},
	api.Tick:    {{0, 0}, {0, 0}, {0, 0}, {0, 1000000000}},
}

func requestMayBe(r api.Request) bool {
	if r.ID < 1 || r.ID > 1000000000 || r.Kind < 0 || r.Kind > 4 {
		return false
	}
	for i, n := range []int{r.Cell, r.Hold, r.Count, r.Time} {
		if n < bounds[r.Kind][i][0] || n > bounds[r.Kind][i][1] {
			return false
		}
	}
	return true
}

func (m *model) cell(i int) api.Cell {
	c := api.Cell{OnHand: m.in[i], Committed: m.out[i]}
	for _, h := range m.holds {
		if h.Cell == i {
			c.Held += h.Count
		}
	}
	c.Free = c.OnHand - c.Held - c.Committed
	return c
}

func (m *model) ask(r api.Request) (api.Reply, bool) {
	if !requestMayBe(r) {
		return api.Reply{Code: 4}, false
	}
	for _, p := range m.past {
		if p.request == r {
			return p.reply, false
		} else if p.request.ID == r.ID {
			return api.Reply{Code: 2}, false
		}
	}
	m.count++
	reply := api.Reply{Code: 1}
	if n, can := m.change(r); can {
		reply = api.Reply{Code: 0, Count: n}
	}
	m.past = append(m.past, asked{r, reply})
	m.trim()
	return reply, true
}

func (m *model) trim() {
	if len(m.past) > m.window {
		m.past = m.past[len(m.past)-m.window:]
	}
}

// change does what the request asks for, if it can be.
func (m *model) change(r api.Request) (int, bool) {
	hold, live := m.holds[r.Hold]
	switch {
	case r.Kind == 0 && m.in[r.Cell]+r.Count <= 1000000000:
		m.in[r.Cell] += r.Count
		return m.cell(r.Cell).Free, true
	case r.Kind == 1 && !live && r.Time > m.clock && r.Count <= m.cell(r.Cell).Free:
		m.holds[r.Hold] = api.Hold{Cell: r.Cell, Count: r.Count, Time: r.Time}
		return m.cell(r.Cell).Free, true
	case r.Kind == 2 && live:
		delete(m.holds, r.Hold)
		m.out[hold.Cell] += hold.Count
		return hold.Count, true
	case r.Kind == 3 && live:
		delete(m.holds, r.Hold)
		return hold.Count, true
	case r.Kind == 4 && r.Time >= m.clock:
		m.clock = r.Time
		before := len(m.holds)
		maps.DeleteFunc(m.holds, func(_ int, h api.Hold) bool { return h.Time <= r.Time })
		return before - len(m.holds), true
	}
	return 0, false
}

// fourOf are numbers in four bytes each.
func fourOf(numbers ...int) string {
	text := ""
	for _, n := range numbers {
		text += string([]byte{byte(n), byte(n >> 8), byte(n >> 16), byte(n >> 24)})
	}
	return text
}

func numbersOf(r api.Request) []int {
	return []int{r.ID, r.Kind, r.Cell, r.Hold, r.Count, r.Time}
}

func recordOf(number int, r api.Request) string {
	return frameOf(fourOf(number) + fourOf(numbersOf(r)...))
}

// snapshot tells the numbers of the model's snapshot.
func (m *model) snapshot() []int {
	l := []int{m.count, m.clock}
	for i := range 8 {
		l = append(l, m.in[i], m.out[i])
	}
	l = append(l, len(m.holds))
	for _, n := range slices.Sorted(maps.Keys(m.holds)) {
		h := m.holds[n]
		l = append(l, n, h.Cell, h.Count, h.Time)
	}
	l = append(l, len(m.past))
	for _, p := range m.past {
		l = append(append(l, numbersOf(p.request)...), p.reply.Code, p.reply.Count)
	}
	return l
}

// modelOf takes the numbers of a snapshot as they are, as far as they go.
func modelOf(l []int) *model {
	m := newModel(20)
	take := func() int {
		if len(l) == 0 {
			return 0
		}
		n := l[0]
		l = l[1:]
		return n
	}
	m.count, m.clock = take(), take()
	for i := range 8 {
		m.in[i], m.out[i] = take(), take()
	}
	for n := take(); n > 0 && len(l) > 0; n-- {
		number := take()
		m.holds[number] = api.Hold{Cell: take(), Count: take(), Time: take()}
	}
	for n := take(); n > 0 && len(l) > 0; n-- {
		r := api.Request{ID: take(), Kind: take(), Cell: take(), Hold: take(), Count: take(), Time: take()}
		m.past = append(m.past, asked{r, api.Reply{Code: take(), Count: take()}})
	}
	return m
}

// mayBe tells whether the model is some book.
func (m *model) mayBe() bool {
	good := m.count <= 1000000000 && m.clock <= 1000000000 && len(m.past) <= 20 && len(m.past) <= m.count
	for i := range 8 {
		good = good && m.in[i] <= 1000000000 && m.cell(i).Free >= 0
	}
	for n, h := range m.holds {
		good = good && requestMayBe(api.Request{ID: 1, Kind: 1, Hold: n, Cell: h.Cell, Count: h.Count, Time: h.Time}) && h.Time > m.clock
	}
	ids := map[int]bool{}
	for _, p := range m.past {
		good = good && requestMayBe(p.request) && !ids[p.request.ID]
		good = good && (p.reply.Code == 0 && p.reply.Count <= 1000000000 || p.reply == api.Reply{Code: 1})
		ids[p.request.ID] = true
	}
	return good
}

// numbersIn tells the numbers of four bytes each that a text begins with.
func numbersIn(text string) []int {
	var l []int
	for ; len(text) >= 4; text = text[4:] {
		l = append(l, int(text[0])+256*(int(text[1])+256*(int(text[2])+256*int(text[3]))))
	}
	return l
}

// openModel is P5 and P6: the model of the shop and where its log ends, or the error.
func openModel(files []api.File, c api.Config) (*model, int, api.Errno) {
	if c.Window < 1 || c.Window > 20 || c.Group < 1 || c.Group > 16 || c.Room < 100 || c.Room > 5000 {
		return nil, 0, 2
	}
	texts := map[string]string{}
	for _, f := range files {
		if _, twice := texts[f.Name]; twice || !slices.Contains([]string{"log", "snap", "tmp"}, f.Name) {
			return nil, 0, 3
		}
		texts[f.Name] = f.Data
	}
	m := newModel(20)
	if snap, there := texts["snap"]; there {
		m = modelOf(numbersIn(snap[min(4, len(snap)):]))
		if !m.mayBe() || snap != frameOf(fourOf(m.snapshot()...)) {
			return nil, 0, 4
		}
	}
	m.window = c.Window
	m.trim()
	return m, m.replay(texts["log"]), 0
}

// replay does the records of a log, and tells where it ends.
func (m *model) replay(log string) int {
	payloads, _ := scanOf(log)
	old, end := m.count, 0
	for i, p := range payloads {
		if len(p) != 28 {
			return end
		}
		l := numbersIn(p)
		if i == 0 && (l[0] < 1 || l[0] > old+1) || i > 0 && l[0] != numbersIn(payloads[i-1])[0]+1 || l[0] > 1000000000 {
			return end
		}
		if l[0] > old {
			r := api.Request{ID: l[1], Kind: l[2], Cell: l[3], Hold: l[4], Count: l[5], Time: l[6]}
			if _, done := m.ask(r); !done {
				return end
			}
		}
		end += 4 + len(p)
	}
	return end
}

// shopModel is P7, P8 and P10 to P12: a shop by the document's words. A snap that is empty is not there, nor a tmp of which nothing was written.
type shopModel struct {
	*model
	config         api.Config
	log, snap, tmp string // what was synced
	logWay, tmpWay string // what is under way
	armed          int    // the power goes when this has come down to 0
	gone           bool
}

// openShopModel tells the model of the shop of some files, which must be such as Open takes.
func openShopModel(t *testing.T, files []api.File, c api.Config) *shopModel {
	t.Helper()
	m, end, e := openModel(files, c)
	if e != api.OK {
		t.Fatalf("the model is not opened: error %d", e)
	}
	s := &shopModel{model: m, config: c}
	for _, f := range files {
		switch f.Name {
		case "log":
			s.log = f.Data[:end]
		case "snap":
			s.snap = f.Data
		}
	}
	return s
}

func (s *shopModel) arm(n int) {
	if !s.gone {
		s.armed = max(n, 0)
	}
}

// step counts a disk step, and tells whether the power stayed.
func (s *shopModel) step() bool {
	s.armed--
	s.gone = s.gone || s.armed == 0
	return !s.gone
}

func (s *shopModel) checkpoint() api.Errno {
	if s.gone {
		return 7
	}
	s.tmpWay = frameOf(fourOf(s.snapshot()...))
	for _, done := range []func(){
		func() {},
		func() { s.tmp, s.tmpWay = s.tmpWay, "" },
		func() { s.snap, s.tmp = s.tmp, "" },
		func() { s.log = "" },
	} {
		if !s.step() {
			return 7
		}
		done()
	}
	return 0
}

func (s *shopModel) left(keep int, junk string) []api.File {
	behind := func(synced, way string) string {
		if way == "" {
			return synced
		}
		return synced + way[:min(max(keep, 0), len(way))] + junk[:min(50, len(junk))]
	}
	files := []api.File{{Name: "log", Data: behind(s.log, s.logWay)}}
	if s.snap != "" {
		files = append(files, api.File{Name: "snap", Data: s.snap})
	}
	if s.tmp+s.tmpWay != "" {
		files = append(files, api.File{Name: "tmp", Data: behind(s.tmp, s.tmpWay)})
	}
	return files
}

func (m *model) clone() *model {
	c := *m
	c.holds, c.past = maps.Clone(m.holds), slices.Clone(m.past)
	return &c
}

// serve tells the replies, those of the groups ahead if the power goes or none if it is gone: the error is for the caller to tell.
func (s *shopModel) serve(l []api.Request) []api.Reply {
	var replies []api.Reply
	for len(l) > 0 && !s.gone {
		n := min(len(l), s.config.Group)
		replies = append(replies, s.serveGroup(l[:n])...)
		l = l[n:]
	}
	return replies
}

func (s *shopModel) serveGroup(group []api.Request) []api.Reply {
	after, records := s.model.clone(), ""
	replies := make([]api.Reply, len(group))
	for i, r := range group {
		var done bool
		if replies[i], done = after.ask(r); done {
			records += recordOf(after.count, r)
		}
	}
	if records == "" {
		return replies
	}
	if len(s.log+records) <= s.config.Room && after.count <= 1000000000 {
		s.logWay = records
		if !s.step() || !s.step() {
			return nil
		}
		s.model, s.log, s.logWay = after, s.log+records, ""
		return replies
	}
	for i, r := range group {
		var done bool
		if replies[i], done = s.model.clone().ask(r); done {
			replies[i] = api.Reply{Code: 3}
		}
	}
	return replies
}

// told is all that a shop tells.
type told struct {
	count, clock int
	cells        [8]api.Cell
	holds        [51]api.Hold
}

func (m *model) told() told {
	t := told{count: m.count, clock: m.clock}
	for i := range t.cells {
		t.cells[i] = m.cell(i)
	}
	for n, h := range m.holds {
		t.holds[n] = h
	}
	return t
}

// tell asks a shop for all that it tells, and holds the errors against P9 on the way.
func tell(t *testing.T, s *stockroom.Shop) told {
	t.Helper()
	var out told
	var e api.Errno
	if out.count, e = s.Count(); e != api.OK {
		t.Errorf("Count: error %d", e)
	}
	if out.clock, e = s.Clock(); e != api.OK {
		t.Errorf("Clock: error %d", e)
	}
	for i := range out.cells {
		if out.cells[i], e = s.Cell(i); e != api.OK {
			t.Errorf("Cell(%d): error %d", i, e)
		}
	}
	for h := 1; h <= 50; h++ {
		out.holds[h], e = s.Hold(h)
		if (e == api.ErrNone) != (out.holds[h] == api.Hold{}) || e != api.OK && e != api.ErrNone {
			t.Errorf("Hold(%d) = %v, %d", h, out.holds[h], e)
		}
	}
	return out
}

// String leaves out what is not there.
func (t told) String() string {
	s := fmt.Sprint(t.count, " done, clock ", t.clock)
	for i, c := range t.cells {
		if c != (api.Cell{}) {
			s += fmt.Sprintf(", cell %d: %d = %d held + %d gone + %d free", i, c.OnHand, c.Held, c.Committed, c.Free)
		}
	}
	for n, h := range t.holds {
		if h != (api.Hold{}) {
			s += fmt.Sprintf(", hold %d: %d of %d until %d", n, h.Count, h.Cell, h.Time)
		}
	}
	return s
}

// checkOpen holds Open against the model.
func checkOpen(t *testing.T, what string, files []api.File, c api.Config) {
	t.Helper()
	m, _, want := openModel(files, c)
	s, e := stockroom.Open(files, c)
	if e != want || (s == nil) != (e != api.OK) {
		t.Errorf("%s: Open = %v, %d, want error %d", what, s, e, want)
		return
	}
	if e != api.OK {
		return
	}
	if got := tell(t, s); got != m.told() {
		t.Errorf("%s:\nthe shop tells %v\nwant           %v", what, got, m.told())
	}
}

func mustOpen(t *testing.T, c api.Config, files ...api.File) *stockroom.Shop {
	t.Helper()
	s, e := stockroom.Open(files, c)
	if s == nil || e != api.OK {
		t.Fatalf("Open = %v, %d", s, e)
	}
	return s
}

// byOne tells numbers around and at each of some, in order.
func byOne(numbers ...int) []int {
	var l []int
	for _, n := range numbers {
		l = append(l, n-1, n, n+1)
	}
	slices.SortFunc(l, cmp.Compare)
	return slices.Compact(l)
}
