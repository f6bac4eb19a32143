package stockroom

import (
	"strings"
	"testing"
	"unsafe"

	"stockroom/api"
	"stockroom/frames"
)

// record is the frame of a record: seven numbers below 256.
func record(numbers ...byte) string {
	var b []byte
	for _, n := range numbers {
		b = append(b, n, 0, 0, 0)
	}
	return frames.Of(string(b))
}

func open(t *testing.T, files ...api.File) *Shop {
	t.Helper()
	s, e := Open(files, api.Config{Window: 20, Group: 16, Room: 5000})
	if s == nil || e != api.OK {
		t.Fatalf("Open = %v, %d", s, e)
	}
	return s
}

// P9: without power every question has this answer, whatever else it would have.
func TestQuestionsWithoutPower(t *testing.T) {
	s := open(t, api.File{Name: "log", Data: record(1, 1, 0, 0, 0, 5, 0) + record(2, 2, 1, 0, 7, 3, 10) + record(3, 3, 4, 0, 0, 0, 4)})
	close(s.gone)
	for _, i := range []int{-1, 0, 7, 8} {
		if c, e := s.Cell(i); c != (api.Cell{}) || e != api.ErrDown {
			t.Errorf("Cell(%d) = %v, %d", i, c, e)
		}
	}
	for _, h := range []int{0, 1, 7, 50, 51} {
		if x, e := s.Hold(h); x != (api.Hold{}) || e != api.ErrDown {
			t.Errorf("Hold(%d) = %v, %d", h, x, e)
		}
	}
	if n, e := s.Clock(); n != 0 || e != api.ErrDown {
		t.Errorf("Clock = %d, %d", n, e)
	}
	if n, e := s.Count(); n != 0 || e != api.ErrDown {
		t.Errorf("Count = %d, %d", n, e)
	}
}

// P6: what stands behind the log's end is cut off at once.
func TestOpenCutsTheLogOff(t *testing.T) {
	one, two := record(1, 1, 0, 0, 0, 5, 0), record(2, 2, 1, 0, 7, 3, 10)
	for _, x := range []struct{ log, want string }{
		{"", ""}, {"junk", ""}, {one, one}, {one + two, one + two},
		{one + two[:31], one}, {one + "junk" + two, one}, {two, ""}, {one + two + two, one + two},
		{one + frames.Of("no record") + two, one}, {one + record(2, 2, 1, 8, 7, 3, 10) + two, one},
	} {
		s := open(t, api.File{Name: "log", Data: x.log}, api.File{Name: "tmp", Data: one})
		if s.log != x.want || s.snap != "" {
			t.Errorf("of the log %x is left %x, want %x", x.log, s.log, x.want)
		}
	}
}

// P6: records that the snapshot's book has done are passed over, but stay in the log.
func TestOpenKeepsWhatIsPassedOver(t *testing.T) {
	snap := frames.Of("\x02\x00\x00\x00" + strings.Repeat("\x00", 76))
	log := record(1, 9, 9, 9, 9, 9, 9) + record(2, 0, 0, 0, 0, 0, 0)
	s := open(t, api.File{Name: "snap", Data: snap}, api.File{Name: "log", Data: log + record(4, 1, 4, 0, 0, 0, 1)})
	if s.log != log || s.snap != snap {
		t.Errorf("left are the log %x and the snap %x", s.log, s.snap)
	}
}

// P2: the shop's files are copies.
func TestOpenKeepsNoMemoryHandedIn(t *testing.T) {
	log := strings.Clone(record(1, 1, 0, 0, 0, 5, 0))
	snap := frames.Of(strings.Repeat("\x00", 80))
	s := open(t, api.File{Name: "log", Data: log}, api.File{Name: "snap", Data: snap})
	if s.log != log || unsafe.StringData(s.log) == unsafe.StringData(log) {
		t.Error("the log is not a copy of what was handed in")
	}
	if s.snap != snap || unsafe.StringData(s.snap) == unsafe.StringData(snap) {
		t.Error("the snap is not a copy of what was handed in")
	}
}
