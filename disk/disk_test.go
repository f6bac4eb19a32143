package disk

import (
	"fmt"
	"slices"
	"strings"
	"testing"
	"unsafe"

	"stockroom/api"
)

// tellFiles writes files as "log=ab snap=c".
func tellFiles(l []api.File) string {
	var words []string
	for _, f := range l {
		words = append(words, f.Name+"="+f.Data)
	}
	return strings.Join(words, " ")
}

func checkLeft(t *testing.T, what string, d *Disk, keep int, junk, want string) {
	t.Helper()
	if got := tellFiles(d.Left(keep, junk)); got != want {
		t.Errorf("%s: Left(%d, %q) = %s, want %s", what, keep, junk, got, want)
	}
}

// Each disk step of Serve and Checkpoint, one behind the other; keep and junk show only where bytes are under way.
func TestSteps(t *testing.T) {
	d := Of("old", "elder")
	for _, x := range []struct {
		what             string
		step             func() bool
		none, some, more string
	}{
		{"opened", func() bool { return true }, "log=old snap=elder", "log=old snap=elder", "log=old snap=elder"},
		{"the log written", func() bool { return d.WriteLog("new") }, "log=old snap=elder", "log=oldn! snap=elder", "log=oldnew! snap=elder"},
		{"more of it written", func() bool { return d.WriteLog("er") }, "log=old snap=elder", "log=oldn! snap=elder", "log=oldnewer! snap=elder"},
		{"the log synced", d.SyncLog, "log=oldnewer snap=elder", "log=oldnewer snap=elder", "log=oldnewer snap=elder"},
		{"the log synced again", d.SyncLog, "log=oldnewer snap=elder", "log=oldnewer snap=elder", "log=oldnewer snap=elder"},
		{"the tmp written", func() bool { return d.WriteTmp("young") }, "log=oldnewer snap=elder tmp=", "log=oldnewer snap=elder tmp=y!", "log=oldnewer snap=elder tmp=young!"},
		{"the tmp synced", d.SyncTmp, "log=oldnewer snap=elder tmp=young", "log=oldnewer snap=elder tmp=young", "log=oldnewer snap=elder tmp=young"},
		{"made the snap", d.MakeSnap, "log=oldnewer snap=young", "log=oldnewer snap=young", "log=oldnewer snap=young"},
		{"the log emptied", d.EmptyLog, "log= snap=young", "log= snap=young", "log= snap=young"},
		{"the log written anew", func() bool { return d.WriteLog("x") }, "log= snap=young", "log=x! snap=young", "log=x! snap=young"},
	} {
		if !x.step() {
			t.Errorf("%s: the power went", x.what)
		}
		checkLeft(t, x.what, d, 0, "", x.none)
		checkLeft(t, x.what, d, 1, "!", x.some)
		checkLeft(t, x.what, d, 1000, "!", x.more)
	}
}

func TestWhatIsThere(t *testing.T) {
	for _, x := range []struct{ log, snap, want string }{
		{"", "", "log="}, {"a", "", "log=a"}, {"", "b", "log= snap=b"}, {"a", "b", "log=a snap=b"},
	} {
		d := Of(x.log, x.snap)
		checkLeft(t, "opened", d, 9, "junk", x.want)
		d.WriteTmp("c")
		checkLeft(t, "with a tmp", d, 0, "", x.want+" tmp=")
	}
	d := Of("", "")
	d.WriteTmp("c")
	d.SyncTmp()
	d.MakeSnap()
	checkLeft(t, "the first snap", d, 9, "junk", "log= snap=c")
}

func TestLeftKeepsTheFirstBytes(t *testing.T) {
	for _, x := range []struct {
		keep int
		want string
	}{{-1 << 63, ""}, {-1, ""}, {0, ""}, {1, "u"}, {2, "un"}, {5, "under"}, {6, "under "}, {8, "under wa"}, {9, "under way"}, {10, "under way"}, {1<<63 - 1, "under way"}} {
		for _, old := range []string{"", "old"} {
			for _, junk := range []string{"", "x", "junk"} {
				d := Of(old, "snap")
				d.WriteLog("under way")
				checkLeft(t, "the log", d, x.keep, junk, "log="+old+x.want+junk+" snap=snap")
				d = Of(old, "snap")
				d.WriteTmp("under way")
				checkLeft(t, "the tmp", d, x.keep, junk, "log="+old+" snap=snap tmp="+x.want+junk)
			}
		}
	}
}

func TestLeftTakesTheFirstBytesOfTheJunk(t *testing.T) {
	long := strings.Repeat("0123456789", 1000)
	for _, n := range []int{0, 1, 49, 50, 51, 100, 10000} {
		d := Of("old", "")
		d.WriteLog("new")
		checkLeft(t, fmt.Sprint(n, " bytes of junk"), d, 2, long[:n], "log=oldne"+long[:min(n, 50)])
		d.SyncLog()
		checkLeft(t, fmt.Sprint(n, " bytes of junk, none under way"), d, 2, long[:n], "log=oldnew")
	}
}

func TestLeftChangesNothing(t *testing.T) {
	d := Of("old", "elder")
	d.WriteLog("new")
	d.WriteTmp("young")
	before := *d
	for _, keep := range []int{-1, 0, 2, 99} {
		l := d.Left(keep, "junk")
		for i := range l[:cap(l)] {
			l[:cap(l)][i] = api.File{Name: "x", Data: "x"}
		}
	}
	if *d != before {
		t.Error("Left, or what was written into its answer, changed the disk")
	}
	checkLeft(t, "later", d, 1, "", "log=oldn snap=elder tmp=y")
}

func TestLogLength(t *testing.T) {
	d := Of("old", "elder")
	check := func(want int) {
		t.Helper()
		if n := d.LogLength(); n != want {
			t.Errorf("the log has %d bytes, want %d", n, want)
		}
	}
	check(3)
	d.WriteLog("newer")
	check(8)
	d.SyncLog()
	check(8)
	d.WriteLog("x")
	check(9)
	d.WriteTmp("young")
	check(9)
	d.MakeSnap()
	check(9)
	d.EmptyLog()
	check(0)
	d.WriteLog("y")
	check(1)
}

// textOf tells a text whose bytes may be changed later.
func textOf(b []byte) string { return unsafe.String(&b[0], len(b)) }

func TestKeepsNoMemoryHandedIn(t *testing.T) {
	log, snap := []byte("old"), []byte("elder")
	d := Of(textOf(log), textOf(snap))
	clear(log)
	clear(snap)
	checkLeft(t, "opened", d, 0, "", "log=old snap=elder")
}

// The junk alone, what is kept alone, and what was synced alone are joined to nothing; the answer is a copy all the same.
func TestLeftAnswersNewMemory(t *testing.T) {
	for _, old := range []string{"", "old"} {
		for _, keep := range []int{0, 2, 9} {
			for _, written := range []string{"", "new"} {
				junk := []byte("junk")
				d := Of(old, "elder")
				d.WriteLog(written)
				first, second := d.Left(keep, textOf(junk)), d.Left(keep, textOf(junk))
				want := tellFiles(second)
				for i, f := range first {
					if f.Data != "" && unsafe.StringData(f.Data) == unsafe.StringData(second[i].Data) {
						t.Errorf("two answers share the %s: keep %d of %q behind %q", f.Name, keep, written, old)
					}
					clear(unsafe.Slice(unsafe.StringData(f.Data), len(f.Data)))
				}
				clear(junk)
				if got := tellFiles(second); got != want {
					t.Errorf("an answer changed from %s to %s", want, got)
				}
				checkLeft(t, "later", d, keep, "junk", want)
			}
		}
	}
}

func TestFilesStandByName(t *testing.T) {
	d := Of("z", "y")
	d.WriteTmp("x")
	var names []string
	for _, f := range d.Left(9, "") {
		names = append(names, f.Name)
	}
	if !slices.Equal(names, []string{"log", "snap", "tmp"}) {
		t.Errorf("the files stand as %v", names)
	}
}
