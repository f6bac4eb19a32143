package stockroom_test

import (
	"fmt"
	"math/rand"
	"slices"
	"strings"
	"sync"
	"testing"
	"unsafe"

	"stockroom/api"
	"stockroom/stockroom"
)

// sumOf, twoOf and frameOf say by the document's words what the program should answer.
func sumOf(text string) int {
	s := 1
	for _, b := range []byte(text) {
		s = (s*263 + int(b) + 1) % 65521
	}
	return s
}

func twoOf(n int) string { return string([]byte{byte(n % 256), byte(n / 256)}) }

func frameOf(payload string) string {
	length := twoOf(len(payload))
	return length + twoOf(sumOf(length+payload)) + payload
}

// scanOf looks at each place for a payload, of any length, whose frame stands there: slow, but without the program's shortcuts.
func scanOf(text string) ([]string, int) {
	var l []string
	at := 0
next:
	for {
		for n := 0; n <= 4000 && at+4+n <= len(text); n++ {
			payload := text[at+4 : at+4+n]
			if text[at:at+2] == twoOf(n) && text[at:at+4+n] == frameOf(payload) {
				l = append(l, payload)
				at += 4 + n
				continue next
			}
		}
		return l, at
	}
}

func checkScan(t *testing.T, text string, want []string, wantEnd int) {
	t.Helper()
	l, end := stockroom.Scan(text)
	if !slices.Equal(l, want) || end != wantEnd {
		t.Errorf("Scan(%.40x, %d bytes) = %.60q, %d, want %.60q, %d", text, len(text), l, end, want, wantEnd)
	}
}

func mustFrame(t *testing.T, payload string) string {
	t.Helper()
	f, e := stockroom.Frame(payload)
	if e != api.OK {
		t.Fatalf("Frame of %d bytes: error %d", len(payload), e)
	}
	return f
}

// P3.

func TestFrameHasTheWrittenBytes(t *testing.T) {
	for _, x := range []struct{ payload, want string }{
		{"", "\x00\x00\x48\x0f"},
		{"a", "\x01\x00\x7b\xc2a"},
		{"\x00", "\x01\x00\x1a\xc2\x00"},
		{"\xff\xff", "\x02\x00\x08\x20\xff\xff"},
		{"stockroom", "\x09\x00\xb6\xbdstockroom"},
		{strings.Repeat("z", 3999), "\x9f\x0f\x76\xb8" + strings.Repeat("z", 3999)},
		{strings.Repeat("z", 4000), "\xa0\x0f\x6b\x95" + strings.Repeat("z", 4000)},
	} {
		if f := mustFrame(t, x.payload); f != x.want {
			t.Errorf("Frame(%.20q) = %.40x, want %.40x", x.payload, f, x.want)
		}
	}
}

func TestFrameOfEveryLength(t *testing.T) {
	r := rand.New(rand.NewSource(1))
	b := make([]byte, 4000)
	r.Read(b)
	for n := range 4001 {
		payload := string(b[:n])
		if f := mustFrame(t, payload); f != frameOf(payload) {
			t.Fatalf("Frame of %d bytes is not its frame", n)
		}
	}
}

func TestFrameTooLong(t *testing.T) {
	for _, n := range []int{4001, 4002, 65535, 65536, 65536 + 4000, 5000000} {
		for _, b := range []string{"\x00", "z", "\xff"} {
			if f, e := stockroom.Frame(strings.Repeat(b, n)); f != "" || e != api.ErrLong {
				t.Errorf("Frame of %d bytes = %.20x, %d", n, f, e)
			}
		}
	}
}

// P4.

func TestScanOfNoFrame(t *testing.T) {
	for _, text := range []string{
		"", "\x00", "\x00\x00", "\x00\x00\x48", "x", "no frame at all",
		"\x00\x00\x00\x00", strings.Repeat("\x00", 5000), strings.Repeat("\xff", 70000),
		"x" + frameOf("one"), "\x0f\x48\x00\x00", "\x00\x00\x0f\x48",
	} {
		checkScan(t, text, nil, 0)
	}
}

func TestScanOfManyFrames(t *testing.T) {
	want := []string{"", "a", strings.Repeat("z", 4000), "", "", "\x00\x00\x48\x0f", frameOf("inner"), "\xff"}
	text := ""
	for _, p := range want {
		text += mustFrame(t, p)
	}
	checkScan(t, text, want, len(text))
	for _, tail := range []string{"\x00", "\x00\x00\x48", "rest", strings.Repeat("\xff", 9000)} {
		checkScan(t, text+tail, want, len(text))
	}
	l, end := stockroom.Scan(strings.Repeat(frameOf("ab"), 200000))
	if len(l) != 200000 || end != 1200000 || l[0] != "ab" || l[199999] != "ab" {
		t.Errorf("Scan of 200000 frames: %d, %d", len(l), end)
	}
}

func TestScanOfTextsThatEndWithinAFrame(t *testing.T) {
	want := []string{"one", "", "two", strings.Repeat("q", 300)}
	text := ""
	ends := []int{0}
	for _, p := range want {
		text += frameOf(p)
		ends = append(ends, len(text))
	}
	whole := 0
	for n := range len(text) + 1 {
		if whole < len(want) && n == ends[whole+1] {
			whole++
		}
		checkScan(t, text[:n], want[:whole], ends[whole])
	}
	longest := frameOf(strings.Repeat("z", 4000))
	checkScan(t, longest[:4003], nil, 0)
	checkScan(t, longest, []string{strings.Repeat("z", 4000)}, 4004)
}

func TestScanOfAnotherSum(t *testing.T) {
	first, last := frameOf("one"), frameOf("three")
	for sum := range 65536 {
		middle := twoOf(3) + twoOf(sum) + "two"
		if middle == frameOf("two") {
			checkScan(t, first+middle+last, []string{"one", "two", "three"}, len(first+middle+last))
		} else {
			checkScan(t, first+middle+last, []string{"one"}, len(first))
		}
	}
}

func TestScanOfAChangedByte(t *testing.T) {
	head := frameOf("head")
	middle := frameOf("some payload")
	for i := range middle {
		for change := 1; change < 256; change++ {
			b := []byte(middle)
			b[i] ^= byte(change)
			text := head + string(b) + frameOf("tail")
			want, end := scanOf(text)
			if len(want) != 1 {
				t.Fatalf("byte %d changed by %d: the text has %d frames", i, change, len(want))
			}
			checkScan(t, text, want, end)
		}
	}
}

// The sum is below Prime, so one that is greater by Prime, though it fits two bytes, is another sum.
func TestScanOfASumAbovePrime(t *testing.T) {
	for i := range 1 << 24 {
		payload := string([]byte{byte(i), byte(i >> 8), byte(i >> 16)})
		s := sumOf(twoOf(3) + payload)
		if s+65521 > 65535 {
			continue
		}
		checkScan(t, twoOf(3)+twoOf(s)+payload, []string{payload}, 7)
		checkScan(t, twoOf(3)+twoOf(s+65521)+payload, nil, 0)
		return
	}
	t.Fatal("no payload has a sum so small")
}

func TestScanOfALengthAboveTheBound(t *testing.T) {
	head := frameOf("head")
	for _, n := range []int{4001, 4002, 4096, 32768, 65535} {
		text := head + frameOf(strings.Repeat("z", n)) + frameOf("tail")
		checkScan(t, text, []string{"head"}, len(head))
		checkScan(t, text[len(head):], nil, 0)
	}
}

func TestScanOfMixedTexts(t *testing.T) {
	r := rand.New(rand.NewSource(2))
	for range 3000 {
		text := mixedText(r)
		want, end := scanOf(text)
		checkScan(t, text, want, end)
	}
}

// mixedText joins frames, torn frames and junk.
func mixedText(r *rand.Rand) string {
	text := ""
	for range r.Intn(6) {
		payload := make([]byte, r.Intn(12))
		r.Read(payload)
		f := frameOf(string(payload))
		switch r.Intn(6) {
		case 0:
			f = f[:r.Intn(len(f))]
		case 1:
			f = string(payload)
		}
		text += f
	}
	return text
}

// P1.

func TestFramesNeverPanic(t *testing.T) {
	for i := range 1 << 16 {
		two := twoOf(i)
		for _, text := range []string{two[:1], two, two + "\x00", two + "\x48\x0f", two + "\x00\x00\x00"} {
			l, end := stockroom.Scan(text)
			if len(l) == 0 && end != 0 || end > len(text) {
				t.Fatalf("Scan(%x) = %q, %d", text, l, end)
			}
			if f, e := stockroom.Frame(text); e != api.OK || len(f) != 4+len(text) {
				t.Fatalf("Frame(%x) = %x, %d", text, f, e)
			}
		}
	}
}

func TestFramesOfVeryLongTexts(t *testing.T) {
	for _, b := range []string{"\x00", "\x01", "\x0f", "\xff"} {
		text := strings.Repeat(b, 20000000)
		if f, e := stockroom.Frame(text); f != "" || e != api.ErrLong {
			t.Errorf("Frame of a long text of %x = %.20x, %d", b, f, e)
		}
		checkScan(t, text, nil, 0)
	}
}

// P2.

// within tells whether a text's bytes lie in the memory of another.
func within(part, whole string) bool {
	if part == "" || whole == "" {
		return false
	}
	p, w := uintptr(unsafe.Pointer(unsafe.StringData(part))), uintptr(unsafe.Pointer(unsafe.StringData(whole)))
	return p >= w && p < w+uintptr(len(whole))
}

func TestFramesAnswerNewMemory(t *testing.T) {
	payload := strings.Repeat("p", 100)
	frame := mustFrame(t, payload)
	if within(payload, frame) || within(frame, payload) {
		t.Error("Frame's answer shares memory with the payload")
	}
	text := strings.Repeat(frame, 3)
	l, _ := stockroom.Scan(text)
	for i, p := range l {
		if within(p, text) {
			t.Errorf("Scan's payload %d shares memory with the text", i)
		}
	}
}

func TestScanKeepsNothingOfBytesThatChangeLater(t *testing.T) {
	b := []byte(frameOf("one") + frameOf("two"))
	l, _ := stockroom.Scan(unsafe.String(&b[0], len(b)))
	clear(b)
	if !slices.Equal(l, []string{"one", "two"}) {
		t.Errorf("the answer changed with the text's bytes: %q", l)
	}
}

func TestScanAnswersAreTheCallers(t *testing.T) {
	text := frameOf("one") + frameOf("two") + frameOf("three")
	want := []string{"one", "two", "three"}
	first, _ := stockroom.Scan(text)
	second, _ := stockroom.Scan(text)
	for i := range first[:cap(first)] {
		first[:cap(first)][i] = "written over"
	}
	if !slices.Equal(second, want) {
		t.Errorf("writing into one answer changed another: %q", second)
	}
	for i := range second[len(second):cap(second)] {
		if s := second[:cap(second)][len(second)+i]; s != "" {
			t.Errorf("spare room holds %q", s)
		}
	}
	checkScan(t, text, want, len(text))
}

func TestFramesAskedAtTheSameTime(t *testing.T) {
	var all sync.WaitGroup
	for i := range 8 {
		all.Go(func() {
			payload := strings.Repeat(string(rune('a'+i)), 10*i)
			for range 200 {
				f, e := stockroom.Frame(payload)
				l, end := stockroom.Scan(f + f)
				if e != api.OK || f != frameOf(payload) || !slices.Equal(l, []string{payload, payload}) || end != 2*len(f) {
					t.Errorf("Frame and Scan of %q: %x, %d, %q, %d", payload, f, e, l, end)
				}
			}
		})
	}
	all.Wait()
}

func ExampleFrame() {
	f, e := stockroom.Frame("")
	fmt.Printf("% x %d\n", f, e)
	// Output: 00 00 48 0f 0
}

func ExampleScan() {
	one, _ := stockroom.Frame("one")
	two, _ := stockroom.Frame("two")
	payloads, end := stockroom.Scan(one + two + "torn")
	fmt.Println(payloads, end)
	// Output: [one two] 14
}
