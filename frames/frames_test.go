package frames

import (
	"slices"
	"strings"
	"testing"
)

func payloads(text string) []string {
	var l []string
	for p := range All(text) {
		l = append(l, p)
	}
	return l
}

func TestOfHasTheWrittenBytes(t *testing.T) {
	for payload, want := range map[string]string{
		"":          "\x00\x00\x48\x0f",
		"a":         "\x01\x00\x7b\xc2a",
		"\x00":      "\x01\x00\x1a\xc2\x00",
		"\xff\xff":  "\x02\x00\x08\x20\xff\xff",
		"stockroom": "\x09\x00\xb6\xbdstockroom",
	} {
		if got := Of(payload); got != want {
			t.Errorf("Of(%q) = %x, want %x", payload, got, want)
		}
	}
}

func TestAllTellsPayloadsAndPlaces(t *testing.T) {
	var places []int
	var got []string
	for p, behind := range All(Of("one") + Of("") + Of("three") + "rest") {
		got = append(got, p)
		places = append(places, behind)
	}
	if !slices.Equal(got, []string{"one", "", "three"}) || !slices.Equal(places, []int{7, 11, 20}) {
		t.Errorf("All = %q, %d", got, places)
	}
}

func TestAllStopsAtTheFirstThatIsNone(t *testing.T) {
	whole := Of("two")
	torn := whole[:len(whole)-1] + "x"
	if got := payloads(Of("one") + torn + Of("three")); !slices.Equal(got, []string{"one"}) {
		t.Errorf("All went on behind what is no frame: %q", got)
	}
}

func TestAllEndsWhenTheLoopDoes(t *testing.T) {
	calls := 0
	All(strings.Repeat(Of("a"), 5))(func(string, int) bool {
		calls++
		return calls < 2
	})
	if calls != 2 {
		t.Errorf("yield was called %d times, want 2", calls)
	}
}

func TestAllBeginsAnewEachTime(t *testing.T) {
	frames := All(Of("one") + Of("two"))
	for range 2 {
		n := 0
		for range frames {
			n++
		}
		if n != 2 {
			t.Errorf("gone through %d frames, want 2", n)
		}
	}
}

func TestOnlyTakesOneFrameAndNothingElse(t *testing.T) {
	for _, payload := range []string{"", "a", strings.Repeat("z", 4000)} {
		if got, ok := Only(Of(payload)); got != payload || !ok {
			t.Errorf("Only of the frame of %.20q = %.20q, %t", payload, got, ok)
		}
		whole := Of(payload)
		for _, text := range []string{whole + "x", whole + "\x00", whole + whole, whole + Of(""), whole[:len(whole)-1], "x" + whole} {
			if got, ok := Only(text); got != "" || ok {
				t.Errorf("Only(%.20x) = %.20q, %t", text, got, ok)
			}
		}
	}
	if got, ok := Only(""); got != "" || ok {
		t.Errorf("Only of nothing = %q, %t", got, ok)
	}
}
