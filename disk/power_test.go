package disk

import (
	"fmt"
	"testing"
)

// allSteps takes the six disk steps, as Serve and Checkpoint do, as long as the power stays, and tells how many it took.
func allSteps(d *Disk) int {
	for i, step := range []func() bool{
		func() bool { return d.WriteLog("new") }, d.SyncLog,
		func() bool { return d.WriteTmp("young") }, d.SyncTmp, d.MakeSnap, d.EmptyLog,
	} {
		if !step() {
			return i
		}
	}
	return 6
}

// A step at which the power goes is not done, but the bytes of a write are under way.
func TestThePowerGoesAtEachStep(t *testing.T) {
	for _, x := range []struct {
		arm, took  int
		none, some string
	}{
		{1, 0, "log=old snap=elder", "log=oldne! snap=elder"},
		{2, 1, "log=old snap=elder", "log=oldne! snap=elder"},
		{3, 2, "log=oldnew snap=elder tmp=", "log=oldnew snap=elder tmp=yo!"},
		{4, 3, "log=oldnew snap=elder tmp=", "log=oldnew snap=elder tmp=yo!"},
		{5, 4, "log=oldnew snap=elder tmp=young", "log=oldnew snap=elder tmp=young"},
		{6, 5, "log=oldnew snap=young", "log=oldnew snap=young"},
		{7, 6, "log= snap=young", "log= snap=young"},
		{1<<63 - 1, 6, "log= snap=young", "log= snap=young"},
		{0, 6, "log= snap=young", "log= snap=young"},
		{-1, 6, "log= snap=young", "log= snap=young"},
		{-1 << 63, 6, "log= snap=young", "log= snap=young"},
	} {
		d := Of("old", "elder")
		d.Arm(x.arm)
		if n := allSteps(d); n != x.took {
			t.Errorf("Arm(%d): %d steps were done, want %d", x.arm, n, x.took)
		}
		if d.IsDown() != (x.took < 6) {
			t.Errorf("Arm(%d): behind %d steps IsDown is %v", x.arm, x.took, d.IsDown())
		}
		checkLeft(t, fmt.Sprint("Arm ", x.arm), d, 0, "", x.none)
		checkLeft(t, fmt.Sprint("Arm ", x.arm), d, 2, "!", x.some)
	}
}

func TestArmCountsAnew(t *testing.T) {
	for _, x := range []struct {
		what                 string
		first, steps, second int
		stays                int // so many more steps
	}{
		{"more", 1, 0, 3, 2}, {"less", 3, 0, 1, 0}, {"the same", 3, 2, 3, 2}, {"more behind a step", 2, 1, 5, 4},
		{"less behind a step", 5, 1, 2, 1}, {"none", 1, 0, 0, 9}, {"none behind a step", 2, 1, -1, 9}, {"behind none", 0, 4, 1, 0},
	} {
		p := on()
		p.Arm(x.first)
		for range x.steps {
			if !p.step() {
				t.Errorf("%s: the power went ahead of the second Arm", x.what)
			}
		}
		p.Arm(x.second)
		n := 0
		for n < 9 && p.step() {
			n++
		}
		if n != x.stays {
			t.Errorf("%s: the power stayed for %d steps, want %d", x.what, n, x.stays)
		}
	}
}

// The power does not come back, and does not go a second time.
func TestArmWithoutPower(t *testing.T) {
	p := on()
	if p.IsDown() {
		t.Error("the power is gone at the beginning")
	}
	p.Arm(1)
	if p.IsDown() {
		t.Error("the power is gone ahead of the step")
	}
	p.step()
	for _, n := range []int{-1 << 63, -1, 0, 1, 2, 1<<63 - 1} {
		before := p
		p.Arm(n)
		if p != before {
			t.Errorf("Arm(%d) changed something", n)
		}
		if p.step() || !p.IsDown() {
			t.Errorf("Arm(%d) brought the power back", n)
		}
	}
}

func TestDisksHaveTheirOwnPower(t *testing.T) {
	a, b := Of("", ""), Of("", "")
	a.Arm(1)
	a.WriteLog("x")
	if !a.IsDown() || b.IsDown() || allSteps(b) != 6 {
		t.Error("the power of one disk is that of another")
	}
}
