package link_test

import (
	"bytes"
	"slices"
	"testing"

	"bosun/api"
	"bosun/bank"
	"bosun/crc"
	"bosun/flash"
	"bosun/link"
	"bosun/opcode"
	"bosun/record"
	"bosun/settings"
	"bosun/slip"
	"bosun/testkit"
)

type fault = link.Fault

var (
	signer = testkit.NewSigner([32]byte{23})
	image  = testkit.Sample(3000, 1)
	init0  = signer.Init(image, 7)
)

func erased(t *testing.T) *flash.Flash {
	t.Helper()
	f, e := flash.New(34)
	if e != api.OK {
		t.Fatal(e)
	}
	return f
}

func made(t *testing.T, f *flash.Flash, faults ...fault) *link.Line {
	t.Helper()
	l, e := link.New(f, signer.Limits(), init0, image, faults...)
	if l == nil || e != api.OK {
		t.Fatal("New:", e)
	}
	return l
}

// at is a fault behind n bytes without one.
func at(n int, f fault) []fault {
	return append(make([]fault, n), f)
}

// runs lets a line run, and holds it against how often it turned.
func runs(t *testing.T, what string, l *link.Line, turns int) {
	t.Helper()
	if got, n := l.Run(100); !bytes.Equal(got, image) || n != turns {
		t.Errorf("%s: %d bytes, %d turns, want %d", what, len(got), n, turns)
	}
}

// P23.1
func TestNew(t *testing.T) {
	small, _ := flash.New(33)
	for _, c := range []struct {
		f           *flash.Flash
		init, image []byte
	}{{erased(t), nil, image}, {erased(t), init0, nil}, {erased(t), make([]byte, 129), image}, {erased(t), init0, make([]byte, 4097)}, {nil, init0, image}, {small, init0, image}} {
		if l, e := link.New(c.f, signer.Limits(), c.init, c.image); l != nil || e != api.ErrArg {
			t.Error(l, e)
		}
	}
	f := erased(t)
	f.Fail(0, 0)
	f.Erase(0)
	if l, e := link.New(f, signer.Limits(), nil, image); l != nil || e != api.ErrArg || !f.Off() {
		t.Error("a device was started without an uploader:", l, e)
	}
	if l := made(t, f); f.Off() || l.Left() != 0 {
		t.Error("no device was started:", l.Left())
	}
}

// P23.1
func TestRun(t *testing.T) {
	l := made(t, erased(t))
	for _, most := range []int{-1, 0} {
		if got, n := l.Run(most); got != nil || n != 0 {
			t.Error(len(got), n)
		}
	}
	if got, n := l.Run(3); got != nil || n != 3 {
		t.Error(len(got), n)
	}
	l.Turn()
	if got, n := l.Run(4); got != nil || n != 8 {
		t.Error(len(got), n)
	}
	runs(t, "the ninth turn", l, 9)
	runs(t, "no turn more", l, 9)
	got, _ := l.Run(0)
	got[0] ^= 1
	runs(t, "another result", l, 9)
	l.Turn()
	runs(t, "a turn while it runs", l, 10)
}

// P23.1: with entry, the image that is there is not run, but behind many ticks.
func TestEntry(t *testing.T) {
	old := testkit.Sample(300, 2)
	f := erased(t)
	bank.Bank{Flash: f, First: 2}.Write(0, old)
	settings.Save(f, record.Record{Bytes: 300, Sum: crc.Sum(old)})
	l := made(t, f, fault{Kind: link.Reset})
	if got, _ := l.Run(1); got != nil {
		t.Error("an image is run behind a reset")
	}
	runs(t, "the new image", l, 9)
	l, _ = link.New(f, signer.Limits(), []byte{1}, old) // an uploader whose packet is refused
	if got, n := l.Run(49); got != nil || n != 49 {
		t.Error(len(got), n)
	}
}

// P23.1: both tick once a turn.
func TestTicks(t *testing.T) {
	old := testkit.Sample(300, 2)
	f := erased(t)
	bank.Bank{Flash: f, First: 2}.Write(0, old)
	settings.Save(f, record.Record{Bytes: 300, Sum: crc.Sum(old)})
	lost := slices.Repeat([]fault{{Kind: link.Drop}}, 7*7) // seven greetings, one each eight turns
	l := made(t, f, lost...)
	if got, n := l.Run(49); got != nil || n != 49 || l.Left() != 0 {
		t.Error(len(got), n, l.Left())
	}
	if got, n := l.Run(1); !bytes.Equal(got, old) || n != 50 {
		t.Error(len(got), n)
	}
}

// P23.1: the first turn has 7 bytes to the device, and 4 and 16 to the uploader.
func TestLeft(t *testing.T) {
	l := made(t, erased(t), make([]fault, 1000)...)
	if l.Left() != 1000 {
		t.Error(l.Left())
	}
	l.Turn()
	if l.Left() != 1000-27 {
		t.Error(l.Left())
	}
	runs(t, "without any effect", l, 9)
	if l.Left() != 0 {
		t.Error(l.Left())
	}
	given := []fault{{Kind: link.Drop}, {Kind: link.Drop}}
	l = made(t, erased(t), given...)
	given[0], given[1] = fault{}, fault{}
	runs(t, "Drop of two bytes", l, 9) // of Receipt, which is refused then
	if l.Left() != 0 {
		t.Error(l.Left())
	}
}

// P23.1: the first turn is 2 0 0 192 6 1 192, and its responses; each fault costs as many turns as the protocol needs.
func TestFaults(t *testing.T) {
	drop := fault{Kind: link.Drop, Value: 255, Steps: 9}
	for _, c := range []struct {
		what   string
		faults []fault
		turns  int
	}{
		{"none", nil, 9},
		{"other kinds", []fault{{Kind: 6, Value: 255}, {Kind: 255, Value: 255}, {Kind: link.None, Value: 255, Steps: 9}}, 9},
		{"Drop of the greeting", slices.Repeat([]fault{drop}, 7), 17},
		{"Drop of the response", append(make([]fault, 7), slices.Repeat([]fault{drop}, 20)...), 17},
		{"Drop of the end of Receipt", at(3, drop), 10},
		{"Drop of the end of Select", at(6, drop), 17},
		{"Change of Select to Ping", at(4, fault{Kind: link.Change, Value: 6 ^ 9}), 17},
		{"Change of nothing", at(4, fault{Kind: link.Change}), 9},
		{"Change of Select to what there is not", at(4, fault{Kind: link.Change, Value: 6 ^ 15}), 10},
		{"Change of the response's Success", at(7+4+2, fault{Kind: link.Change, Value: 1 ^ 8}), 10},
		{"Change of the response's Op", at(7+4+1, fault{Kind: link.Change, Value: 2}), 17},
		{"Double of an end", at(6, fault{Kind: link.Double}), 9},
		{"Double of a request's type", at(5, fault{Kind: link.Double}), 10},
		{"Double of the response's begin", at(7+4, fault{Kind: link.Double}), 10},
		{"Reset between requests", at(4, fault{Kind: link.Reset}), 9},
		{"Reset in a request", at(5, fault{Kind: link.Reset}), 10},
		{"Reset in a response", at(7+4+3, fault{Kind: link.Reset}), 9},
	} {
		l := made(t, erased(t), c.faults...)
		runs(t, c.what, l, c.turns)
		if l.Left() != 0 {
			t.Error(c.what, l.Left())
		}
	}
}

// P23.1
func TestKill(t *testing.T) {
	for _, c := range []struct{ steps, done int }{{0, 0}, {-7, 0}, {3, 3}, {50, 50}} {
		f := erased(t)
		l := made(t, f, fault{Kind: link.Kill, Value: 0x0f, Steps: c.steps})
		if l.Turn(); f.Off() {
			t.Error("the power failed without a step")
		}
		if l.Turn(); !f.Off() || f.Steps() != c.done {
			t.Error(c.steps, f.Off(), f.Steps())
		}
		if c.steps <= 0 { // the first step programs a word with 0
			f.Power()
			if b, _ := f.Read(0, 5); !bytes.Equal(b, []byte{0xf0, 0xf0, 0xf0, 0xf0, 0xff}) {
				t.Error(b)
			}
		}
	}
	f := erased(t)
	l := made(t, f, fault{Kind: link.Kill})
	l.Run(2)
	if l.Turn(); f.Off() {
		t.Error("a device that is Off is not reset")
	}
	runs(t, "Kill", l, 17)
}

// P23.1: the power fails before the very byte arrives that ends Execute.
func TestKillAheadOfItsByte(t *testing.T) {
	probe := made(t, erased(t), make([]fault, 5000)...)
	probe.Run(2)
	sum := append([]byte{96, 3, 1}, opcode.Numbers(uint32(len(init0)), crc.Sum(init0))...)
	answered := len(slip.Encode([]byte{96, 1, 1}, sum, []byte{96, 4, 1}))
	end := 5000 - probe.Left() - answered - 1 // where in all bytes of two turns
	for _, c := range []struct{ at, steps int }{{end, 0}, {end + 1, 100}} {
		f := erased(t)
		l := made(t, f, at(c.at, fault{Kind: link.Kill})...)
		l.Run(2)
		if l.Left() != 0 || f.Steps() != c.steps || f.Off() != (c.steps == 0) {
			t.Error(c.at, l.Left(), f.Steps(), f.Off())
		}
	}
}

// P23.1
func TestNil(t *testing.T) {
	var l *link.Line
	l.Turn()
	if got, n := l.Run(5); got != nil || n != 0 || l.Left() != 0 {
		t.Error(got, n)
	}
}

// P23.2: many lists of faults; once they are over, the image is run.
func TestArrives(t *testing.T) {
	seed := uint32(1)
	random := func(n int) int {
		seed = seed*1664525 + 1013904223
		return int(seed>>8) % n
	}
	for range 60 {
		rare := 1 + random(200)
		var faults []fault
		for range 200 + random(6000) {
			x := fault{Kind: byte(random(6)), Value: byte(random(256)), Steps: random(700)}
			if random(rare) > 0 {
				x = fault{}
			}
			faults = append(faults, x)
		}
		l := made(t, erased(t), faults...)
		for l.Left() > 0 {
			got, _ := l.Run(0)
			if got != nil {
				break
			}
			l.Turn()
		}
		l.Power() // no power failure is armed any more
		_, before := l.Run(0)
		if got, n := l.Run(100); !bytes.Equal(got, image) || n > before+100 {
			t.Error("not within 100 turns:", len(got), n-before)
		}
	}
}
