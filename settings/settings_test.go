package settings_test

import (
	"bytes"
	"slices"
	"testing"

	"bosun/api"
	"bosun/flash"
	"bosun/record"
	"bosun/settings"
	"bosun/testkit"
)

type rec = record.Record

func made(t *testing.T, pages int) *flash.Flash {
	t.Helper()
	f, e := flash.New(pages)
	if e != api.OK {
		t.Fatal(e)
	}
	return f
}

func want(t *testing.T, what string, got, want api.Errno) {
	t.Helper()
	if got != want {
		t.Errorf("%s: error %d, want %d", what, got, want)
	}
}

// lay writes a record into a page, with just that Seq.
func lay(t *testing.T, f *flash.Flash, page int, r rec) {
	t.Helper()
	b, e := r.Encode()
	want(t, "Encode", e, api.OK)
	want(t, "Erase", f.Erase(page), api.OK)
	want(t, "Program", f.Program(page*256, b), api.OK)
}

func loaded(t *testing.T, f *flash.Flash, r rec, page int, e api.Errno) {
	t.Helper()
	gotR, gotPage, gotE := settings.Load(f)
	if !record.Same(gotR, r) || gotPage != page || gotE != e {
		t.Errorf("Load: %v, %d, %d, want %v, %d, %d", gotR, gotPage, gotE, r, page, e)
	}
}

func sample(n uint32) rec {
	return rec{Seq: 99, Floor: n, Bytes: 7, Sum: 8, Phase: record.Receiving, Done: n, Init: testkit.Sample(20, n)}
}

func withSeq(r rec, seq uint32) rec {
	r.Seq = seq
	return r
}

func content(t *testing.T, f *flash.Flash) []byte {
	t.Helper()
	b, e := f.Read(0, f.Size())
	want(t, "Read", e, api.OK)
	return b
}

// P14.1
func TestLoad(t *testing.T) {
	f := made(t, 2)
	loaded(t, f, rec{}, 0, api.ErrNone)
	lay(t, f, 1, rec{Seq: 5, Floor: 1})
	loaded(t, f, rec{Seq: 5, Floor: 1}, 1, api.OK)
	lay(t, f, 0, rec{Seq: 4, Floor: 2})
	loaded(t, f, rec{Seq: 5, Floor: 1}, 1, api.OK)
	lay(t, f, 0, rec{Seq: 5, Floor: 3})
	loaded(t, f, rec{Seq: 5, Floor: 3}, 0, api.OK)
	lay(t, f, 0, rec{Seq: 1<<32 - 1})
	loaded(t, f, rec{Seq: 1<<32 - 1}, 0, api.OK)
	f.Program(0, make([]byte, 4))
	loaded(t, f, rec{Seq: 5, Floor: 1}, 1, api.OK)
	lay(t, f, 0, rec{}) // a Seq of 0 is one, too
	f.Erase(1)
	loaded(t, f, rec{}, 0, api.OK)
	f.Fail(0, 0)
	f.Erase(1)
	loaded(t, f, rec{}, 0, api.ErrReset)
}

// P14.1
func TestLoadBesideBytes(t *testing.T) {
	f := made(t, 3)
	f.Program(160, make([]byte, 96))
	f.Program(256+160, make([]byte, 96+256))
	loaded(t, f, rec{}, 0, api.ErrNone)
	b, _ := rec{Seq: 3}.Encode()
	want(t, "Program", f.Program(0, b), api.OK)
	loaded(t, f, rec{Seq: 3}, 0, api.OK)
}

// P14.1, P14.2
func TestNoFlash(t *testing.T) {
	one := made(t, 1)
	for _, f := range []*flash.Flash{nil, one} {
		loaded(t, f, rec{}, 0, api.ErrArg)
		r, e := settings.Save(f, sample(1))
		if !record.Same(r, rec{}) || e != api.ErrArg {
			t.Error(r, e)
		}
	}
	one.Fail(0, 0)
	one.Erase(0)
	loaded(t, one, rec{}, 0, api.ErrArg)
	f := made(t, 2)
	f.Fail(0, 0)
	f.Erase(0)
	if r, e := settings.Save(f, rec{Phase: 9}); !record.Same(r, rec{}) || e != api.ErrReset {
		t.Error(r, e)
	}
}

// P14.2
func TestSave(t *testing.T) {
	f := made(t, 2)
	for n := range uint32(6) {
		given := sample(n)
		got, e := settings.Save(f, given)
		if e != api.OK || !record.Same(got, withSeq(given, n+1)) {
			t.Fatal(n, got, e)
		}
		got.Init[0] ^= 1
		if !bytes.Equal(given.Init, sample(n).Init) {
			t.Error("the result shares memory with the argument")
		}
		loaded(t, f, withSeq(given, n+1), int(n%2), api.OK)
	}
	if w := f.Worn(); !slices.Equal(w, []int{3, 3}) || f.Steps() != 6*(1+1+40) {
		t.Error("other steps than those of the document:", w, f.Steps())
	}
	b := content(t, f)
	want4, _ := withSeq(sample(4), 5).Encode()
	want5, _ := withSeq(sample(5), 6).Encode()
	rest := bytes.Repeat([]byte{255}, 96)
	if !bytes.Equal(b, slices.Concat(want4, rest, want5, rest)) {
		t.Error("other bytes than those of both records")
	}
}

// P14.2
func TestSaveBesideOneRecord(t *testing.T) {
	f := made(t, 2)
	lay(t, f, 1, rec{Seq: 8})
	f.Program(0, make([]byte, 8))
	if r, e := settings.Save(f, sample(1)); e != api.OK || r.Seq != 9 {
		t.Error(r, e)
	}
	loaded(t, f, withSeq(sample(1), 9), 0, api.OK)
	f = made(t, 2)
	lay(t, f, 0, rec{Seq: 3, Floor: 1})
	lay(t, f, 1, rec{Seq: 3, Floor: 2})
	if r, e := settings.Save(f, sample(1)); e != api.OK || r.Seq != 4 {
		t.Error(r, e)
	}
	loaded(t, f, withSeq(sample(1), 4), 1, api.OK)
}

// P14.2
func TestSaveErrors(t *testing.T) {
	f := made(t, 2)
	lay(t, f, 0, rec{Seq: 1<<32 - 2})
	wrong := rec{Phase: 9}
	refused := func(what string, r rec, e api.Errno) {
		t.Helper()
		before, steps := content(t, f), f.Steps()
		got, gotE := settings.Save(f, r)
		if !record.Same(got, rec{}) || gotE != e {
			t.Errorf("%s: %v, %d, want %d", what, got, gotE, e)
		}
		if !bytes.Equal(content(t, f), before) || f.Steps() != steps {
			t.Errorf("%s: the flash was changed", what)
		}
	}
	refused("a record that is not valid", wrong, api.ErrArg)
	refused("a long packet", rec{Phase: record.Copying, Init: make([]byte, 129)}, api.ErrArg)
	if r, e := settings.Save(f, rec{}); r.Seq != 1<<32-1 || e != api.OK {
		t.Error(r, e)
	}
	refused("behind the last Seq", rec{}, api.ErrState)
	refused("behind the last Seq, not valid", wrong, api.ErrState)
	f = made(t, 3)
	f.Lock(0, 1)
	refused("a locked page", rec{}, api.ErrLock)
	f.Lock(1, 3)
	settings.Save(f, rec{Floor: 4})
	refused("the other page is locked", rec{}, api.ErrLock)
	loaded(t, f, rec{Seq: 1, Floor: 4}, 0, api.OK)
}

// P14.3: the power fails in each step, torn in many ways, of some pairs of records.
func TestPowerFailures(t *testing.T) {
	old := []rec{{}, sample(1), {Floor: 1<<32 - 1, Sum: 1<<32 - 1}}
	for _, first := range old {
		for _, second := range old {
			for _, tear := range []uint32{0, 1, 0x0f0f0f0f, 0x2f9be6cc, 0x80000000, 1<<32 - 1} {
				failures(t, first, second, tear)
			}
		}
	}
}

func failures(t *testing.T, first, second rec, tear uint32) {
	t.Helper()
	for step := range 42 {
		f := made(t, 2)
		settings.Save(f, sample(7))
		before, _ := settings.Save(f, first)
		f.Fail(step, tear)
		if r, e := settings.Save(f, second); e != api.ErrReset || !record.Same(r, rec{}) {
			t.Fatal(step, r, e)
		}
		f.Power()
		r, _, e := settings.Load(f)
		if e != api.OK || !record.Same(r, before) && !record.Same(r, withSeq(second, before.Seq+1)) {
			t.Fatalf("step %d, tear %x: %v, %d", step, tear, r, e)
		}
		after, e := settings.Save(f, sample(3))
		if e != api.OK || after.Seq != r.Seq+1 {
			t.Fatalf("step %d, tear %x: %v, %d", step, tear, after, e)
		}
		loaded(t, f, after, int(after.Seq+1)%2, api.OK)
	}
}

// P14.3: also from the very first record on, and with the failure in the last step.
func TestPowerFailsInTheFirst(t *testing.T) {
	for step := range 42 {
		f := made(t, 2)
		f.Fail(step, 0)
		settings.Save(f, sample(1))
		f.Power()
		loaded(t, f, rec{}, 0, api.ErrNone)
	}
	f := made(t, 2)
	f.Fail(41, 1<<32-1)
	settings.Save(f, sample(1))
	f.Power()
	loaded(t, f, withSeq(sample(1), 1), 0, api.OK)
}
