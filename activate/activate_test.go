package activate_test

import (
	"bytes"
	"slices"
	"testing"

	"bosun/activate"
	"bosun/api"
	"bosun/bank"
	"bosun/crc"
	"bosun/flash"
	"bosun/packet"
	"bosun/record"
	"bosun/settings"
	"bosun/testkit"
	"bosun/transfer"
)

type rec = record.Record

var signer = testkit.NewSigner([32]byte{19})

func made(t *testing.T, pages int) *flash.Flash {
	t.Helper()
	f, e := flash.New(pages)
	if e != api.OK {
		t.Fatal(e)
	}
	return f
}

func want(t *testing.T, what string, got, want api.Errno) {
	t.Helper()
	if got != want {
		t.Errorf("%s: error %d, want %d", what, got, want)
	}
}

func step(t *testing.T, f *flash.Flash, done bool, e api.Errno) {
	t.Helper()
	if gotDone, gotE := activate.Step(f); gotDone != done || gotE != e {
		t.Errorf("Step: %v, %d, want %v, %d", gotDone, gotE, done, e)
	}
}

func newest(t *testing.T, f *flash.Flash) rec {
	t.Helper()
	r, _, e := settings.Load(f)
	want(t, "settings.Load", e, api.OK)
	return r
}

// receive puts a packet, and so many bytes of an image, into the flash; the rest of the record stays.
func receive(t *testing.T, f *flash.Flash, init, image []byte) {
	t.Helper()
	k, e := transfer.New(f)
	want(t, "transfer.New", e, api.OK)
	want(t, "transfer.Start", k.Start(init), api.OK)
	for len(image) > 0 {
		n := min(1024, len(image))
		want(t, "transfer.Put", k.Put(image[:n]), api.OK)
		image = image[n:]
	}
}

func valid(t *testing.T, f *flash.Flash, image []byte) {
	t.Helper()
	got, ok := activate.Valid(f)
	if ok != (image != nil) || !bytes.Equal(got, image) {
		t.Errorf("Valid: %d bytes, %v, want %d bytes", len(got), ok, len(image))
	}
}

// P19.1, P19.2, P19.3
func TestNoFlash(t *testing.T) {
	off := made(t, 34)
	off.Fail(0, 0)
	off.Erase(0)
	for _, c := range []struct {
		f *flash.Flash
		e api.Errno
	}{{nil, api.ErrArg}, {made(t, 33), api.ErrArg}, {off, api.ErrReset}, {made(t, 34), api.ErrNone}} {
		want(t, "Begin", activate.Begin(c.f, signer.Limits()), c.e)
		step(t, c.f, false, c.e)
		valid(t, c.f, nil)
	}
}

// P19.1
func TestBegin(t *testing.T) {
	image := testkit.Sample(1500, 1)
	init := signer.Init(image, 7)
	f := made(t, 34)
	settings.Save(f, rec{Floor: 3, Bytes: 4, Sum: 5})
	receive(t, f, init, image)
	before := newest(t, f)
	want(t, "Begin", activate.Begin(f, signer.Limits()), api.OK)
	r := rec{Seq: before.Seq + 1, Floor: 3, Bytes: 4, Sum: 5, Phase: record.Copying, Init: init}
	if !record.Same(newest(t, f), r) {
		t.Error(newest(t, f))
	}
	want(t, "Begin anew", activate.Begin(f, signer.Limits()), api.ErrState)
}

// P19.1
func TestBeginErrors(t *testing.T) {
	image := testkit.Sample(1500, 1)
	wrong := bytes.Clone(image)
	wrong[1499] ^= 1
	l := signer.Limits()
	l.Floor = 7
	other := l
	other.Hardware++
	for _, c := range []struct {
		what  string
		init  []byte
		image []byte
		l     packet.Limits
		e     api.Errno
	}{
		{"no packet", []byte{1, 0}, image, l, api.ErrForm},
		{"too old", signer.Init(image, 6), wrong, l, api.ErrVersion},
		{"other hardware", signer.Init(image, 7), wrong, other, api.ErrHardware},
		{"another signer", testkit.NewSigner([32]byte{1}).Init(image, 7), wrong, l, api.ErrSign},
		{"nothing", signer.Init(image, 7), nil, l, api.ErrSize},
		{"not all", signer.Init(image, 7), image[:1024], l, api.ErrSize},
		{"another image", signer.Init(image, 7), wrong, l, api.ErrHash},
		{"right", signer.Init(image, 7), image, l, api.OK},
	} {
		f := made(t, 34)
		receive(t, f, c.init, c.image)
		before, steps := newest(t, f), f.Steps()
		want(t, c.what, activate.Begin(f, c.l), c.e)
		if c.e != api.OK && (!record.Same(newest(t, f), before) || f.Steps() != steps) {
			t.Error(c.what, "changed the flash")
		}
	}
	for _, phase := range []byte{record.Idle, record.Copying} {
		f := made(t, 34)
		settings.Save(f, rec{Phase: phase})
		want(t, "another phase", activate.Begin(f, l), api.ErrState)
	}
	f := made(t, 34)
	receive(t, f, signer.Init(image, 7), image)
	f.Lock(0, 2)
	want(t, "the settings are locked", activate.Begin(f, l), api.ErrLock)
	f.Lock(0, 0)
	b, _ := rec{Seq: 1<<32 - 1, Phase: record.Receiving, Done: 1500, Init: signer.Init(image, 7)}.Encode()
	f.Erase(0)
	f.Program(0, b)
	want(t, "behind the last Seq", activate.Begin(f, l), api.ErrState)
}

// P19.2
func TestSteps(t *testing.T) {
	for _, c := range []struct{ size, copies int }{{1, 1}, {255, 1}, {256, 1}, {257, 2}, {300, 2}, {1024, 4}, {4096, 16}} {
		image := testkit.Sample(c.size, 2)
		init := signer.Init(image, 7)
		f := made(t, 34)
		f.Program(2*256, make([]byte, 4096))
		settings.Save(f, rec{Floor: 3, Bytes: 4, Sum: 5})
		receive(t, f, init, image)
		want(t, "Begin", activate.Begin(f, signer.Limits()), api.OK)
		for i := range c.copies {
			valid(t, f, nil)
			worn, steps := f.Worn(), f.Steps()
			step(t, f, false, api.OK)
			to := min(256*(i+1), c.size)
			r := newest(t, f)
			if want := (rec{Seq: r.Seq, Floor: 3, Bytes: 4, Sum: 5, Phase: record.Copying, Done: uint32(to), Init: init}); !record.Same(r, want) {
				t.Error(r, want)
			}
			worn[2+i]++
			if !slices.Equal(f.Worn()[2:], worn[2:]) || f.Steps()-steps != 1+(to-256*i+3)/4+42 {
				t.Error("size", c.size, "copy", i, "steps", f.Steps()-steps)
			}
		}
		step(t, f, true, api.OK)
		r := newest(t, f)
		if want := (rec{Seq: r.Seq, Floor: 7, Bytes: uint32(c.size), Sum: crc.Sum(image)}); !record.Same(r, want) {
			t.Error(r, want)
		}
		valid(t, f, image)
		steps := f.Steps()
		step(t, f, true, api.OK)
		if f.Steps() != steps {
			t.Error("a Step behind the last one changed the flash")
		}
		rest := 256*c.copies - c.size
		b, _ := f.Read(2*256, 4096)
		if !bytes.Equal(b[c.size:], append(bytes.Repeat([]byte{255}, rest), make([]byte, 4096-c.size-rest)...)) {
			t.Error("size", c.size, "other bytes behind the image")
		}
	}
}

// P19.2
func TestFloorStays(t *testing.T) {
	for _, version := range []uint32{0, 8, 9, 10, 1<<32 - 1} {
		image := testkit.Sample(10, 2)
		f := made(t, 34)
		settings.Save(f, rec{Floor: 9})
		receive(t, f, signer.Init(image, version), image)
		want(t, "Begin", activate.Begin(f, signer.Limits()), api.OK) // of limits without a floor
		step(t, f, false, api.OK)
		step(t, f, true, api.OK)
		if r := newest(t, f); r.Floor != max(9, version) {
			t.Error(version, r.Floor)
		}
	}
}

// P19.2: whatever record there is.
func TestStepOfOtherRecords(t *testing.T) {
	image := testkit.Sample(600, 2)
	init := signer.Init(image, 7)
	large := testkit.Describe(image, 7)
	large.Size = 4097
	none := testkit.Describe(nil, 7)
	set := func(r rec) *flash.Flash {
		f := made(t, 34)
		bank.Bank{Flash: f, First: 18}.Write(0, image)
		settings.Save(f, r)
		return f
	}
	for _, phase := range []byte{record.Idle, record.Receiving} {
		step(t, set(rec{Phase: phase}), true, api.OK)
	}
	for _, init := range [][]byte{nil, {1}, {1, 0}, init[:120], make([]byte, 128), signer.Packet(large)} {
		f := set(rec{Phase: record.Copying, Init: init})
		steps := f.Steps()
		step(t, f, false, api.ErrForm)
		if f.Steps() != steps {
			t.Error("a Step without a packet changed the flash")
		}
	}
	f := set(rec{Phase: record.Copying, Done: 300, Init: init}) // inside of a page, which is copied whole
	step(t, f, false, api.OK)
	if b, _ := f.Read(3*256, 256); !bytes.Equal(b, image[256:512]) || newest(t, f).Done != 512 {
		t.Error(newest(t, f).Done)
	}
	f = set(rec{Phase: record.Copying, Done: 4000, Init: init})
	step(t, f, true, api.OK)
	if r := newest(t, f); r.Bytes != 600 || r.Sum != crc.Sum(bytes.Repeat([]byte{255}, 600)) {
		t.Error(r)
	}
	f = set(rec{Floor: 1, Bytes: 5, Phase: record.Copying, Init: signer.Packet(none)})
	step(t, f, true, api.OK)
	if r := newest(t, f); !record.Same(r, rec{Seq: 2, Floor: 7}) {
		t.Error(r)
	}
	valid(t, f, nil)
}

// P19.2
func TestStepErrors(t *testing.T) {
	image := testkit.Sample(600, 2)
	f := made(t, 34)
	receive(t, f, signer.Init(image, 7), image)
	want(t, "Begin", activate.Begin(f, signer.Limits()), api.OK)
	before := newest(t, f)
	f.Lock(2, 3)
	step(t, f, false, api.ErrLock)
	f.Lock(0, 2)
	step(t, f, false, api.ErrLock)
	if !record.Same(newest(t, f), before) {
		t.Error(newest(t, f))
	}
	f.Lock(0, 0)
	for range 3 {
		step(t, f, false, api.OK)
	}
	before = newest(t, f)
	f.Lock(0, 2)
	step(t, f, false, api.ErrLock)
	f.Lock(0, 0)
	f.Fail(1, 0)
	step(t, f, false, api.ErrReset)
	step(t, f, false, api.ErrReset)
	f.Power()
	if !record.Same(newest(t, f), before) {
		t.Error(newest(t, f))
	}
	step(t, f, true, api.OK)
	valid(t, f, image)
}

// P19.3
func TestValid(t *testing.T) {
	image := testkit.Sample(4096, 3)
	for _, c := range []struct {
		what string
		r    rec
		n    int
	}{
		{"right", rec{Bytes: 300, Sum: crc.Sum(image[:300])}, 300},
		{"one byte", rec{Bytes: 1, Sum: crc.Sum(image[:1])}, 1},
		{"all bytes", rec{Bytes: 4096, Sum: crc.Sum(image)}, 4096},
		{"while another one is received", rec{Bytes: 300, Sum: crc.Sum(image[:300]), Phase: record.Receiving, Done: 4}, 300},
		{"while another one is copied", rec{Bytes: 300, Sum: crc.Sum(image[:300]), Phase: record.Copying}, 0},
		{"no bytes", rec{}, 0},
		{"another sum", rec{Bytes: 300, Sum: crc.Sum(image[:300]) + 1}, 0},
		{"another number of bytes", rec{Bytes: 301, Sum: crc.Sum(image[:300])}, 0},
	} {
		f := made(t, 40)
		bank.Bank{Flash: f, First: 2}.Write(0, image)
		settings.Save(f, c.r)
		got, ok := activate.Valid(f)
		if ok != (c.n > 0) || !bytes.Equal(got, image[:c.n]) {
			t.Error(c.what, len(got), ok)
		}
		if c.n == 0 {
			continue
		}
		got[0] ^= 1
		valid(t, f, image[:c.n])
		f.Fail(0, 0)
		f.Erase(0)
		valid(t, f, nil)
	}
}

// P19.4: the power fails in each step, and often.
func TestPowerFails(t *testing.T) {
	old, image := testkit.Sample(700, 4), testkit.Sample(600, 5)
	init := signer.Init(image, 7)
	for _, tear := range []uint32{0, 0x33cc5aa5, 1<<32 - 1} {
		for after := range 42 + 3*107 + 42 + 5 {
			f := made(t, 34)
			bank.Bank{Flash: f, First: 2}.Write(0, old)
			settings.Save(f, rec{Floor: 3, Bytes: 700, Sum: crc.Sum(old)})
			receive(t, f, init, image)
			f.Fail(after, tear)
			if activate.Begin(f, signer.Limits()) != api.OK {
				f.Power()
				if e := activate.Begin(f, signer.Limits()); e != api.OK && newest(t, f).Phase != record.Copying {
					t.Fatal("Begin:", e)
				}
			}
			finish(t, f, after, tear)
			valid(t, f, image)
			if r := newest(t, f); r.Floor != 7 || r.Phase != record.Idle {
				t.Fatal(after, r)
			}
		}
	}
}

// finish takes steps till the copying is over; the power fails again, behind as many steps as there were before the first failure.
func finish(t *testing.T, f *flash.Flash, after int, tear uint32) {
	t.Helper()
	for range 40 {
		done, e := activate.Step(f)
		if e == api.OK && done {
			f.Power()
			return
		}
		if e == api.ErrReset {
			f.Power()
			if r := newest(t, f); r.Floor != 3 && r.Floor != 7 {
				t.Fatal(after, r)
			}
			if after > 150 {
				f.Fail(after, ^tear)
			}
		}
	}
	t.Fatal("no end: failure behind", after)
}
