package transfer_test

import (
	"bytes"
	"slices"
	"testing"

	"bosun/api"
	"bosun/bank"
	"bosun/flash"
	"bosun/object"
	"bosun/record"
	"bosun/settings"
	"bosun/testkit"
	"bosun/transfer"
)

var _ object.Store = &transfer.Keeper{}

type rec = record.Record

func made(t *testing.T, pages int) *flash.Flash {
	t.Helper()
	f, e := flash.New(pages)
	if e != api.OK {
		t.Fatal(e)
	}
	return f
}

func keeper(t *testing.T, f *flash.Flash) *transfer.Keeper {
	t.Helper()
	k, e := transfer.New(f)
	if k == nil || e != api.OK {
		t.Fatal("New:", e)
	}
	return k
}

func want(t *testing.T, what string, got, want api.Errno) {
	t.Helper()
	if got != want {
		t.Errorf("%s: error %d, want %d", what, got, want)
	}
}

// holds tells what a keeper has to return.
func holds(t *testing.T, k *transfer.Keeper, init, image []byte) {
	t.Helper()
	gotInit, n := k.Load()
	gotImage, e := k.Image()
	if !bytes.Equal(gotInit, init) || n != len(image) || !bytes.Equal(gotImage, image) || e != api.OK {
		t.Errorf("Load: %d bytes, %d; Image: %d bytes, %d; want %d and %d bytes", len(gotInit), n, len(gotImage), e, len(init), len(image))
	}
}

func newest(t *testing.T, f *flash.Flash) rec {
	t.Helper()
	r, _, e := settings.Load(f)
	want(t, "settings.Load", e, api.OK)
	return r
}

// P18.1
func TestNew(t *testing.T) {
	off := made(t, 34)
	off.Fail(0, 0)
	off.Erase(0)
	for _, c := range []struct {
		f *flash.Flash
		e api.Errno
	}{{nil, api.ErrArg}, {made(t, 1), api.ErrArg}, {made(t, 33), api.ErrArg}, {off, api.ErrReset}} {
		if k, e := transfer.New(c.f); k != nil || e != c.e {
			t.Error(k, e, c.e)
		}
	}
	k := keeper(t, made(t, 34))
	holds(t, k, nil, nil)
	if !record.Same(k.Record(), rec{}) || k.First != 18 {
		t.Error(k.Record(), k.First)
	}
	keeper(t, made(t, 64))
}

// P18.1
func TestRecordAndLoad(t *testing.T) {
	init := testkit.Sample(121, 1)
	for _, r := range []rec{
		{Floor: 5, Bytes: 6, Sum: 7},
		{Floor: 5, Bytes: 6, Sum: 7, Phase: record.Receiving, Done: 512, Init: init},
		{Floor: 5, Bytes: 6, Sum: 7, Phase: record.Copying, Done: 512, Init: init},
	} {
		f := made(t, 34)
		image := testkit.Sample(4096, 2)
		bank.Bank{Flash: f, First: 18}.Write(0, image)
		saved, _ := settings.Save(f, r)
		k := keeper(t, f)
		if !record.Same(k.Record(), saved) {
			t.Error(k.Record(), saved)
		}
		if r.Phase == record.Receiving {
			holds(t, k, init, image[:512])
			k.Record().Init[0] ^= 1
			got, _ := k.Load()
			got[1] ^= 1
			holds(t, k, init, image[:512])
		} else {
			holds(t, k, nil, nil)
		}
	}
}

// P18.1
func TestImageErrors(t *testing.T) {
	f := made(t, 34)
	k := keeper(t, f)
	k.Start([]byte{1})
	f.Fail(0, 0)
	f.Erase(0)
	if b, e := k.Image(); b != nil || e != api.ErrReset {
		t.Error(b, e)
	}
	if init, n := k.Load(); len(init) != 1 || n != 0 {
		t.Error(init, n)
	}
}

// P18.2
func TestStart(t *testing.T) {
	f := made(t, 34)
	settings.Save(f, rec{Floor: 5, Bytes: 6, Sum: 7, Phase: record.Copying, Done: 512, Init: []byte{1}})
	f.Program(18*256, make([]byte, 4096))
	f.Program(2*256, make([]byte, 4096))
	k := keeper(t, f)
	init := testkit.Sample(121, 3)
	steps := f.Steps()
	want(t, "Start", k.Start(init), api.OK)
	if f.Steps()-steps != 42+16+42 {
		t.Error("steps:", f.Steps()-steps)
	}
	init[0] ^= 1
	init = testkit.Sample(121, 3)
	holds(t, k, init, nil)
	r := rec{Seq: 3, Floor: 5, Bytes: 6, Sum: 7, Phase: record.Receiving, Init: init}
	if !record.Same(k.Record(), r) || !record.Same(newest(t, f), r) {
		t.Error(k.Record(), newest(t, f))
	}
	if b, _ := f.Read(2*256, 8192); !bytes.Equal(b[:4096], make([]byte, 4096)) || !bytes.Equal(b[4096:], bytes.Repeat([]byte{255}, 4096)) {
		t.Error("other pages than those of the bank were cleared")
	}
	want(t, "Start anew", k.Start([]byte{9}), api.OK)
	holds(t, k, []byte{9}, nil)
	want(t, "Start of no bytes", k.Start(nil), api.OK)
	holds(t, k, nil, nil)
	if k.Record().Phase != record.Receiving {
		t.Error(k.Record())
	}
}

// P18.2
func TestStartErrors(t *testing.T) {
	f := made(t, 34)
	k := keeper(t, f)
	k.Start([]byte{1})
	k.Put(make([]byte, 256))
	want(t, "a long packet", k.Start(make([]byte, 129)), api.ErrArg)
	if r := newest(t, f); r.Phase != record.Idle || !record.Same(r, k.Record()) {
		t.Error("what came before the error was not done:", r)
	}
	k.Start([]byte{1})
	k.Put(make([]byte, 256))
	before := newest(t, f)
	f.Lock(0, 2)
	want(t, "the settings are locked", k.Start([]byte{2}), api.ErrLock)
	if !record.Same(k.Record(), before) {
		t.Error(k.Record())
	}
	holds(t, k, []byte{1}, make([]byte, 256))
	worn := f.Worn()
	f.Lock(20, 21)
	want(t, "a page of the bank is locked", k.Start([]byte{2}), api.ErrLock)
	if r := newest(t, f); r.Phase != record.Idle || !record.Same(r, k.Record()) {
		t.Error(r)
	}
	worn[18]++
	worn[19]++
	if w := f.Worn(); !slices.Equal(w[2:], worn[2:]) {
		t.Error(w, worn)
	}
	f.Lock(0, 0)
	settings.Save(f, rec{})
	for page := range 2 {
		b, _ := rec{Seq: 1<<32 - 1}.Encode()
		f.Erase(page)
		f.Program(page*256, b)
	}
	want(t, "behind the last Seq", k.Start([]byte{2}), api.ErrState)
}

// P18.2
func TestPut(t *testing.T) {
	f := made(t, 34)
	f.Program(18*256, make([]byte, 4096))
	settings.Save(f, rec{Floor: 5, Bytes: 6, Sum: 7, Phase: record.Receiving, Init: []byte{1, 2}})
	k := keeper(t, f)
	image := testkit.Sample(4096, 4)
	kept := bytes.Clone(image)
	for _, n := range []int{256, 1024, 0, 512, 1280, 1024} {
		_, at := k.Load()
		worn := f.Worn()
		want(t, "Put", k.Put(image[at:at+n]), api.OK)
		holds(t, k, []byte{1, 2}, image[:at+n])
		holds(t, keeper(t, f), []byte{1, 2}, image[:at+n])
		for page, w := range f.Worn() {
			if in := page >= 18+at/256 && page < 18+(at+n)/256; page >= 2 && (w-worn[page] == 1) != in {
				t.Error("Put of", n, "at", at, "cleared page", page, w-worn[page], "times")
			}
		}
	}
	r := rec{Seq: 7, Floor: 5, Bytes: 6, Sum: 7, Phase: record.Receiving, Done: 4096, Init: []byte{1, 2}}
	if !record.Same(newest(t, f), r) || !bytes.Equal(image, kept) {
		t.Error(newest(t, f))
	}
	want(t, "Put of nothing at the end", k.Put(nil), api.OK)
	want(t, "Put beyond the end", k.Put([]byte{1}), api.ErrSize)
}

// P18.2
func TestPutOfHalfPages(t *testing.T) {
	f := made(t, 34)
	f.Program(18*256, make([]byte, 4096))
	k := keeper(t, f)
	k.Start([]byte{1})
	image := testkit.Sample(513, 4)
	want(t, "Put", k.Put(image), api.OK)
	holds(t, k, []byte{1}, image)
	want(t, "Put behind a half page", k.Put([]byte{1}), api.ErrSize)
	want(t, "Put of nothing behind a half page", k.Put(nil), api.ErrSize)
	holds(t, k, []byte{1}, image)
	if b, _ := f.Read(18*256+513, 3); !bytes.Equal(b, []byte{255, 255, 255}) {
		t.Error(b)
	}
}

// P18.2
func TestPutErrors(t *testing.T) {
	f := made(t, 34)
	k := keeper(t, f)
	want(t, "Put without Start", k.Put([]byte{1}), api.ErrState)
	want(t, "a long Put without Start", k.Put(make([]byte, 5000)), api.ErrState)
	settings.Save(f, rec{Phase: record.Copying, Init: []byte{1}})
	want(t, "Put while copying", keeper(t, f).Put([]byte{1}), api.ErrState)
	k.Start([]byte{1})
	steps := f.Steps()
	want(t, "a long Put", k.Put(make([]byte, 4097)), api.ErrSize)
	if f.Steps() != steps {
		t.Error("steps of a Put that is too long")
	}
	f.Lock(19, 20)
	want(t, "Put into a locked page", k.Put(make([]byte, 257)), api.ErrLock)
	holds(t, k, []byte{1}, nil)
	f.Lock(0, 2)
	want(t, "the settings are locked", k.Put(make([]byte, 257)), api.ErrLock)
	holds(t, k, []byte{1}, nil)
	f.Lock(0, 0)
	image := testkit.Sample(300, 5)
	want(t, "Put over an earlier try", k.Put(image), api.OK)
	holds(t, k, []byte{1}, image)
}

// P18.3
func TestPowerFails(t *testing.T) {
	first, second := testkit.Sample(121, 6), testkit.Sample(121, 7)
	image := testkit.Sample(1324, 8)
	for _, tear := range []uint32{0, 1, 0x5a5a5a5a, 0x80000000, 1<<32 - 1} {
		for step := range 125 {
			f := made(t, 34)
			k := keeper(t, f)
			k.Start(first)
			k.Put(image[:1024])
			f.Fail(step, tear)
			e := k.Put(image[1024:])
			done := e == api.OK
			if step < 2+75+42 && e != api.ErrReset {
				t.Fatal("Put, step", step, e)
			}
			f.Power()
			next := keeper(t, f)
			_, n := next.Load()
			if n != 1024 && n != 1324 || done && n != 1324 {
				t.Fatalf("step %d, tear %x: %d bytes", step, tear, n)
			}
			holds(t, next, first, image[:n])
			if n == 1024 {
				want(t, "Put once more", next.Put(image[1024:]), api.OK)
				holds(t, next, first, image)
			}
		}
		for step := range 100 {
			f := made(t, 34)
			k := keeper(t, f)
			k.Start(first)
			k.Put(image[:1024])
			f.Fail(step, tear)
			want(t, "Start", k.Start(second), api.ErrReset)
			f.Power()
			next := keeper(t, f)
			switch init, n := next.Load(); {
			case init == nil:
				holds(t, next, nil, nil)
			case n == 0:
				holds(t, next, second, nil)
			default:
				holds(t, next, first, image[:1024])
			}
			want(t, "Start once more", next.Start(second), api.OK)
			holds(t, next, second, nil)
		}
	}
}

func TestNil(t *testing.T) {
	var k *transfer.Keeper
	init, n := k.Load()
	image, e := k.Image()
	if init != nil || n != 0 || image != nil || e != api.ErrArg || !record.Same(k.Record(), rec{}) {
		t.Error(init, n, image, e)
	}
	want(t, "Start", k.Start(nil), api.ErrArg)
	want(t, "Put", k.Put(nil), api.ErrArg)
	want(t, "Start of a zero keeper", (&transfer.Keeper{}).Start(nil), api.ErrArg)
}
