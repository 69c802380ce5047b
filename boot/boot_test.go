package boot_test

import (
	"bytes"
	"testing"

	"bosun/api"
	"bosun/bank"
	"bosun/boot"
	"bosun/crc"
	"bosun/flash"
	"bosun/packet"
	"bosun/record"
	"bosun/settings"
	"bosun/testkit"
	"bosun/transfer"
)

type rec = record.Record

var signer = testkit.NewSigner([32]byte{20})

func made(t *testing.T, pages int) *flash.Flash {
	t.Helper()
	f, e := flash.New(pages)
	if e != api.OK {
		t.Fatal(e)
	}
	return f
}

func want(t *testing.T, what string, got, want api.Errno) {
	t.Helper()
	if got != want {
		t.Errorf("%s: error %d, want %d", what, got, want)
	}
}

func newest(t *testing.T, f *flash.Flash) rec {
	t.Helper()
	r, _, e := settings.Load(f)
	want(t, "settings.Load", e, api.OK)
	return r
}

// receive puts a packet, and so many bytes of an image, into the flash; the rest of the record stays.
func receive(t *testing.T, f *flash.Flash, init, image []byte) {
	t.Helper()
	k, e := transfer.New(f)
	want(t, "transfer.New", e, api.OK)
	want(t, "transfer.Start", k.Start(init), api.OK)
	for len(image) > 0 {
		n := min(1024, len(image))
		want(t, "transfer.Put", k.Put(image[:n]), api.OK)
		image = image[n:]
	}
}

// holding is flash with an active image, and a floor.
func holding(t *testing.T, image []byte, floor uint32) *flash.Flash {
	t.Helper()
	f := made(t, 34)
	bank.Bank{Flash: f, First: 2}.Write(0, image)
	_, e := settings.Save(f, rec{Floor: floor, Bytes: uint32(len(image)), Sum: crc.Sum(image)})
	want(t, "settings.Save", e, api.OK)
	return f
}

// decides holds a decision against the image that is to be run, or nil.
func decides(t *testing.T, f *flash.Flash, l packet.Limits, entry bool, image []byte, e api.Errno) {
	t.Helper()
	c, got := boot.Decide(f, l, entry)
	if got != e || c.Jump != (image != nil) || !bytes.Equal(c.Image, image) {
		t.Errorf("Decide: %v, %d bytes, %d, want %d bytes, %d", c.Jump, len(c.Image), got, len(image), e)
	}
}

// P20.1
func TestLimits(t *testing.T) {
	l := packet.Limits{Key: api.Key{1}, Hardware: 2, Type: 3, Floor: 4, Room: 5}
	for _, c := range []struct{ kept, floor uint32 }{{0, 4}, {3, 4}, {4, 4}, {5, 5}, {1<<32 - 1, 1<<32 - 1}} {
		f := made(t, 34)
		settings.Save(f, rec{Floor: c.kept})
		steps := f.Steps()
		if got := boot.Limits(f, l); got != (packet.Limits{Key: api.Key{1}, Hardware: 2, Type: 3, Floor: c.floor, Room: 4096}) || f.Steps() != steps {
			t.Error(c, got)
		}
	}
	off := holding(t, []byte{1}, 9)
	off.Fail(0, 0)
	off.Erase(0)
	for _, f := range []*flash.Flash{nil, made(t, 1), made(t, 34), off} {
		if got := boot.Limits(f, l); got != (packet.Limits{Key: api.Key{1}, Hardware: 2, Type: 3, Floor: 4, Room: 4096}) {
			t.Error(got)
		}
	}
	if got := boot.Limits(nil, packet.Limits{Room: 1 << 20}); got.Room != 4096 {
		t.Error(got)
	}
}

// P20.2
func TestNoFlash(t *testing.T) {
	off := made(t, 34)
	off.Fail(0, 0)
	off.Erase(0)
	small := made(t, 33)
	small.Fail(0, 0)
	small.Erase(0)
	for _, entry := range []bool{false, true} {
		decides(t, nil, signer.Limits(), entry, nil, api.ErrArg)
		decides(t, made(t, 33), signer.Limits(), entry, nil, api.ErrArg)
		decides(t, small, signer.Limits(), entry, nil, api.ErrArg)
		decides(t, off, signer.Limits(), entry, nil, api.ErrReset)
		decides(t, made(t, 34), signer.Limits(), entry, nil, api.OK)
	}
}

// P20.2
func TestNothingUnderWay(t *testing.T) {
	image := testkit.Sample(700, 1)
	f := holding(t, image, 3)
	steps := f.Steps()
	decides(t, f, signer.Limits(), false, image, api.OK)
	decides(t, f, signer.Limits(), true, nil, api.OK)
	c, _ := boot.Decide(f, packet.Limits{}, false)
	c.Image[0] ^= 1
	decides(t, f, packet.Limits{}, false, image, api.OK)
	if f.Steps() != steps {
		t.Error("a decision changed the flash")
	}
	f.Program(2*256, make([]byte, 4))
	decides(t, f, signer.Limits(), false, nil, api.OK)
}

// P20.2
func TestReceived(t *testing.T) {
	old, image := testkit.Sample(700, 1), testkit.Sample(1500, 2)
	wrong := bytes.Clone(image)
	wrong[7] ^= 1
	strict, other := signer.Limits(), signer.Limits()
	strict.Floor = 8
	other.Type++
	tight := signer.Limits()
	tight.Room = 1 // which is not asked
	for _, c := range []struct {
		what     string
		version  uint32
		received []byte
		l        packet.Limits
		copied   bool
	}{
		{"right", 7, image, signer.Limits(), true},
		{"as old as the floor", 5, image, signer.Limits(), true},
		{"with little room", 7, image, tight, true},
		{"older than the floor that is remembered", 4, image, signer.Limits(), false},
		{"older than the floor of the limits", 7, image, strict, false},
		{"of another type", 7, image, other, false},
		{"not all", 7, image[:1024], signer.Limits(), false},
		{"nothing", 7, nil, signer.Limits(), false},
		{"another image", 7, wrong, signer.Limits(), false},
	} {
		for _, entry := range []bool{false, true} {
			f := holding(t, old, 5)
			receive(t, f, signer.Init(image, c.version), c.received)
			before := newest(t, f)
			run := old
			if c.copied {
				run = image
			}
			if entry {
				decides(t, f, c.l, true, nil, api.OK)
			} else {
				decides(t, f, c.l, false, run, api.OK)
			}
			r := newest(t, f)
			if c.copied && (r.Phase != record.Idle || r.Floor != max(5, c.version)) || !c.copied && !record.Same(r, before) {
				t.Error(c.what, r)
			}
			steps := f.Steps()
			decides(t, f, c.l, false, run, api.OK)
			if f.Steps() != steps {
				t.Error(c.what, "is done twice")
			}
		}
	}
}

// P20.2: copying goes on, whatever the limits are by now.
func TestCopying(t *testing.T) {
	image := testkit.Sample(600, 2)
	for _, done := range []uint32{0, 256, 512, 600} {
		f := made(t, 34)
		bank.Bank{Flash: f, First: 18}.Write(0, image)
		bank.Bank{Flash: f, First: 2}.Write(0, image[:done])
		settings.Save(f, rec{Phase: record.Copying, Done: done, Init: signer.Init(image, 7)})
		decides(t, f, packet.Limits{Floor: 100}, false, image, api.OK)
		if r := newest(t, f); r.Floor != 7 || r.Phase != record.Idle {
			t.Error(done, r)
		}
	}
}

// P20.2: an error that is no loss of power is none of the decision.
func TestStuck(t *testing.T) {
	old, image := testkit.Sample(700, 1), testkit.Sample(600, 2)
	f := holding(t, old, 5)
	receive(t, f, signer.Init(image, 7), image)
	f.Lock(0, 2)
	decides(t, f, signer.Limits(), false, old, api.OK)
	f.Lock(3, 4)
	decides(t, f, signer.Limits(), false, nil, api.OK) // the first page is the new one's
	if r := newest(t, f); r.Phase != record.Copying || r.Done != 256 {
		t.Error(r)
	}
	f.Lock(0, 0)
	decides(t, f, signer.Limits(), false, image, api.OK)
	f = made(t, 34)
	settings.Save(f, rec{Phase: record.Copying, Init: []byte{1}})
	decides(t, f, signer.Limits(), false, nil, api.OK)
}

// P20.2, P20.3: the power fails in each step, and often.
func TestPowerFails(t *testing.T) {
	old, image := testkit.Sample(300, 1), testkit.Sample(600, 2)
	init := signer.Init(image, 7)
	const all = 42 + (1 + 64 + 42) + (1 + 64 + 42) + (1 + 22 + 42) + 42
	for after := range all + 2 {
		f := holding(t, old, 5)
		receive(t, f, init, image)
		f.Fail(after, 0x9669a55a)
		if after >= all {
			decides(t, f, signer.Limits(), false, image, api.OK)
			continue
		}
		decides(t, f, signer.Limits(), false, nil, api.ErrReset)
		if !f.Off() {
			t.Fatal("there is power")
		}
		decides(t, f, signer.Limits(), false, nil, api.ErrReset)
		f.Power()
		if r := newest(t, f); r.Floor != 5 && r.Floor != 7 {
			t.Fatal(after, r)
		}
		f.Fail(after, 0x11223344)
		boot.Decide(f, signer.Limits(), true)
		f.Power()
		decides(t, f, signer.Limits(), false, image, api.OK)
		decides(t, f, signer.Limits(), false, image, api.OK)
	}
}
