package device_test

import (
	"bytes"
	"slices"
	"testing"

	"bosun/api"
	"bosun/bank"
	"bosun/crc"
	"bosun/device"
	"bosun/flash"
	"bosun/object"
	"bosun/opcode"
	"bosun/packet"
	"bosun/record"
	"bosun/settings"
	"bosun/slip"
	"bosun/testkit"
)

type rec = record.Record

var signer = testkit.NewSigner([32]byte{21})

func made(t *testing.T, pages int) *flash.Flash {
	t.Helper()
	f, e := flash.New(pages)
	if e != api.OK {
		t.Fatal(e)
	}
	return f
}

func started(t *testing.T, f *flash.Flash, entry bool) *device.Device {
	t.Helper()
	d, e := device.New(f, signer.Limits(), entry)
	if d == nil || e != api.OK {
		t.Fatal("New:", e)
	}
	return d
}

// holding is flash with an active image, and a floor.
func holding(t *testing.T, image []byte, floor uint32) *flash.Flash {
	t.Helper()
	f := made(t, 34)
	bank.Bank{Flash: f, First: 2}.Write(0, image)
	if _, e := settings.Save(f, rec{Floor: floor, Bytes: uint32(len(image)), Sum: crc.Sum(image)}); e != api.OK {
		t.Fatal(e)
	}
	return f
}

func is(t *testing.T, d *device.Device, state int, image []byte) {
	t.Helper()
	if got, run := d.State(); got != state || !bytes.Equal(run, image) {
		t.Errorf("State: %d, %d bytes, want %d, %d bytes", got, len(run), state, len(image))
	}
}

// frame is the frame of a request.
func frame(t *testing.T, r opcode.Request) []byte {
	t.Helper()
	b, e := r.Encode()
	if e != api.OK {
		t.Fatal(r, e)
	}
	return slip.Encode(b)
}

// sending is the frames that create and write an object.
func sending(t *testing.T, kind byte, data []byte) []byte {
	t.Helper()
	b := frame(t, opcode.Request{Op: opcode.Create, Type: kind, Size: uint32(len(data))})
	for len(data) > 0 {
		n := min(64, len(data))
		b = append(b, frame(t, opcode.Request{Op: opcode.Write, Data: data[:n]})...)
		data = data[n:]
	}
	return b
}

// parts are the frames of a whole update, up to each Execute.
func parts(t *testing.T, init, image []byte) [][]byte {
	t.Helper()
	execute := frame(t, opcode.Request{Op: opcode.Execute})
	l := [][]byte{append(sending(t, object.Command, init), execute...)}
	for len(image) > 0 {
		n := min(1024, len(image))
		l = append(l, append(sending(t, object.Data, image[:n]), execute...))
		image = image[n:]
	}
	return l
}

func answer(op, result byte, data ...byte) []byte {
	return slip.Encode(opcode.Response{Op: op, Result: result, Data: data}.Encode())
}

// answers feeds bytes, and holds the responses against others.
func answers(t *testing.T, d *device.Device, fed []byte, want ...[]byte) {
	t.Helper()
	if got := d.Feed(fed...); !bytes.Equal(got, slices.Concat(want...)) {
		t.Errorf("Feed(%d): %d, want %d", fed[:min(20, len(fed))], got, want)
	}
}

func ticks(d *device.Device, n int) {
	for range n {
		d.Tick()
	}
}

func content(t *testing.T, f *flash.Flash) []byte {
	t.Helper()
	b, e := f.Read(0, f.Size())
	if e != api.OK {
		t.Fatal(e)
	}
	return b
}

// whole updates a device, all requests of which have to be successful.
func whole(t *testing.T, d *device.Device, init, image []byte) {
	t.Helper()
	for _, p := range parts(t, init, image) {
		answers(t, d, p, answer(opcode.Create, opcode.Success), answer(opcode.Execute, opcode.Success))
	}
}

// P21.1
func TestNew(t *testing.T) {
	for _, f := range []*flash.Flash{nil, made(t, 33)} {
		if d, e := device.New(f, signer.Limits(), true); d != nil || e != api.ErrArg {
			t.Error(d, e)
		}
	}
	image := testkit.Sample(300, 1)
	is(t, started(t, made(t, 34), false), device.Waiting, nil)
	is(t, started(t, made(t, 34), true), device.Waiting, nil)
	is(t, started(t, holding(t, image, 3), true), device.Waiting, nil)
	d := started(t, holding(t, image, 3), false)
	is(t, d, device.Running, image)
	_, run := d.State()
	run[0] ^= 1
	is(t, d, device.Running, image)
	off := holding(t, image, 3)
	off.Fail(0, 0)
	off.Erase(20)
	is(t, started(t, off, false), device.Running, image)
}

// P21.1
func TestReset(t *testing.T) {
	image := testkit.Sample(300, 1)
	d := started(t, holding(t, image, 3), true)
	d.Reset(false)
	is(t, d, device.Running, image)
	d.Reset(true)
	is(t, d, device.Waiting, nil)
	d.Feed(9)
	d.Reset(true) // with a new decoder
	answers(t, d, []byte{7, 192}, answer(opcode.Mtu, opcode.Success, 70, 0))
	d.Feed(sending(t, object.Command, []byte{1})...)
	d.Reset(true) // with a new machine
	answers(t, d, frame(t, opcode.Request{Op: opcode.Crc}), answer(opcode.Crc, opcode.NotNow))
	ticks(d, 49)
	d.Reset(true) // and no ticks
	ticks(d, 49)
	is(t, d, device.Waiting, nil)
	ticks(d, 1)
	is(t, d, device.Running, image)
}

// P21.2
func TestResponses(t *testing.T) {
	d := started(t, made(t, 34), true)
	answers(t, d, []byte{9, 7, 192}, []byte{96, 9, 1, 7, 192})
	answers(t, d, []byte{9, 219, 220, 192}, []byte{96, 9, 1, 219, 220, 192})
	answers(t, d, nil)
	answers(t, d, []byte{192, 192})
	answers(t, d, []byte{5, 1, 2, 192}, answer(5, opcode.Unknown))
	answers(t, d, []byte{219, 221, 192}, answer(219, opcode.Unknown))
	answers(t, d, []byte{9, 192}, answer(9, opcode.Param))
	answers(t, d, []byte{9, 1, 2, 192}, answer(9, opcode.Param))
	answers(t, d, []byte{1, 2, 3, 192}, answer(1, opcode.Param))
	answers(t, d, append(bytes.Repeat([]byte{8}, 67), 192), answer(8, opcode.Param))
	answers(t, d, []byte{8, 1, 192}, answer(8, opcode.NotNow))
	answers(t, d, []byte{6, 1, 192}, answer(6, opcode.Success, 128, 0, 0, 0, 0, 0, 0, 0, 0, 0, 0, 0))
	answers(t, d, []byte{6, 2, 192}, answer(6, opcode.Success, 0, 4, 0, 0, 0, 0, 0, 0, 0, 0, 0, 0))
	answers(t, d, []byte{9, 1, 192, 9, 2, 192, 0, 192}, answer(9, 1, 1), answer(9, 1, 2), answer(0, 1, 1))
	answers(t, d, []byte{9})
	answers(t, d, []byte{4})
	answers(t, d, []byte{192, 9}, answer(9, 1, 4))
}

// P21.2: what the decoder refuses is not answered.
func TestDecoderErrors(t *testing.T) {
	d := started(t, made(t, 34), true)
	answers(t, d, []byte{9, 219, 7, 192})
	answers(t, d, []byte{219, 192, 9, 7, 192}, answer(9, 1, 7))
	answers(t, d, append(bytes.Repeat([]byte{9}, 70), 192), answer(9, opcode.Param))
	answers(t, d, append(bytes.Repeat([]byte{9}, 71), 192))
	answers(t, d, []byte{9, 7, 192}, answer(9, 1, 7))
}

// P21.2
func TestUpdate(t *testing.T) {
	old, image := testkit.Sample(4096, 1), testkit.Sample(2500, 2)
	f := holding(t, old, 3)
	d := started(t, f, true)
	l := parts(t, signer.Init(image, 7), image)
	for i, p := range l {
		is(t, d, device.Waiting, nil)
		if i == len(l)-1 { // what comes behind the last part is not heard
			p = append(p, 9, 7, 192)
		}
		answers(t, d, p, answer(opcode.Create, opcode.Success), answer(opcode.Execute, opcode.Success))
	}
	is(t, d, device.Running, image)
	answers(t, d, []byte{9, 7, 192})
	ticks(d, 200)
	is(t, d, device.Running, image)
	if r, _, _ := settings.Load(f); r.Floor != 7 || r.Phase != record.Idle || r.Bytes != 2500 {
		t.Error(r)
	}
	d.Reset(false)
	is(t, d, device.Running, image)
	d.Reset(true)
	older := parts(t, signer.Init(image, 6), image)
	answers(t, d, older[0], answer(opcode.Create, opcode.Success), answer(opcode.Execute, opcode.Object, byte(api.ErrVersion)))
	third := testkit.Sample(100, 3)
	whole(t, d, signer.Init(third, 7), third)
	is(t, d, device.Running, third)
}

// P21.2: byte by byte the same.
func TestUpdateByBytes(t *testing.T) {
	image := testkit.Sample(100, 2)
	d := started(t, made(t, 34), false)
	var all []byte
	for _, c := range slices.Concat(parts(t, signer.Init(image, 7), image)...) {
		all = append(all, d.Feed(c)...)
	}
	create, execute := answer(opcode.Create, opcode.Success), answer(opcode.Execute, opcode.Success)
	if !bytes.Equal(all, slices.Concat(create, execute, create, execute)) {
		t.Error(all)
	}
	is(t, d, device.Running, image)
}

// P21.2: a device that is reset goes on where it was.
func TestGoesOn(t *testing.T) {
	image := testkit.Sample(2500, 2)
	init := signer.Init(image, 7)
	d := started(t, made(t, 34), true)
	for i, p := range parts(t, init, image) {
		d.Feed(p...)
		d.Reset(i < 3)
		if i == 2 {
			n := append(opcode.Numbers(1024), opcode.Numbers(2048, crc.Sum(image[:2048]))...)
			answers(t, d, frame(t, opcode.Request{Op: opcode.Select, Type: 2}), answer(opcode.Select, opcode.Success, n...))
		}
	}
	is(t, d, device.Running, image)
}

// P21.1: a device that was reset behind the last byte of another image begins anew with its packet.
func TestBeginsAnew(t *testing.T) {
	image := testkit.Sample(300, 2)
	init := signer.Init(image, 7)
	f := made(t, 34)
	bank.Bank{Flash: f, First: 18}.Write(0, testkit.Sample(300, 3))
	settings.Save(f, rec{Phase: record.Receiving, Done: 300, Init: init})
	d := started(t, f, false)
	is(t, d, device.Waiting, nil)
	if r, _, _ := settings.Load(f); r.Phase != record.Receiving || r.Done != 0 || !bytes.Equal(r.Init, init) {
		t.Error(r)
	}
	l := parts(t, init, image)
	answers(t, d, l[1], answer(opcode.Create, opcode.Success), answer(opcode.Execute, opcode.Success))
	is(t, d, device.Running, image)
}

// P21.2: an image that cannot be copied leaves the device waiting, and complete.
func TestStuck(t *testing.T) {
	image := testkit.Sample(300, 2)
	f := made(t, 34)
	d := started(t, f, true)
	l := parts(t, signer.Init(image, 7), image)
	d.Feed(l[0]...)
	f.Lock(2, 18)
	answers(t, d, l[1], answer(opcode.Create, opcode.Success), answer(opcode.Execute, opcode.Success))
	is(t, d, device.Waiting, nil)
	answers(t, d, []byte{9, 7, 192}, answer(9, 1, 7))
	f.Lock(0, 0)
	d.Reset(false)
	is(t, d, device.Running, image)
}

// P21.3
func TestTick(t *testing.T) {
	image := testkit.Sample(300, 1)
	d := started(t, holding(t, image, 3), true)
	ticks(d, 49)
	is(t, d, device.Waiting, nil)
	d.Feed(5, 192) // also what is no request is a text
	ticks(d, 49)
	is(t, d, device.Waiting, nil)
	d.Feed(9, 192)
	ticks(d, 48)
	d.Feed(192, 1, 219, 5, 192, 9) // these are no texts
	d.Tick()
	is(t, d, device.Waiting, nil)
	d.Tick()
	is(t, d, device.Running, image)
}

// P21.3
func TestTickWithoutImage(t *testing.T) {
	image := testkit.Sample(300, 1)
	f := made(t, 34)
	d := started(t, f, true)
	ticks(d, 50)
	is(t, d, device.Waiting, nil)
	answers(t, d, []byte{9, 7, 192}, answer(9, 1, 7))
	ticks(d, 60)
	bank.Bank{Flash: f, First: 2}.Write(0, image)
	settings.Save(f, rec{Bytes: 300, Sum: crc.Sum(image)})
	ticks(d, 39)
	is(t, d, device.Waiting, nil)
	ticks(d, 1)
	is(t, d, device.Running, image)
}

// The power fails: no response to what made it fail, and nothing more.
func TestOff(t *testing.T) {
	image := testkit.Sample(300, 2)
	f := made(t, 34)
	d := started(t, f, true)
	l := parts(t, signer.Init(image, 7), image)
	f.Fail(99, 0)
	answers(t, d, slices.Concat([]byte{9, 7, 192}, l[0], []byte{9, 7, 192}), answer(9, 1, 7), answer(opcode.Create, opcode.Success))
	is(t, d, device.Off, nil)
	answers(t, d, []byte{9, 7, 192})
	ticks(d, 100)
	is(t, d, device.Off, nil)
	d.Reset(true)
	is(t, d, device.Waiting, nil)
	answers(t, d, l[0], answer(opcode.Create, opcode.Success), answer(opcode.Execute, opcode.Success))
	f.Fail(2+75+42, 0) // in the start behind the response
	answers(t, d, l[1], answer(opcode.Create, opcode.Success), answer(opcode.Execute, opcode.Success))
	is(t, d, device.Off, nil)
	f.Fail(0, 0)
	d.Reset(false)
	is(t, d, device.Running, image)
	f.Fail(0, 0)
	f.Erase(33) // the power fails while it runs
	is(t, d, device.Off, nil)
}

// P21.4
func TestNil(t *testing.T) {
	var d *device.Device
	d.Reset(true)
	d.Tick()
	if b := d.Feed(9, 7, 192); b != nil {
		t.Error(b)
	}
	is(t, d, device.Off, nil)
}

// P21.5
func TestOnlyWhatIsSigned(t *testing.T) {
	old, image := testkit.Sample(300, 1), testkit.Sample(200, 2)
	p := testkit.Describe(image, 7)
	hardware, kind, broken := p, p, signer.Init(image, 7)
	hardware.Hardware++
	kind.Type++
	broken[60] ^= 1
	for what, init := range map[string][]byte{
		"another signer": testkit.NewSigner([32]byte{1}).Init(image, 7), "broken": broken, "hardware": signer.Packet(hardware),
		"type": signer.Packet(kind), "older": signer.Init(image, 4),
	} {
		f := holding(t, old, 5)
		d := started(t, f, true)
		for _, p := range parts(t, init, image) {
			d.Feed(p...)
		}
		is(t, d, device.Waiting, nil)
		d.Reset(false)
		is(t, d, device.Running, old)
		if r, _, _ := settings.Load(f); r.Floor != 5 {
			t.Error(what, r)
		}
	}
	f := holding(t, old, 5)
	d := started(t, f, true)
	wrong := bytes.Clone(image)
	wrong[199] ^= 1
	l := parts(t, signer.Init(image, 7), wrong)
	d.Feed(l[0]...)
	answers(t, d, l[1], answer(opcode.Create, opcode.Success), answer(opcode.Execute, opcode.Object, byte(api.ErrHash)))
	is(t, d, device.Waiting, nil)
	d.Reset(false)
	is(t, d, device.Running, old)
}

// P21.5, P21.6: the power fails in each step of an update.
func TestPowerFails(t *testing.T) {
	old, image := testkit.Sample(200, 1), testkit.Sample(300, 2)
	init := signer.Init(image, 7)
	l := parts(t, init, image)
	for after := 0; ; after++ {
		f := holding(t, old, 5)
		d := started(t, f, true)
		f.Fail(after, 0x6ac35b27)
		executed := 0
		for _, p := range l {
			if bytes.HasSuffix(d.Feed(p...), answer(opcode.Execute, opcode.Success)) {
				executed++
			}
		}
		if state, run := d.State(); state == device.Running {
			if !bytes.Equal(run, image) {
				t.Fatal("step", after, "runs another image")
			}
			break
		}
		is(t, d, device.Off, nil)
		d.Reset(false)
		goOn(t, d, f, executed, old, image)
		d.Reset(true)
		whole(t, d, signer.Init(old, 8), old)
		is(t, d, device.Running, old)
	}
}

// goOn holds a device, which was reset without entry, against what had been executed when the power failed.
func goOn(t *testing.T, d *device.Device, f *flash.Flash, executed int, old, image []byte) {
	t.Helper()
	r, _, e := settings.Load(f)
	state, run := d.State()
	if e != api.OK || state != device.Running || r.Floor != 5 && r.Floor != 7 || r.Phase == record.Copying {
		t.Fatal(r, e, state)
	}
	isNew := bytes.Equal(run, image)
	if !isNew && !bytes.Equal(run, old) || executed == 2 && !isNew || executed == 1 && !isNew && r.Phase != record.Receiving {
		t.Fatal(executed, "were executed:", r)
	}
}

// P21.6
func TestOnlyExecuteTakesSteps(t *testing.T) {
	image := testkit.Sample(1500, 2)
	init := signer.Init(image, 7)
	f := made(t, 34)
	d := started(t, f, true)
	l := parts(t, init, image)
	d.Feed(l[0]...)
	d.Feed(l[1]...)
	before, steps := content(t, f), f.Steps()
	execute := frame(t, opcode.Request{Op: opcode.Execute})
	for _, fed := range [][]byte{
		sending(t, object.Data, image[1024:]), {0, 192}, {2, 3, 0, 192}, {3, 192}, {6, 1, 192}, {6, 2, 192}, {6, 3, 192}, {7, 192}, {8, 1, 192}, {9, 1, 192},
		{12, 192}, {5, 192}, {1, 192}, execute, append(sending(t, object.Command, init), execute...),
		append(sending(t, object.Command, []byte{1, 2}), execute...), append(sending(t, object.Command, signer.Init(image, 8)), 12, 192), {2, 0, 0, 192},
	} {
		d.Feed(fed...)
		if f.Steps() != steps || !bytes.Equal(content(t, f), before) {
			t.Fatal(fed[0], "took steps")
		}
	}
	answers(t, d, l[2], answer(opcode.Create, opcode.Success), answer(opcode.Execute, opcode.Success))
	is(t, d, device.Running, image)
}

// The limits are those of the device, with its floor and the room of its bank.
func TestLimits(t *testing.T) {
	image := testkit.Sample(100, 2)
	l := signer.Limits()
	l.Room, l.Floor = 1, 9
	d, _ := device.New(made(t, 34), l, true)
	answers(t, d, parts(t, signer.Init(image, 8), image)[0], answer(opcode.Create, opcode.Success), answer(opcode.Execute, opcode.Object, byte(api.ErrVersion)))
	whole(t, d, signer.Init(image, 9), image)
	is(t, d, device.Running, image)
	d, _ = device.New(made(t, 34), packet.Limits{}, true)
	answers(t, d, parts(t, signer.Init(image, 8), image)[0], answer(opcode.Create, opcode.Success), answer(opcode.Execute, opcode.Object, byte(api.ErrHardware)))
}
