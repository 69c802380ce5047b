package object_test

import (
	"bytes"
	"testing"

	"bosun/api"
	"bosun/crc"
	"bosun/object"
	"bosun/opcode"
	"bosun/packet"
	"bosun/testkit"
)

var signer = testkit.NewSigner([32]byte{17})

// faulty is a store in memory whose calls may return errors, and which counts them.
type faulty struct {
	object.Memory
	start, put, image api.Errno
	starts, puts      int
}

func (f *faulty) Start(init []byte) api.Errno {
	f.starts++
	if f.start != api.OK {
		return f.start
	}
	return f.Memory.Start(init)
}

func (f *faulty) Put(b []byte) api.Errno {
	f.puts++
	if f.put != api.OK {
		return f.put
	}
	return f.Memory.Put(b)
}

func (f *faulty) Image() ([]byte, api.Errno) {
	if f.image != api.OK {
		return nil, f.image
	}
	return f.Memory.Image()
}

// bench is a machine, and its store.
type bench struct {
	t *testing.T
	m *object.Machine
	s *faulty
}

func newBench(t *testing.T) *bench {
	t.Helper()
	b := &bench{t: t, s: &faulty{}}
	b.renew()
	return b
}

// renew puts a new machine on the same store.
func (b *bench) renew() {
	b.t.Helper()
	m, e := object.New(b.s, signer.Limits())
	if m == nil || e != api.OK {
		b.t.Fatal("New:", e)
	}
	b.m = m
}

// is asks, and holds the response against a result and data.
func (b *bench) is(r opcode.Request, result byte, data ...byte) {
	b.t.Helper()
	b.answers(r, opcode.Response{Op: r.Op, Result: result, Data: data})
}

func (b *bench) answers(r opcode.Request, want opcode.Response) {
	b.t.Helper()
	got, ok := b.m.Ask(r)
	if !ok || got.Op != want.Op || got.Result != want.Result || !bytes.Equal(got.Data, want.Data) {
		b.t.Errorf("%v: %v, %v, want %v", r, got, ok, want)
	}
}

// silent asks, and wants no response.
func (b *bench) silent(r opcode.Request) {
	b.t.Helper()
	if got, ok := b.m.Ask(r); ok || got.Op != 0 || got.Result != 0 || got.Data != nil {
		b.t.Errorf("%v: %v, %v, want no response", r, got, ok)
	}
}

// send creates an object and writes all of its bytes.
func (b *bench) send(kind byte, data []byte) {
	b.t.Helper()
	b.is(create(kind, len(data)), opcode.Success)
	for len(data) > 0 {
		n := min(60, len(data))
		b.silent(write(data[:n]...))
		data = data[n:]
	}
}

// whole sends and executes a packet and all objects of an image.
func (b *bench) whole(init, image []byte) {
	b.t.Helper()
	b.send(object.Command, init)
	b.is(execute, opcode.Success)
	for len(image) > 0 {
		n := min(1024, len(image))
		b.send(object.Data, image[:n])
		b.is(execute, opcode.Success)
		image = image[n:]
	}
}

func (b *bench) complete(want bool) {
	b.t.Helper()
	p, ok := b.m.Complete()
	if ok != want || !ok && p != (packet.Packet{}) {
		b.t.Errorf("Complete: %v, %v", p, ok)
	}
}

var (
	execute = opcode.Request{Op: opcode.Execute}
	sum     = opcode.Request{Op: opcode.Crc}
	abort   = opcode.Request{Op: opcode.Abort}
)

func create(kind byte, size int) opcode.Request {
	return opcode.Request{Op: opcode.Create, Type: kind, Size: uint32(size)}
}

func choose(kind byte) opcode.Request { return opcode.Request{Op: opcode.Select, Type: kind} }

func receipt(n uint32) opcode.Request { return opcode.Request{Op: opcode.Receipt, Size: n} }

func write(b ...byte) opcode.Request { return opcode.Request{Op: opcode.Write, Data: b} }

// of is the two numbers that describe bytes; with describes them behind another number.
func of(l ...[]byte) []byte {
	n := 0
	for _, b := range l {
		n += len(b)
	}
	return opcode.Numbers(uint32(n), crc.Sum(l...))
}

func with(most uint32, l ...[]byte) []byte {
	return append(opcode.Numbers(most), of(l...)...)
}

// P17.1
func TestNewOnNothing(t *testing.T) {
	if m, e := object.New(nil, signer.Limits()); m != nil || e != api.ErrArg {
		t.Error(m, e)
	}
	b := newBench(t)
	b.complete(false)
	b.is(sum, opcode.NotNow)
	b.is(choose(1), opcode.Success, with(128)...)
	b.is(choose(2), opcode.Success, with(1024)...)
	b.is(create(2, 1), opcode.NotNow)
	if b.s.starts != 0 || b.s.puts != 0 {
		t.Error("the store was changed")
	}
}

// P17.1
func TestNewGoesOn(t *testing.T) {
	image := testkit.Sample(3000, 1)
	init := signer.Init(image, 7)
	for _, n := range []int{0, 1, 1024, 2048, 3000} {
		b := newBench(t)
		b.s.Memory.Start(init)
		b.s.Memory.Put(image[:n])
		b.renew()
		b.is(sum, opcode.NotNow)
		b.is(choose(1), opcode.Success, with(128, init)...)
		b.is(choose(2), opcode.Success, with(1024, image[:n])...)
		b.complete(n == 3000)
		if n == 3000 {
			b.is(create(2, 1024), opcode.NotNow)
		} else {
			b.is(create(2, min(1024, 3000-n)), opcode.Success)
			b.is(sum, opcode.Success, of(image[:n])...)
		}
		if b.s.starts != 0 {
			t.Error("the store began anew")
		}
	}
}

// P17.1
func TestNewOnWhatIsWrong(t *testing.T) {
	image := testkit.Sample(300, 1)
	init := signer.Init(image, 7)
	broken := bytes.Clone(init)
	broken[120] ^= 1
	for what, s := range map[string]struct{ init, image []byte }{
		"a packet that is not accepted": {broken, nil},
		"no packet":                     {nil, image},
		"more bytes than the packet's":  {init, append(bytes.Clone(image), 1)},
	} {
		b := newBench(t)
		b.s.Memory.Start(s.init)
		b.s.Memory.Put(s.image)
		b.renew()
		b.complete(false)
		b.is(choose(1), opcode.Success, with(128)...)
		b.is(choose(2), opcode.Success, with(1024)...)
		b.is(create(2, 300), opcode.NotNow)
		if b.s.starts != 0 {
			t.Error("the store began anew:", what)
		}
	}
}

// P17.1
func TestNewOnAnotherImage(t *testing.T) {
	image := testkit.Sample(300, 1)
	init := signer.Init(image, 7)
	b := newBench(t)
	b.s.Memory.Start(init)
	b.s.Memory.Put(testkit.Sample(300, 2))
	b.renew()
	b.complete(false)
	if got, n := b.s.Load(); b.s.starts != 1 || n != 0 || !bytes.Equal(got, init) {
		t.Error("the store did not begin anew:", b.s.starts, n)
	}
	b.is(choose(1), opcode.Success, with(128, init)...)
	b.is(choose(2), opcode.Success, with(1024)...)
	b.send(object.Data, image)
	b.is(execute, opcode.Success)
	b.complete(true)
}

// P17.1
func TestComplete(t *testing.T) {
	image := testkit.Sample(1500, 3)
	b := newBench(t)
	b.send(object.Command, signer.Init(image, 7))
	b.is(execute, opcode.Success)
	b.complete(false)
	b.send(object.Data, image[:1024])
	b.is(execute, opcode.Success)
	b.complete(false)
	b.send(object.Data, image[1024:])
	b.complete(false)
	b.is(execute, opcode.Success)
	p, ok := b.m.Complete()
	want, _ := packet.Parse(signer.Init(image, 7))
	if !ok || p != want {
		t.Error(p, ok)
	}
	b.is(abort, opcode.Success)
	b.complete(true)
	b.is(choose(2), opcode.Success, with(1024, image)...)
}

// P17.2
func TestSimpleRequests(t *testing.T) {
	b := newBench(t)
	b.is(opcode.Request{Op: opcode.Version}, opcode.Success, 1)
	b.is(opcode.Request{Op: opcode.Ping, Type: 7}, opcode.Success, 7)
	b.is(opcode.Request{Op: opcode.Ping}, opcode.Success, 0)
	b.is(opcode.Request{Op: opcode.Mtu}, opcode.Success, 70, 0)
	b.is(receipt(3), opcode.Success)
	b.is(abort, opcode.Success)
	for _, op := range []byte{5, 10, 11, 13, 96, 255} {
		b.is(opcode.Request{Op: op}, opcode.Unknown)
	}
}

// P17.2
func TestSelectAndCrc(t *testing.T) {
	image := testkit.Sample(2000, 4)
	init := signer.Init(image, 7)
	b := newBench(t)
	for _, kind := range []byte{0, 3, 255} {
		b.is(choose(kind), opcode.Type)
		b.is(sum, opcode.NotNow)
	}
	b.is(choose(1), opcode.Success, with(128)...)
	b.is(sum, opcode.Success, of()...)
	b.is(choose(9), opcode.Type)
	b.is(sum, opcode.Success, of()...)
	b.is(create(1, len(init)), opcode.Success)
	b.silent(write(init[:7]...))
	b.is(sum, opcode.Success, of(init[:7])...)
	b.is(choose(1), opcode.Success, with(128, init[:7])...)
	b.is(choose(2), opcode.Success, with(1024)...)
	b.is(sum, opcode.Success, of()...)
	b.is(choose(1), opcode.Success, with(128, init[:7])...)
	b.silent(write(init[7:]...))
	b.is(execute, opcode.Success)
	b.is(sum, opcode.Success, of(init)...)
	b.send(object.Data, image[:1024])
	b.is(sum, opcode.Success, of(image[:1024])...)
	b.is(execute, opcode.Success)
	b.is(sum, opcode.Success, of(image[:1024])...)
	b.is(create(2, 976), opcode.Success)
	b.silent(write(image[1024:1030]...))
	b.is(sum, opcode.Success, of(image[:1030])...)
	b.is(choose(2), opcode.Success, with(1024, image[:1030])...)
	b.is(create(1, 5), opcode.Success) // from now on the data object is not open
	b.silent(write(1, 2))
	b.is(sum, opcode.Success, of([]byte{1, 2})...)
	b.is(choose(2), opcode.Success, with(1024, image[:1024])...)
}

// P17.2
func TestAbort(t *testing.T) {
	image := testkit.Sample(2000, 4)
	init := signer.Init(image, 7)
	b := newBench(t)
	b.whole(init, nil)
	b.send(object.Data, image[:1024])
	b.is(abort, opcode.Success)
	b.is(sum, opcode.NotNow)
	b.is(write(1), opcode.NotNow)
	b.is(execute, opcode.NotNow)
	b.is(choose(2), opcode.Success, with(1024)...)
	b.is(execute, opcode.NotNow)
	b.send(object.Command, []byte{1, 2})
	b.is(abort, opcode.Success)
	b.is(choose(1), opcode.Success, with(128, init)...)
	b.is(write(1), opcode.NotNow)
	b.is(receipt(2), opcode.Success)
	b.is(create(2, 1024), opcode.Success)
	b.silent(write(1))
	b.is(abort, opcode.Success) // COUNT begins anew, EVERY stays
	b.is(create(2, 1024), opcode.Success)
	b.silent(write(1))
	b.answers(write(2), opcode.Response{Op: opcode.Crc, Result: opcode.Success, Data: of([]byte{1, 2})})
}

// P17.2, P17.3
func TestReceipt(t *testing.T) {
	b := newBench(t)
	told := func(c ...byte) opcode.Response {
		return opcode.Response{Op: opcode.Crc, Result: opcode.Success, Data: of(c)}
	}
	b.is(receipt(1), opcode.Success)
	b.is(create(1, 20), opcode.Success)
	b.answers(write(1), told(1))
	b.answers(write(2), told(1, 2))
	b.is(receipt(3), opcode.Success)
	b.silent(write(3))
	b.silent(write(4))
	b.answers(write(5), told(1, 2, 3, 4, 5))
	b.silent(write(6))
	b.silent(write())
	b.is(write(make([]byte, 20)...), opcode.Param) // which does not count
	b.answers(write(7), told(1, 2, 3, 4, 5, 6, 7))
	b.silent(write(8))
	b.silent(write(9))
	b.is(receipt(3), opcode.Success) // COUNT begins anew
	b.silent(write(10))
	b.is(create(1, 20), opcode.Success) // COUNT goes on
	b.silent(write(1))
	b.answers(write(2), told(1, 2))
	b.is(receipt(0), opcode.Success)
	for range 10 {
		b.silent(write(1))
	}
	b.is(receipt(1<<32-1), opcode.Success)
	b.silent(write(1))
}

// P17.3
func TestCreateCommand(t *testing.T) {
	b := newBench(t)
	for _, size := range []int{0, 129, 1024, 1<<32 - 1} {
		b.is(create(1, size), opcode.Resources)
		b.is(sum, opcode.NotNow)
	}
	b.is(create(1, 128), opcode.Success)
	b.silent(write(make([]byte, 128)...))
	b.is(create(1, 129), opcode.Resources)
	b.is(sum, opcode.Success, of(make([]byte, 128))...) // what is wrong changes nothing
	b.is(create(1, 1), opcode.Success)
	b.is(sum, opcode.Success, of()...)
	for _, kind := range []byte{0, 3, 255} {
		b.is(create(kind, 1), opcode.Type)
	}
	b.is(sum, opcode.Success, of()...)
}

// P17.3
func TestCreateData(t *testing.T) {
	image := testkit.Sample(2500, 5)
	b := newBench(t)
	for _, size := range []int{0, 1, 1024, 1025} {
		b.is(create(2, size), opcode.NotNow)
	}
	b.whole(signer.Init(image, 7), nil)
	for _, size := range []int{0, 1, 1023, 1025, 1<<32 - 1} {
		b.is(create(2, size), opcode.Param)
	}
	b.is(choose(1), opcode.Success, with(128, signer.Init(image, 7))...)
	b.is(create(2, 1024), opcode.Success)
	b.silent(write(image[:9]...))
	b.is(create(2, 1023), opcode.Param)
	b.is(sum, opcode.Success, of(image[:9])...)
	b.is(create(2, 1024), opcode.Success)
	b.is(sum, opcode.Success, of()...)
	b.send(object.Data, image[:1024])
	b.is(execute, opcode.Success)
	b.send(object.Data, image[1024:2048])
	b.is(execute, opcode.Success)
	for _, size := range []int{0, 1, 451, 453, 1024} {
		b.is(create(2, size), opcode.Param)
	}
	b.send(object.Data, image[2048:])
	b.is(execute, opcode.Success)
	for _, size := range []int{0, 1, 1024, 1025} {
		b.is(create(2, size), opcode.NotNow)
	}
}

// P17.3: an image of just two whole objects.
func TestWholeObjects(t *testing.T) {
	image := testkit.Sample(2048, 6)
	b := newBench(t)
	b.whole(signer.Init(image, 7), image)
	b.complete(true)
}

// P17.3: a command object stays open beside a data object.
func TestBothOpen(t *testing.T) {
	image := testkit.Sample(100, 7)
	init := signer.Init(image, 7)
	b := newBench(t)
	b.whole(init, nil)
	b.is(create(1, 5), opcode.Success)
	b.silent(write(1, 2))
	b.send(object.Data, image)
	b.is(choose(1), opcode.Success, with(128, []byte{1, 2})...)
	b.silent(write(3))
	b.is(choose(2), opcode.Success, with(1024, image)...)
	b.is(execute, opcode.Success)
	b.complete(true)
	b.is(choose(1), opcode.Success, with(128, []byte{1, 2, 3})...)
}

// P17.3
func TestWrite(t *testing.T) {
	b := newBench(t)
	b.is(write(1), opcode.NotNow)
	b.is(choose(1), opcode.Success, with(128)...)
	b.is(write(1), opcode.NotNow)
	b.is(create(1, 3), opcode.Success)
	b.is(write(1, 2, 3, 4), opcode.Param)
	b.silent(write(1, 2))
	b.is(write(3, 4), opcode.Param)
	b.is(sum, opcode.Success, of([]byte{1, 2})...)
	b.silent(write(3))
	b.is(write(4), opcode.Param)
	b.is(sum, opcode.Success, of([]byte{1, 2, 3})...)
	b.is(choose(2), opcode.Success, with(1024)...)
	b.is(write(1), opcode.NotNow)
}

// P17.3
func TestWriteKeepsNothingOfItsArgument(t *testing.T) {
	b := newBench(t)
	b.is(create(1, 9), opcode.Success)
	c := []byte{1, 2}
	b.silent(write(c...))
	c[0] = 9
	b.is(sum, opcode.Success, of([]byte{1, 2})...)
}

// P17.4
func TestExecuteCommand(t *testing.T) {
	image := testkit.Sample(2000, 8)
	init := signer.Init(image, 7)
	b := newBench(t)
	b.is(execute, opcode.NotNow)
	b.is(choose(1), opcode.Success, with(128)...)
	b.is(execute, opcode.NotNow)
	b.is(create(1, len(init)), opcode.Success)
	b.is(execute, opcode.NotNow)
	b.silent(write(init[:120]...))
	b.is(execute, opcode.NotNow)
	b.silent(write(init[120:]...)) // it was open all the time
	b.is(execute, opcode.Success)
	b.is(execute, opcode.NotNow)
	if got, n := b.s.Load(); !bytes.Equal(got, init) || n != 0 || b.s.starts != 1 {
		t.Error(got, n, b.s.starts)
	}
	b.send(object.Data, image[:1024])
	b.is(execute, opcode.Success)
	b.whole(init, nil) // the same packet: what is kept stays
	b.is(choose(2), opcode.Success, with(1024, image[:1024])...)
	other := signer.Init(image, 8)
	b.whole(other, nil)
	b.is(choose(2), opcode.Success, with(1024)...)
	b.is(choose(1), opcode.Success, with(128, other)...)
	if got, n := b.s.Load(); !bytes.Equal(got, other) || n != 0 || b.s.starts != 2 {
		t.Error(got, n, b.s.starts)
	}
}

// P17.4
func TestExecuteWrongCommand(t *testing.T) {
	image := testkit.Sample(2000, 8)
	init := signer.Init(image, 7)
	p := testkit.Describe(image, 7)
	p.Hardware++
	broken := bytes.Clone(init)
	broken[121-1] ^= 1
	large := testkit.Describe(image, 7)
	large.Size = 4097
	b := newBench(t)
	b.whole(init, image[:1024])
	for _, c := range []struct {
		bytes []byte
		e     api.Errno
	}{
		{init[:120], api.ErrCut}, {[]byte{1}, api.ErrCut}, {make([]byte, 128), api.ErrForm}, {signer.Packet(p), api.ErrHardware},
		{signer.Packet(large), api.ErrSize}, {broken, api.ErrSign},
	} {
		b.send(object.Command, c.bytes)
		b.is(execute, opcode.Object, byte(c.e))
		b.is(execute, opcode.NotNow)
		b.is(sum, opcode.Success, of(init)...) // of the executed one
		b.is(choose(2), opcode.Success, with(1024, image[:1024])...)
	}
	if b.s.starts != 1 {
		t.Error("the store began anew")
	}
	b.is(create(2, 976), opcode.Success)
}

// P17.4
func TestExecuteCommandClosesData(t *testing.T) {
	image := testkit.Sample(2000, 8)
	init := signer.Init(image, 7)
	for _, command := range [][]byte{init, {1}} {
		b := newBench(t)
		b.whole(init, nil)
		b.is(create(1, len(command)), opcode.Success)
		b.send(object.Data, image[:1024])
		b.is(choose(1), opcode.Success, with(128)...)
		for _, c := range command {
			b.silent(write(c))
		}
		b.m.Ask(execute)
		b.is(choose(2), opcode.Success, with(1024)...)
		b.is(execute, opcode.NotNow)
	}
}

// P17.4
func TestStartFails(t *testing.T) {
	image := testkit.Sample(2000, 8)
	init := signer.Init(image, 7)
	b := newBench(t)
	b.whole(init, image[:1024])
	b.s.start = api.ErrLock
	b.send(object.Command, signer.Init(image, 8))
	b.is(execute, opcode.Failed, byte(api.ErrLock))
	b.is(sum, opcode.Success, of()...)
	b.is(choose(2), opcode.Success, with(1024)...)
	b.is(create(2, 1024), opcode.NotNow)
	b.complete(false)
	b.s.start = api.OK
	b.whole(init, image)
	b.complete(true)
}

// P17.4
func TestPutFails(t *testing.T) {
	image := testkit.Sample(2000, 8)
	b := newBench(t)
	b.whole(signer.Init(image, 7), image[:1024])
	b.send(object.Data, image[1024:])
	b.s.put = api.ErrReset
	b.is(execute, opcode.Failed, byte(api.ErrReset))
	b.is(execute, opcode.NotNow)
	b.is(sum, opcode.Success, of(image[:1024])...)
	b.complete(false)
	b.s.put = api.OK
	b.send(object.Data, image[1024:])
	b.is(execute, opcode.Success)
	b.complete(true)
}

// P17.4
func TestImageFails(t *testing.T) {
	image := testkit.Sample(500, 8)
	b := newBench(t)
	b.s.image = api.ErrBounds
	b.whole(signer.Init(image, 7), nil)
	b.send(object.Data, image)
	b.is(sum, opcode.Success, of(image)...)
	b.is(execute, opcode.Failed, byte(api.ErrBounds))
	b.is(sum, opcode.Success, of(image)...)
	b.complete(false)
	b.is(create(2, 1), opcode.Param)
	b.is(create(2, 0), opcode.Param)
	b.s.image = api.OK
	b.complete(true)
	b.is(create(2, 1), opcode.NotNow)
	image[7] ^= 1
	b.s.image = api.ErrBounds
	b.whole(signer.Init(testkit.Sample(500, 8), 8), nil)
	b.send(object.Data, image)
	b.is(execute, opcode.Failed, byte(api.ErrBounds))
	b.s.image = api.OK
	b.complete(false) // all bytes are kept, but another image's
	b.is(create(2, 1), opcode.Param)
}

// P17.4
func TestAnotherImage(t *testing.T) {
	image := testkit.Sample(1500, 8)
	init := signer.Init(image, 7)
	wrong := bytes.Clone(image)
	wrong[3] ^= 1
	b := newBench(t)
	b.whole(init, wrong[:1024])
	b.send(object.Data, wrong[1024:])
	b.is(execute, opcode.Object, byte(api.ErrHash))
	b.complete(false)
	if got, n := b.s.Load(); !bytes.Equal(got, init) || n != 0 || b.s.starts != 2 {
		t.Error(n, b.s.starts)
	}
	b.is(sum, opcode.Success, of()...)
	b.is(choose(1), opcode.Success, with(128, init)...)
	b.send(object.Data, wrong[:1024])
	b.is(execute, opcode.Success)
	b.send(object.Data, wrong[1024:])
	b.s.start = api.ErrProgram
	b.is(execute, opcode.Object, byte(api.ErrHash))
	b.is(choose(1), opcode.Success, with(128)...)
	b.is(choose(2), opcode.Success, with(1024)...)
	b.is(create(2, 1024), opcode.NotNow)
}

// P17.4: byte by byte the same, however it is cut.
func TestSmallWrites(t *testing.T) {
	image := testkit.Sample(70, 9)
	b := newBench(t)
	b.whole(signer.Init(image, 1), nil)
	b.is(create(2, 70), opcode.Success)
	for _, c := range image {
		b.silent(write(c))
	}
	b.is(execute, opcode.Success)
	b.complete(true)
	if got, e := b.s.Image(); !bytes.Equal(got, image) || e != api.OK {
		t.Error(got, e)
	}
}

// P17.5
func TestNil(t *testing.T) {
	var m *object.Machine
	for _, op := range []byte{opcode.Version, opcode.Ping, opcode.Write, opcode.Execute, 5} {
		if r, ok := m.Ask(opcode.Request{Op: op}); !ok || r.Op != op || r.Result != opcode.Failed || len(r.Data) != 0 {
			t.Error(r, ok)
		}
	}
	if p, ok := m.Complete(); ok || p != (packet.Packet{}) {
		t.Error(p, ok)
	}
}

func TestMemory(t *testing.T) {
	var s object.Memory
	if init, n := s.Load(); init != nil || n != 0 {
		t.Error(init, n)
	}
	given := []byte{1, 2, 3}
	s.Start(given)
	s.Put(given)
	s.Put([]byte{4})
	given[0] = 9
	init, n := s.Load()
	init[1] = 8
	init, n = s.Load()
	image, e := s.Image()
	if !bytes.Equal(init, []byte{1, 2, 3}) || n != 4 || !bytes.Equal(image, []byte{1, 2, 3, 4}) || e != api.OK {
		t.Error(init, n, image, e)
	}
	init[0], image[0] = 7, 7
	if again, _ := s.Image(); again[0] != 1 {
		t.Error("results share memory with the store")
	}
	s.Start([]byte{5})
	if init, n := s.Load(); !bytes.Equal(init, []byte{5}) || n != 0 {
		t.Error(init, n)
	}
	var none *object.Memory
	none.Load()
	none.Start(nil)
	none.Put(nil)
	none.Image()
}
