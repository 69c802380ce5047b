package uploader_test

import (
	"bytes"
	"slices"
	"testing"

	"bosun/api"
	"bosun/crc"
	"bosun/deslip"
	"bosun/object"
	"bosun/opcode"
	"bosun/slip"
	"bosun/testkit"
	"bosun/uploader"
)

var signer = testkit.NewSigner([32]byte{22})

func made(t *testing.T, init, image []byte) *uploader.Uploader {
	t.Helper()
	u, e := uploader.New(init, image)
	if u == nil || e != api.OK {
		t.Fatal("New:", e)
	}
	return u
}

// sends holds what is sent against the frames of requests, as bytes.
func sends(t *testing.T, u *uploader.Uploader, want ...[]byte) {
	t.Helper()
	if got := u.Send(); !bytes.Equal(got, slip.Encode(want...)) {
		t.Errorf("Send: %d, want the frames of %d", got, want)
	}
	if got := u.Send(); len(got) != 0 {
		t.Errorf("Send once more: %d", got)
	}
}

// sending is the requests of an object.
func sending(kind byte, b []byte) [][]byte {
	l := [][]byte{append([]byte{1, kind}, opcode.Numbers(uint32(len(b)))...)}
	for len(b) > 0 {
		n := min(60, len(b))
		l = append(l, append([]byte{8}, b[:n]...))
		b = b[n:]
	}
	return append(l, []byte{3})
}

func hear(u *uploader.Uploader, op, result byte, data ...byte) {
	u.Hear(slip.Encode(opcode.Response{Op: op, Result: result, Data: data}.Encode())...)
}

func is(t *testing.T, u *uploader.Uploader, done bool, n int) {
	t.Helper()
	if gotDone, got := u.Done(); gotDone != done || got != n {
		t.Errorf("Done: %v, %d, want %v, %d", gotDone, got, done, n)
	}
}

var greeting = [][]byte{{2, 0, 0}, {6, 1}}

// What brings an uploader from each phase to the next one.
func greeted(u *uploader.Uploader) { hear(u, opcode.Select, opcode.Success) }

func offered(u *uploader.Uploader) { hear(u, opcode.Execute, opcode.Success) }

func looked(u *uploader.Uploader, kept, sum uint32) {
	hear(u, opcode.Select, opcode.Success, opcode.Numbers(1024, kept, sum)...)
}

func fed(u *uploader.Uploader, image []byte, end int) {
	hear(u, opcode.Crc, opcode.Success, opcode.Numbers(uint32(end), crc.Sum(image[:end]))...)
}

// P22.1
func TestNew(t *testing.T) {
	for _, c := range []struct {
		init, image int
		e           api.Errno
	}{{0, 1, api.ErrArg}, {1, 0, api.ErrArg}, {129, 1, api.ErrArg}, {1, 4097, api.ErrArg}, {1, 1, api.OK}, {128, 4096, api.OK}} {
		u, e := uploader.New(make([]byte, c.init), make([]byte, c.image))
		if e != c.e || (u != nil) != (e == api.OK) {
			t.Error(c, u, e)
		}
	}
}

// P22.1, P22.2: from phase to phase.
func TestPhases(t *testing.T) {
	init, image := testkit.Sample(121, 1), testkit.Sample(2500, 2)
	u := made(t, init, image)
	is(t, u, false, 0)
	sends(t, u, []byte{2, 0, 0}, []byte{6, 1})
	is(t, u, false, 1)
	greeted(u)
	sends(t, u, append(sending(1, init), []byte{4})...)
	offered(u)
	sends(t, u, []byte{6, 2})
	looked(u, 0, 0)
	for i, end := range []int{1024, 2048, 2500} {
		sends(t, u, sending(2, image[1024*i:end])...)
		fed(u, image, end)
		sends(t, u, []byte{4})
		is(t, u, false, 5+2*i)
		offered(u)
	}
	is(t, u, true, 9)
	sends(t, u)
	is(t, u, true, 10)
}

// P22.1: objects around whole Writes.
func TestWrites(t *testing.T) {
	for _, n := range []int{1, 59, 60, 61, 119, 120, 121} {
		b := testkit.Sample(n, 4)
		u := made(t, b, b)
		u.Send()
		greeted(u)
		sends(t, u, append(sending(1, b), []byte{4})...)
		offered(u)
		looked(u, 0, 0)
		sends(t, u, sending(2, b)...)
	}
}

// P22.1
func TestArgumentsAreNotKept(t *testing.T) {
	init, image := []byte{1, 2}, []byte{3, 4}
	u := made(t, init, image)
	init[0], image[0] = 9, 9
	u.Send()
	greeted(u)
	sends(t, u, append(sending(1, []byte{1, 2}), []byte{4})...)
	offered(u)
	looked(u, 0, 0)
	sends(t, u, sending(2, []byte{3, 4})...)
}

// P22.2: what is kept already is not sent.
func TestLook(t *testing.T) {
	image := testkit.Sample(2500, 2)
	for _, c := range []struct{ kept, from int }{{0, 0}, {1, 0}, {1023, 0}, {1024, 1024}, {1025, 1024}, {2048, 2048}, {2499, 2048}} {
		u := made(t, []byte{1}, image)
		greeted(u)
		offered(u)
		looked(u, uint32(c.kept), crc.Sum(image[:c.from]))
		end := min(c.from+1024, 2500)
		sends(t, u, sending(2, image[c.from:end])...)
		fed(u, image, end)
		sends(t, u, []byte{4})
	}
	for _, kept := range []uint32{2500, 2501, 1 << 31, 1<<32 - 1} {
		u := made(t, []byte{1}, image)
		greeted(u)
		offered(u)
		looked(u, kept, 7)
		is(t, u, true, 0)
	}
}

// P22.2: the checksum that is compared begins with the one that was reported.
func TestFeed(t *testing.T) {
	image := testkit.Sample(2500, 2)
	right := crc.Update(77, image[1024:2048])
	for _, c := range []struct {
		what   string
		n, sum uint32
		commit bool
	}{{"right", 2048, right, true}, {"another sum", 2048, right + 1, false}, {"less", 2047, right, false}, {"more", 2049, right, false}, {"much more", 1<<32 - 1, right, false}, {"that of the image itself", 2048, crc.Sum(image[:2048]), false}} {
		u := made(t, []byte{1}, image)
		greeted(u)
		offered(u)
		looked(u, 1024, 77)
		u.Send()
		hear(u, opcode.Crc, opcode.Success, opcode.Numbers(c.n, c.sum)...)
		if !c.commit {
			sends(t, u, greeting...)
			continue
		}
		sends(t, u, []byte{4})
		offered(u)
		sends(t, u, sending(2, image[2048:])...)
		hear(u, opcode.Crc, opcode.Success, opcode.Numbers(2500, crc.Update(right, image[2048:]))...)
		sends(t, u, []byte{4})
	}
}

// in is an uploader in each phase, which has sent, with what it sends there.
func in(t *testing.T, image []byte) map[string]*uploader.Uploader {
	t.Helper()
	l := map[string]*uploader.Uploader{}
	steps := []struct {
		phase string
		step  func(u *uploader.Uploader)
	}{
		{"greet", func(u *uploader.Uploader) {}},
		{"offer", greeted},
		{"look", offered},
		{"feed", func(u *uploader.Uploader) { looked(u, 0, 0) }},
		{"commit", func(u *uploader.Uploader) { fed(u, image, len(image)) }},
		{"done", offered},
	}
	for i, s := range steps {
		u := made(t, []byte{1}, image)
		for _, before := range steps[:i+1] {
			before.step(u)
		}
		u.Send()
		l[s.phase] = u
	}
	return l
}

// P22.2: all other responses change nothing.
func TestOtherResponses(t *testing.T) {
	image := testkit.Sample(100, 2)
	wanted := map[string][]byte{"greet": {opcode.Select}, "offer": {opcode.Execute}, "look": {opcode.Select}, "feed": {opcode.Crc}, "commit": {opcode.Execute}, "done": nil}
	for op := range 256 {
		for phase, u := range in(t, image) {
			if slices.Contains(wanted[phase], byte(op)) {
				continue
			}
			done, n := u.Done()
			hear(u, byte(op), opcode.Success, opcode.Numbers(1, 2, 3)...)
			hear(u, byte(op), opcode.Success, opcode.Numbers(1, 2)...)
			hear(u, byte(op), opcode.Success)
			if len(u.Send()) != 0 {
				t.Error(phase, "hears", op)
			}
			is(t, u, done, n)
		}
	}
	for _, c := range []struct {
		phase string
		op    byte
		n     int
	}{{"look", opcode.Select, 0}, {"look", opcode.Select, 8}, {"look", opcode.Select, 11}, {"look", opcode.Select, 13}, {"feed", opcode.Crc, 0}, {"feed", opcode.Crc, 7}, {"feed", opcode.Crc, 12}} {
		u := in(t, image)[c.phase]
		hear(u, c.op, opcode.Success, make([]byte, c.n)...)
		if len(u.Send()) != 0 {
			t.Error(c.phase, "hears", c.n, "bytes")
		}
	}
}

// P22.2: any other result than Success.
func TestOtherResults(t *testing.T) {
	image := testkit.Sample(100, 2)
	for result := range 256 {
		if result == opcode.Success {
			continue
		}
		for phase, u := range in(t, image) {
			hear(u, byte(result*7), byte(result), make([]byte, result%5)...)
			if phase == "done" {
				if is(t, u, true, 1); len(u.Send()) != 0 {
					t.Error("done, and result", result)
				}
				continue
			}
			sends(t, u, greeting...)
		}
	}
}

// P22.2: what is no response changes nothing.
func TestNoResponses(t *testing.T) {
	for phase, u := range in(t, testkit.Sample(100, 2)) {
		u.Hear(192, 192, 96, 192, 96, 4, 192, 95, 4, 9, 192, 219, 96, 4, 9, 192)
		u.Hear(append(append([]byte{96, 4, 9}, make([]byte, 68)...), 192)...)
		u.Hear()
		if len(u.Send()) != 0 {
			t.Error(phase)
		}
	}
	u := made(t, []byte{1}, []byte{2})
	u.Send()
	for _, c := range []byte{7, 192, 96, 6, 1, 192} { // byte by byte
		u.Hear(c)
	}
	sends(t, u, append(sending(1, []byte{1}), []byte{4})...)
}

// P22.2: several texts at once.
func TestManyTexts(t *testing.T) {
	u := made(t, []byte{1}, []byte{2})
	u.Hear(slip.Encode([]byte{96, 2, 1}, []byte{96, 6, 1, 0}, []byte{96, 4, 1})...)
	sends(t, u, []byte{6, 2})
}

// P22.3
func TestTick(t *testing.T) {
	image := testkit.Sample(100, 2)
	for phase, u := range in(t, image) {
		done, _ := u.Done()
		for range 7 {
			u.Tick()
		}
		is(t, u, done, 1)
		if len(u.Send()) != 0 {
			t.Error(phase, "waited too little")
		}
		u.Tick()
		is(t, u, false, 1)
		sends(t, u, greeting...)
		for range 7 {
			u.Tick()
		}
		greeted(u) // which begins to wait anew
		for range 7 {
			u.Tick()
		}
		sends(t, u, append(sending(1, []byte{1}), []byte{4})...)
		hear(u, opcode.Write, opcode.Success) // which does not
		u.Tick()
		sends(t, u, greeting...)
	}
}

// P22.4
func TestNil(t *testing.T) {
	var u *uploader.Uploader
	u.Hear(96, 6, 1, 192)
	u.Tick()
	if b := u.Send(); b != nil {
		t.Error(b)
	}
	is(t, u, false, 0)
}

// P22.5
func TestMachine(t *testing.T) {
	for _, size := range []int{1, 60, 61, 1024, 1025, 2048, 3000, 4096} {
		image := testkit.Sample(size, 3)
		init := signer.Init(image, 1)
		u := made(t, init, image)
		var s object.Memory
		m, _ := object.New(&s, signer.Limits())
		d, _ := deslip.New(70)
		turns := 0
		for ; turns < 20; turns++ {
			if done, _ := u.Done(); done {
				break
			}
			for _, c := range u.Send() {
				text, e := d.Feed(c)
				if r, wrong := opcode.Parse(text); e == api.OK && wrong == api.OK {
					if answer, ok := m.Ask(r); ok {
						u.Hear(slip.Encode(answer.Encode())...)
					}
				}
			}
		}
		_, complete := m.Complete()
		kept, _ := s.Image()
		want := 3 + 2*((size+1023)/1024)
		if is(t, u, true, want); !complete || turns != want || !bytes.Equal(kept, image) {
			t.Error(size, complete, turns)
		}
	}
}
