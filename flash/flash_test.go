package flash_test

import (
	"bytes"
	"math"
	"slices"
	"testing"

	"bosun/api"
	"bosun/flash"
)

func made(t *testing.T, pages int) *flash.Flash {
	t.Helper()
	f, e := flash.New(pages)
	if e != api.OK || f == nil {
		t.Fatalf("New(%d): %d", pages, e)
	}
	return f
}

func want(t *testing.T, what string, got, want api.Errno) {
	t.Helper()
	if got != want {
		t.Errorf("%s: error %d, want %d", what, got, want)
	}
}

func content(t *testing.T, f *flash.Flash) []byte {
	t.Helper()
	b, e := f.Read(0, f.Size())
	want(t, "Read of all", e, api.OK)
	return b
}

// P1.1
func TestNew(t *testing.T) {
	for _, n := range []int{math.MinInt, -1, 0, 65, math.MaxInt} {
		if f, e := flash.New(n); f != nil || e != api.ErrArg {
			t.Errorf("New(%d): %v, %d", n, f, e)
		}
	}
	for _, n := range []int{1, 2, 34, 64} {
		f := made(t, n)
		if f.Size() != n*256 || f.Off() || f.Steps() != 0 || len(f.Worn()) != n {
			t.Errorf("New(%d): size %d, off %v, steps %d, worn %v", n, f.Size(), f.Off(), f.Steps(), f.Worn())
		}
		if !bytes.Equal(content(t, f), bytes.Repeat([]byte{255}, n*256)) {
			t.Errorf("New(%d) is not erased", n)
		}
	}
}

// P1.1
func TestLock(t *testing.T) {
	f := made(t, 4)
	for _, c := range []struct {
		from, to int
		e        api.Errno
	}{{-1, 2, api.ErrArg}, {2, 1, api.ErrArg}, {0, 5, api.ErrArg}, {5, 5, api.ErrArg}, {4, 4, api.OK}, {0, 0, api.OK}, {0, 4, api.OK}, {1, 3, api.OK}} {
		want(t, "Lock", f.Lock(c.from, c.to), c.e)
	}
	want(t, "a wrong Lock", f.Lock(3, 9), api.ErrArg)
	for page, e := range []api.Errno{api.OK, api.ErrLock, api.ErrLock, api.OK} {
		want(t, "Erase behind Lock(1, 3)", f.Erase(page), e)
		want(t, "Program behind Lock(1, 3)", f.Program(page*256+252, make([]byte, 4)), e)
	}
	want(t, "Lock", f.Lock(3, 4), api.OK)
	for page, e := range []api.Errno{api.OK, api.OK, api.OK, api.ErrLock} {
		want(t, "Erase behind Lock(3, 4)", f.Erase(page), e)
	}
	want(t, "Lock of none", f.Lock(2, 2), api.OK)
	want(t, "Program across a page where none is locked", f.Program(508, make([]byte, 8)), api.OK)
	want(t, "Erase where none is locked", f.Erase(3), api.OK)
}

// P1.1
func TestFailAndPower(t *testing.T) {
	f := made(t, 1)
	want(t, "Fail(-1)", f.Fail(-1, 0), api.ErrArg)
	want(t, "Erase behind a wrong Fail", f.Erase(0), api.OK)
	want(t, "Fail", f.Fail(0, 0), api.OK)
	f.Power()
	want(t, "Erase behind Power", f.Erase(0), api.OK)
	want(t, "Fail", f.Fail(2, 0), api.OK)
	want(t, "first step", f.Erase(0), api.OK)
	want(t, "second step", f.Program(0, make([]byte, 4)), api.OK)
	if f.Off() {
		t.Error("the power failed too early")
	}
	want(t, "third step", f.Erase(0), api.ErrReset)
	if !f.Off() {
		t.Error("the power did not fail")
	}
	want(t, "Lock without power", f.Lock(0, 1), api.OK)
	want(t, "a wrong Lock without power", f.Lock(0, 2), api.ErrArg)
	want(t, "Fail without power", f.Fail(0, 0), api.OK)
	want(t, "a wrong Fail without power", f.Fail(-2, 0), api.ErrArg)
	f.Power()
	if f.Off() {
		t.Error("no power behind Power")
	}
	want(t, "Erase of a page that was locked without power", f.Erase(0), api.ErrLock)
	want(t, "Lock", f.Lock(0, 0), api.OK)
	want(t, "Erase behind Power", f.Erase(0), api.OK)
	f.Fail(0, 0)
	f.Fail(1, 0)
	want(t, "a later Fail counts", f.Erase(0), api.OK)
	want(t, "a later Fail counts", f.Erase(0), api.ErrReset)
	f.Power()
	want(t, "no failure is armed behind one", f.Erase(0), api.OK)
}

// P1.2
func TestBounds(t *testing.T) {
	f := made(t, 2)
	for _, c := range []struct {
		at, n int
		e     api.Errno
	}{
		{0, 512, api.OK}, {0, 0, api.OK}, {512, 0, api.OK}, {511, 1, api.OK}, {3, 7, api.OK},
		{512, 1, api.ErrBounds}, {513, 0, api.ErrBounds}, {-1, 0, api.ErrBounds}, {-1, 2, api.ErrBounds},
		{0, -1, api.ErrBounds}, {4, -4, api.ErrBounds}, {0, 513, api.ErrBounds}, {509, 4, api.ErrBounds},
		{8, math.MaxInt, api.ErrBounds}, {math.MaxInt, math.MaxInt, api.ErrBounds}, {math.MinInt, 1, api.ErrBounds},
	} {
		b, e := f.Read(c.at, c.n)
		if e != c.e || e == api.OK && len(b) != c.n || e != api.OK && b != nil {
			t.Errorf("Read(%d, %d): %d bytes, %d, want %d", c.at, c.n, len(b), e, c.e)
		}
	}
	for _, c := range []struct {
		at, n int
		e     api.Errno
	}{
		{0, 512, api.OK}, {512, 0, api.OK}, {508, 4, api.OK}, {516, 0, api.ErrBounds}, {-4, 0, api.ErrBounds},
		{-4, 8, api.ErrBounds}, {508, 8, api.ErrBounds}, {512, 4, api.ErrBounds}, {math.MaxInt - 3, 4, api.ErrBounds},
		{2, 4, api.ErrAlign}, {4, 2, api.ErrAlign}, {-1, 4, api.ErrAlign}, {514, 0, api.ErrAlign}, {512, 1, api.ErrAlign},
	} {
		want(t, "Program", f.Program(c.at, make([]byte, c.n)), c.e)
	}
	for _, page := range []int{-1, 2, math.MinInt, math.MaxInt} {
		want(t, "Erase of no page", f.Erase(page), api.ErrBounds)
	}
}

// P1.2
func TestWithoutPower(t *testing.T) {
	f := made(t, 1)
	f.Fail(0, 0)
	want(t, "Erase", f.Erase(0), api.ErrReset)
	for range 2 {
		if b, e := f.Read(0, 1); b != nil || e != api.ErrReset {
			t.Error("Read without power:", b, e)
		}
		want(t, "Read of bytes that are not there", func() api.Errno { _, e := f.Read(-1, -1); return e }(), api.ErrReset)
		want(t, "Erase of no page", f.Erase(7), api.ErrReset)
		want(t, "Program of a half word", f.Program(1, make([]byte, 1)), api.ErrReset)
	}
}

// P1.2
func TestProgram(t *testing.T) {
	f := made(t, 2)
	given := []byte{1, 2, 3, 4, 5, 6, 7, 8}
	want(t, "Program", f.Program(252, given), api.OK)
	if !slices.Equal(given, []byte{1, 2, 3, 4, 5, 6, 7, 8}) {
		t.Error("Program changed its argument")
	}
	b, _ := f.Read(251, 10)
	if !slices.Equal(b, []byte{255, 1, 2, 3, 4, 5, 6, 7, 8, 255}) {
		t.Error(b)
	}
	b[1] = 77
	if c, _ := f.Read(252, 1); c[0] != 1 {
		t.Error("what Read returned shares memory with the flash")
	}
	// The second of three words has a bit that would have to rise.
	want(t, "Program", f.Program(248, []byte{9, 9, 9, 9, 1, 3, 2, 0, 0, 0, 0, 0}), api.ErrProgram)
	b, _ = f.Read(248, 12)
	if !slices.Equal(b, []byte{9, 9, 9, 9, 1, 2, 2, 0, 5, 6, 7, 8}) {
		t.Error(b)
	}
	if f.Steps() != 4 {
		t.Error("steps:", f.Steps())
	}
	want(t, "a word of 0", f.Program(0, make([]byte, 4)), api.OK)
	want(t, "1 into a word of 0", f.Program(0, []byte{1, 0, 0, 0}), api.ErrProgram)
	if b, _ = f.Read(0, 4); !slices.Equal(b, make([]byte, 4)) {
		t.Error(b)
	}
	want(t, "Lock", f.Lock(1, 2), api.OK)
	steps := f.Steps()
	want(t, "Program into a locked page", f.Program(252, make([]byte, 8)), api.ErrLock)
	want(t, "Program of no bytes in a locked page", f.Program(300, nil), api.OK)
	if b, _ = f.Read(252, 4); !slices.Equal(b, []byte{1, 2, 2, 0}) || f.Steps() != steps {
		t.Error("words ahead of the locked page were programmed:", b)
	}
}

// P1.2
func TestErase(t *testing.T) {
	f := made(t, 3)
	want(t, "Program", f.Program(0, make([]byte, 768)), api.OK)
	want(t, "Erase", f.Erase(1), api.OK)
	b := content(t, f)
	for i, c := range b {
		if in := i >= 256 && i < 512; in && c != 255 || !in && c != 0 {
			t.Fatal("byte", i, "is", c)
		}
	}
}

// P1.1, P1.2
func TestTornErase(t *testing.T) {
	for _, tear := range []uint32{0, 1, 2, 0x80000000, 0xffffffff, 0x12345678} {
		f := made(t, 2)
		f.Program(0, bytes.Repeat([]byte{7}, 512))
		f.Fail(0, tear)
		want(t, "Erase", f.Erase(1), api.ErrReset)
		f.Power()
		for i, c := range content(t, f) {
			torn := i >= 256 && tear>>(i%32)&1 == 1
			if torn && c != 255 || !torn && c != 7 {
				t.Fatalf("tear %x: byte %d is %d", tear, i, c)
			}
		}
	}
}

// P1.1, P1.2
func TestTornWord(t *testing.T) {
	for _, tear := range []uint32{0, 1, 0x0f, 0xff00, 0x80000000, 0xffffffff} {
		f := made(t, 1)
		f.Program(4, []byte{0xff, 0xf0, 0xff, 0xff})
		f.Fail(1, tear)
		want(t, "Program", f.Program(0, []byte{1, 2, 3, 4, 0, 0x0f, 0x55, 0, 9, 9, 9, 9}), api.ErrReset)
		f.Power()
		b := content(t, f)
		old, new := uint32(0xfffff0ff), uint32(0x00550f00)
		is := uint32(b[4]) | uint32(b[5])<<8 | uint32(b[6])<<16 | uint32(b[7])<<24
		if is != old&^(^new&tear) {
			t.Errorf("tear %x: %x", tear, is)
		}
		if !slices.Equal(b[:4], []byte{1, 2, 3, 4}) || !slices.Equal(b[8:12], []byte{255, 255, 255, 255}) {
			t.Error("the words beside the torn one:", b[:12])
		}
	}
}

// P1.3
func TestWornAndSteps(t *testing.T) {
	f := made(t, 3)
	f.Erase(1)
	f.Erase(1)
	f.Erase(2)
	f.Erase(9)
	f.Program(0, make([]byte, 12))
	f.Program(0, []byte{1, 1, 1, 1})
	f.Program(1, make([]byte, 4))
	if !slices.Equal(f.Worn(), []int{0, 2, 1}) || f.Steps() != 7 {
		t.Error(f.Worn(), f.Steps())
	}
	f.Fail(0, 0xffffffff)
	f.Erase(0)
	f.Power()
	f.Fail(1, 0xffffffff)
	f.Program(256, make([]byte, 8))
	if !slices.Equal(f.Worn(), []int{0, 2, 1}) || f.Steps() != 8 {
		t.Error("with failures:", f.Worn(), f.Steps())
	}
	f.Worn()[1] = 50
	if f.Worn()[1] != 2 {
		t.Error("what Worn returned shares memory with the flash")
	}
	f.Power()
	f.Lock(0, 3)
	f.Erase(0)
	f.Program(0, make([]byte, 4))
	if !slices.Equal(f.Worn(), []int{0, 2, 1}) || f.Steps() != 8 {
		t.Error("with locked pages:", f.Worn(), f.Steps())
	}
}

// P1.4
func TestNil(t *testing.T) {
	var f *flash.Flash
	b, e := f.Read(0, 0)
	if b != nil || f.Size() != 0 || f.Worn() != nil || f.Steps() != 0 || !f.Off() {
		t.Error(b, f.Size(), f.Worn(), f.Steps(), f.Off())
	}
	f.Power()
	for _, e := range []api.Errno{e, f.Lock(0, 0), f.Fail(0, 0), f.Erase(0), f.Program(0, nil), f.Program(1, nil)} {
		want(t, "nil flash", e, api.ErrArg)
	}
}
