package bank_test

import (
	"bytes"
	"math"
	"slices"
	"testing"

	"bosun/api"
	"bosun/bank"
	"bosun/crc"
	"bosun/flash"
	"bosun/shortsum"
	"bosun/testkit"
)

func made(t *testing.T, pages, first int) bank.Bank {
	t.Helper()
	f, e := flash.New(pages)
	if e != api.OK {
		t.Fatal(e)
	}
	return bank.Bank{Flash: f, First: first}
}

func want(t *testing.T, what string, got, want api.Errno) {
	t.Helper()
	if got != want {
		t.Errorf("%s: error %d, want %d", what, got, want)
	}
}

func content(t *testing.T, f *flash.Flash) []byte {
	t.Helper()
	b, e := f.Read(0, f.Size())
	want(t, "Read", e, api.OK)
	return b
}

// all calls each function with arguments that are wrong for a bank that exists.
func all(b bank.Bank) []api.Errno {
	_, e3 := b.Bytes(-1, -1)
	_, e4 := b.Sum(-1)
	_, e5 := b.Digest(5000)
	_, e6 := b.Bytes(0, 0)
	_, e7 := b.Sum(0)
	return []api.Errno{b.Clear(0, 0), b.Clear(-1, 0), b.Write(0), b.Write(-1), e3, e4, e5, e6, e7}
}

// P15.1, P15.2
func TestNoBank(t *testing.T) {
	f := made(t, 20, 0).Flash
	for _, b := range []bank.Bank{{}, {First: 3}, {Flash: f, First: -1}, {Flash: f, First: 5}, {Flash: f, First: math.MaxInt}, {Flash: f, First: math.MinInt}, made(t, 15, 0)} {
		for i, e := range all(b) {
			if e != api.ErrArg {
				t.Errorf("First %d, call %d: %d", b.First, i, e)
			}
		}
	}
	for _, b := range []bank.Bank{{Flash: f, First: 0}, {Flash: f, First: 4}, made(t, 16, 0)} {
		want(t, "Clear", b.Clear(0, 16), api.OK)
	}
}

// P15.1
func TestClear(t *testing.T) {
	b := made(t, 20, 3)
	for _, c := range []struct {
		from, to int
		e        api.Errno
	}{{-1, 3, api.ErrArg}, {2, 1, api.ErrArg}, {0, 17, api.ErrArg}, {17, 17, api.ErrArg}, {math.MinInt, math.MaxInt, api.ErrArg}, {16, 16, api.OK}, {0, 0, api.OK}, {2, 5, api.OK}, {4, 6, api.OK}} {
		want(t, "Clear", b.Clear(c.from, c.to), c.e)
	}
	worn := make([]int, 20)
	worn[5], worn[6], worn[7], worn[8] = 1, 1, 2, 1
	if !slices.Equal(b.Worn(), worn) {
		t.Error(b.Worn())
	}
	b.Lock(10, 11)
	want(t, "Clear of a locked page", b.Clear(6, 10), api.ErrLock)
	worn[9]++
	if !slices.Equal(b.Worn(), worn) {
		t.Error(b.Worn())
	}
	b.Fail(1, 0)
	want(t, "Clear without power", b.Clear(0, 3), api.ErrReset)
	want(t, "Clear without power", b.Clear(0, 3), api.ErrReset)
	want(t, "Clear of no pages", b.Clear(5, 5), api.OK)
	worn[3]++
	if !slices.Equal(b.Worn(), worn) {
		t.Error(b.Worn())
	}
}

// P15.1
func TestWrite(t *testing.T) {
	for _, c := range []struct {
		at    int
		parts [][]byte
	}{
		{0, nil}, {0, [][]byte{{1}}}, {4, [][]byte{{1, 2, 3, 4}}}, {8, [][]byte{{1, 2}, nil, {3, 4, 5}, {6, 7}}},
		{252, [][]byte{{9, 9, 9, 9, 9}}}, {4092, [][]byte{{7, 7, 7, 7}}}, {4092, [][]byte{{7}, {8}}}, {4096, nil}, {4096, [][]byte{nil}},
		{0, [][]byte{testkit.Sample(4096, 1)}}, {4, [][]byte{testkit.Sample(4000, 2), testkit.Sample(92, 3)}},
	} {
		b := made(t, 20, 3)
		steps := b.Steps()
		want(t, "Write", b.Write(c.at, c.parts...), api.OK)
		image := bytes.Repeat([]byte{255}, 20*256)
		n := copy(image[3*256+c.at:], slices.Concat(c.parts...))
		if !bytes.Equal(content(t, b.Flash), image) {
			t.Errorf("%d bytes at %d: other bytes", n, c.at)
		}
		if b.Steps()-steps != (n+3)/4 {
			t.Errorf("%d bytes at %d: %d steps", n, c.at, b.Steps()-steps)
		}
	}
}

// P15.1
func TestWriteErrors(t *testing.T) {
	b := made(t, 20, 3)
	for _, c := range []struct {
		at, n int
		e     api.Errno
	}{
		{-1, 0, api.ErrBounds}, {-4, 4, api.ErrBounds}, {-4, 0, api.ErrBounds}, {4097, 0, api.ErrBounds}, {4100, 0, api.ErrBounds},
		{4096, 1, api.ErrBounds}, {4092, 5, api.ErrBounds}, {0, 4097, api.ErrBounds}, {math.MaxInt, 4, api.ErrBounds}, {math.MinInt, 4, api.ErrBounds},
		{2, 4, api.ErrAlign}, {2, 0, api.ErrAlign}, {4095, 1, api.ErrAlign}, {4093, 3, api.ErrAlign}, {1, 3, api.ErrAlign},
	} {
		want(t, "Write", b.Write(c.at, make([]byte, c.n)), c.e)
	}
	if !bytes.Equal(content(t, b.Flash), bytes.Repeat([]byte{255}, 20*256)) {
		t.Error("something was written")
	}
	want(t, "Write", b.Write(0, []byte{0, 0, 0, 0}), api.OK)
	want(t, "Write over a word", b.Write(0, []byte{1}), api.ErrProgram)
	want(t, "Write of no more than there is", b.Write(0, []byte{0, 0, 0, 0}, []byte{5}), api.OK)
	b.Lock(4, 5)
	want(t, "Write into a locked page", b.Write(252, make([]byte, 5)), api.ErrLock)
	b.Fail(1, 0)
	want(t, "Write, and the power fails", b.Write(8, make([]byte, 9)), api.ErrReset)
	want(t, "Write without power", b.Write(8), api.ErrReset)
	want(t, "Write without power, beyond the end", b.Write(5000), api.ErrBounds)
	b.Power()
	if c := content(t, b.Flash)[3*256:]; !bytes.Equal(c[:16], []byte{0, 0, 0, 0, 5, 255, 255, 255, 0, 0, 0, 0, 255, 255, 255, 255}) || c[252] != 255 {
		t.Error(c[:16])
	}
}

// P15.1
func TestArgumentsStay(t *testing.T) {
	b := made(t, 16, 0)
	part := make([]byte, 3, 8)
	b.Write(0, part, []byte{1})
	if !bytes.Equal(part[:8], make([]byte, 8)) {
		t.Error("what lies behind a part was written")
	}
}

// P15.2
func TestBytes(t *testing.T) {
	b := made(t, 20, 4)
	image := testkit.Sample(4096, 4)
	want(t, "Write", b.Write(0, image), api.OK)
	for _, c := range []struct {
		at, n int
		e     api.Errno
	}{
		{0, 4096, api.OK}, {0, 0, api.OK}, {4096, 0, api.OK}, {4095, 1, api.OK}, {7, 300, api.OK},
		{-1, 1, api.ErrBounds}, {0, -1, api.ErrBounds}, {4097, 0, api.ErrBounds}, {4096, 1, api.ErrBounds}, {1, 4096, api.ErrBounds},
		{4097, -1, api.ErrBounds}, {8, math.MaxInt, api.ErrBounds}, {math.MaxInt, math.MaxInt, api.ErrBounds}, {math.MinInt, 0, api.ErrBounds},
	} {
		got, e := b.Bytes(c.at, c.n)
		want(t, "Bytes", e, c.e)
		if e == api.OK && !bytes.Equal(got, image[c.at:c.at+c.n]) || e != api.OK && got != nil {
			t.Error("Bytes:", c.at, c.n, got)
		}
	}
	for _, n := range []int{0, 1, 300, 4096} {
		if s, e := b.Sum(n); s != crc.Sum(image[:n]) || e != api.OK {
			t.Error("Sum:", n, s, e)
		}
		if d, e := b.Digest(n); d != shortsum.Of(image[:n]) || e != api.OK {
			t.Error("Digest:", n, d, e)
		}
	}
	for _, n := range []int{-1, 4097, math.MaxInt, math.MinInt} {
		if s, e := b.Sum(n); s != 0 || e != api.ErrBounds {
			t.Error("Sum:", n, s, e)
		}
		if d, e := b.Digest(n); d != (api.Digest{}) || e != api.ErrBounds {
			t.Error("Digest:", n, d, e)
		}
	}
	b.Fail(0, 0)
	b.Erase(0)
	got, e := b.Bytes(0, 1)
	s, e2 := b.Sum(1)
	d, e3 := b.Digest(1)
	if got != nil || s != 0 || d != (api.Digest{}) || e != api.ErrReset || e2 != api.ErrReset || e3 != api.ErrReset {
		t.Error("without power:", got, s, d, e, e2, e3)
	}
	if _, e := b.Bytes(0, 5000); e != api.ErrBounds {
		t.Error("without power, beyond the end:", e)
	}
}
