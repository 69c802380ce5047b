package slip_test

import (
	"bytes"
	"testing"

	"bosun/slip"
)

// P9.1
func TestEncode(t *testing.T) {
	for _, c := range []struct{ text, frame []byte }{
		{nil, []byte{192}},
		{[]byte{1, 192}, []byte{1, 219, 220, 192}},
		{[]byte{219}, []byte{219, 221, 192}},
		{[]byte{219, 192, 220, 221}, []byte{219, 221, 219, 220, 220, 221, 192}},
		{[]byte{192, 192}, []byte{219, 220, 219, 220, 192}},
		{[]byte{0, 255, 191, 193, 218}, []byte{0, 255, 191, 193, 218, 192}},
	} {
		kept := bytes.Clone(c.text)
		if f := slip.Encode(c.text); !bytes.Equal(f, c.frame) {
			t.Errorf("%d: %d, want %d", c.text, f, c.frame)
		}
		if n := slip.Len(c.text); n != len(c.frame) {
			t.Errorf("%d: length %d, want %d", c.text, n, len(c.frame))
		}
		if !bytes.Equal(kept, c.text) {
			t.Error("an argument was changed:", kept)
		}
	}
}

// P9.1
func TestEachByte(t *testing.T) {
	for n := range 256 {
		b := byte(n)
		want := []byte{b, 192}
		if b == 192 {
			want = []byte{219, 220, 192}
		}
		if b == 219 {
			want = []byte{219, 221, 192}
		}
		if f := slip.Encode([]byte{b}); !bytes.Equal(f, want) || slip.Len([]byte{b}) != len(want) {
			t.Errorf("%d: %d, want %d", b, f, want)
		}
	}
}

// P9.1
func TestManyTexts(t *testing.T) {
	if f := slip.Encode(); len(f) != 0 {
		t.Error("no texts:", f)
	}
	if f := slip.Encode([]byte{1}, nil, []byte{219, 2}, []byte{}); !bytes.Equal(f, []byte{1, 192, 192, 219, 221, 2, 192, 192}) {
		t.Error(f)
	}
	text := make([]byte, 5, 9)
	slip.Encode(text, text)[0] = 7
	if text[0] != 0 || !bytes.Equal(text[:9], make([]byte, 9)) {
		t.Error("a text shares memory with its frame")
	}
}

// P9.2
func TestEnds(t *testing.T) {
	all := make([]byte, 512)
	for i := range all {
		all[i] = byte(i * 3)
	}
	for n := range all {
		f := slip.Encode(all[:n], all[n:])
		if bytes.Count(f, []byte{192}) != 2 || f[len(f)-1] != 192 || bytes.IndexByte(f, 192) != slip.Len(all[:n])-1 || len(f) != slip.Len(all[:n])+slip.Len(all[n:]) {
			t.Fatal("cut at", n)
		}
	}
}
