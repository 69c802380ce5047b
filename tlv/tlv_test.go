package tlv_test

import (
	"bytes"
	"testing"

	"bosun/api"
	"bosun/tlv"
)

func same(a, b []tlv.Item) bool {
	if len(a) != len(b) {
		return false
	}
	for i := range a {
		if a[i].Tag != b[i].Tag || !bytes.Equal(a[i].Value, b[i].Value) {
			return false
		}
	}
	return true
}

// many is n items, with the tags 1, 3, 5, ..
func many(n int) []tlv.Item {
	var l []tlv.Item
	for i := range n {
		l = append(l, tlv.Item{Tag: byte(2*i + 1), Value: bytes.Repeat([]byte{byte(i)}, i)})
	}
	return l
}

// raw is the bytes of items, whether or not they may be.
func raw(l ...tlv.Item) []byte {
	var b []byte
	for _, i := range l {
		b = append(append(b, i.Tag, byte(len(i.Value))), i.Value...)
	}
	return b
}

// P11.1
func TestParse(t *testing.T) {
	long := make([]byte, 200)
	for _, c := range []struct {
		b    []byte
		want []tlv.Item
	}{
		{nil, nil},
		{[]byte{1, 2, 7, 8}, []tlv.Item{{1, []byte{7, 8}}}},
		{[]byte{1, 0}, []tlv.Item{{1, nil}}},
		{[]byte{1, 0, 2, 1, 9, 255, 0}, []tlv.Item{{1, nil}, {2, []byte{9}}, {255, nil}}},
		{append([]byte{9, 200}, long...), []tlv.Item{{9, long}}},
		{raw(many(16)...), many(16)},
	} {
		kept := bytes.Clone(c.b)
		l, e := tlv.Parse(c.b)
		if e != api.OK || !same(l, c.want) || !bytes.Equal(c.b, kept) {
			t.Errorf("Parse(%d): %v, %d", c.b, l, e)
		}
		if b, e := tlv.Encode(c.want...); e != api.OK || !bytes.Equal(b, kept) {
			t.Errorf("Encode(%v): %d, %d", c.want, b, e)
		}
	}
}

// P11.1
func TestWrongBytes(t *testing.T) {
	for _, c := range []struct {
		what string
		b    []byte
		e    api.Errno
	}{
		{"one byte", []byte{1}, api.ErrCut},
		{"one byte, of a wrong tag", []byte{0}, api.ErrCut},
		{"one byte behind an item", []byte{1, 0, 2}, api.ErrCut},
		{"tag 0", []byte{0, 0}, api.ErrForm},
		{"the same tag", []byte{3, 0, 3, 0}, api.ErrForm},
		{"a lower tag", []byte{3, 0, 2, 0}, api.ErrForm},
		{"a wrong tag ahead of a long value", []byte{3, 0, 2, 255}, api.ErrForm},
		{"a long value", append([]byte{1, 201}, make([]byte, 201)...), api.ErrLong},
		{"a long value that is not there", []byte{1, 201}, api.ErrLong},
		{"seventeen items", raw(many(17)...), api.ErrLong},
		{"a seventeenth item without its value", append(raw(many(16)...), 99, 5), api.ErrLong},
		{"a seventeenth item with a wrong tag", append(raw(many(16)...), 5, 5), api.ErrForm},
		{"a seventeenth item of one byte", append(raw(many(16)...), 99), api.ErrCut},
		{"no value", []byte{1, 1}, api.ErrCut},
		{"half a value", []byte{1, 2, 3}, api.ErrCut},
		{"the first one decides", []byte{1, 0, 1, 0, 9}, api.ErrForm},
	} {
		if l, e := tlv.Parse(c.b); e != c.e || l != nil {
			t.Errorf("%s: %v, %d, want %d", c.what, l, e, c.e)
		}
	}
}

// P11.1
func TestWrongItems(t *testing.T) {
	for _, c := range []struct {
		what string
		l    []tlv.Item
		e    api.Errno
	}{
		{"tag 0", []tlv.Item{{0, nil}}, api.ErrForm},
		{"the same tag", []tlv.Item{{2, nil}, {2, nil}}, api.ErrForm},
		{"a lower tag", []tlv.Item{{2, nil}, {1, nil}}, api.ErrForm},
		{"a long value", []tlv.Item{{2, make([]byte, 201)}}, api.ErrLong},
		{"a value whose length does not fit into a byte", []tlv.Item{{2, make([]byte, 257)}}, api.ErrLong},
		{"a wrong tag of a long value", []tlv.Item{{0, make([]byte, 201)}}, api.ErrForm},
		{"seventeen items", many(17), api.ErrLong},
		{"a seventeenth item with a wrong tag", append(many(16), tlv.Item{Tag: 3}), api.ErrForm},
		{"the first one decides", []tlv.Item{{1, make([]byte, 201)}, {1, nil}}, api.ErrLong},
	} {
		if b, e := tlv.Encode(c.l...); e != c.e || b != nil {
			t.Errorf("%s: %v, %d, want %d", c.what, b, e, c.e)
		}
	}
	if b, e := tlv.Encode(); len(b) != 0 || e != api.OK {
		t.Error("no items:", b, e)
	}
}

// P11.1
func TestResultsShareNothing(t *testing.T) {
	b := []byte{1, 2, 7, 8, 2, 1, 9}
	l, _ := tlv.Parse(b)
	_ = append(l[0].Value, 55)
	l[0].Value[0] = 77
	if l[1].Value[0] != 9 || b[2] != 7 || b[4] != 2 {
		t.Error(l, b)
	}
	v, _ := tlv.Find(l, 1)
	v[0] = 78
	if l[0].Value[0] != 77 {
		t.Error("what Find returned shares memory with the item")
	}
}

// P11.2
func TestFind(t *testing.T) {
	l := []tlv.Item{{5, []byte{1}}, {7, nil}, {5, []byte{2}}, {0, []byte{3}}}
	for _, c := range []struct {
		tag  byte
		want []byte
		ok   bool
	}{{5, []byte{1}, true}, {7, nil, true}, {0, []byte{3}, true}, {6, nil, false}} {
		if v, ok := tlv.Find(l, c.tag); ok != c.ok || !bytes.Equal(v, c.want) {
			t.Error(c.tag, v, ok)
		}
	}
	if v, ok := tlv.Find(nil, 0); v != nil || ok {
		t.Error(v, ok)
	}
}

// P11.3
func TestBackAndForth(t *testing.T) {
	for n := range 17 {
		b, e := tlv.Encode(many(n)...)
		if e != api.OK {
			t.Fatal(n, e)
		}
		if l, e := tlv.Parse(b); e != api.OK || !same(l, many(n)) {
			t.Fatal(n, l, e)
		}
	}
	// All short lists of bytes from a small alphabet: what is parsed has just these bytes.
	alphabet := []byte{0, 1, 2, 3, 201}
	parsed := 0
	for n := range 5 * 5 * 5 * 5 * 5 * 5 {
		var b []byte
		for k := n; k > 0; k /= 5 {
			b = append(b, alphabet[k%5])
		}
		l, e := tlv.Parse(b)
		if e != api.OK {
			continue
		}
		parsed++
		if c, e := tlv.Encode(l...); e != api.OK || !bytes.Equal(c, b) {
			t.Fatal(b, l, c, e)
		}
	}
	if parsed < 10 {
		t.Error("only", parsed, "were parsed")
	}
}
