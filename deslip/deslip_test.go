package deslip_test

import (
	"bytes"
	"math"
	"slices"
	"testing"

	"bosun/api"
	"bosun/deslip"
	"bosun/slip"
)

// heard is what came of a byte, if it was a text or an error.
type heard struct {
	at   int
	text string
	e    api.Errno
}

func made(t *testing.T, most int) *deslip.Decoder {
	t.Helper()
	d, e := deslip.New(most)
	if d == nil || e != api.OK {
		t.Fatal(most, e)
	}
	return d
}

func feed(d *deslip.Decoder, b ...byte) []heard {
	var l []heard
	for i, c := range b {
		if text, e := d.Feed(c); len(text) > 0 || e != api.OK {
			l = append(l, heard{i, string(text), e})
		}
	}
	return l
}

// P10.1
func TestNew(t *testing.T) {
	for _, n := range []int{math.MinInt, -1, 0, 65537, math.MaxInt} {
		if d, e := deslip.New(n); d != nil || e != api.ErrArg {
			t.Error(n, d, e)
		}
	}
	for _, n := range []int{1, 70, 65536} {
		made(t, n)
	}
}

// P10.1
func TestFeed(t *testing.T) {
	const form, long = api.ErrForm, api.ErrLong
	for _, c := range []struct {
		what string
		most int
		fed  []byte
		want []heard
	}{
		{"the document's example", 9, []byte{219, 1, 2, 192, 3, 192}, []heard{{1, "", form}, {5, "\x03", 0}}},
		{"texts", 9, []byte{1, 2, 192, 3, 192}, []heard{{2, "\x01\x02", 0}, {4, "\x03", 0}}},
		{"empty texts", 9, []byte{192, 192, 5, 192, 192, 6, 192}, []heard{{3, "\x05", 0}, {6, "\x06", 0}}},
		{"escapes", 9, []byte{219, 220, 219, 221, 220, 221, 192}, []heard{{6, "\xc0\xdb\xdc\xdd", 0}}},
		{"an escape of an escape", 9, []byte{7, 219, 219, 220, 192, 8, 192}, []heard{{2, "", form}, {6, "\x08", 0}}},
		{"an escape of an end: nothing is skipped", 9, []byte{7, 219, 192, 8, 192}, []heard{{2, "", form}, {4, "\x08", 0}}},
		{"skipped bytes have no errors", 9, []byte{219, 0, 219, 0, 219, 192, 8, 192}, []heard{{1, "", form}, {7, "\x08", 0}}},
		{"a skipped escape counts for nothing", 9, []byte{219, 0, 219, 192, 220, 192}, []heard{{1, "", form}, {5, "\xdc", 0}}},
		{"as many as there may be", 3, []byte{1, 2, 3, 192, 4, 5, 6, 192}, []heard{{3, "\x01\x02\x03", 0}, {7, "\x04\x05\x06", 0}}},
		{"one more", 3, []byte{1, 2, 3, 4, 5, 192, 6, 192}, []heard{{3, "", long}, {7, "\x06", 0}}},
		{"an escaped one more", 3, []byte{1, 2, 3, 219, 220, 5, 192, 6, 192}, []heard{{4, "", long}, {8, "\x06", 0}}},
		{"an escaped one as the last", 3, []byte{1, 2, 219, 221, 192}, []heard{{4, "\x01\x02\xdb", 0}}},
		{"a wrong escape behind as many as there may be", 3, []byte{1, 2, 3, 219, 4, 192, 6, 192}, []heard{{4, "", form}, {7, "\x06", 0}}},
		{"an end behind an escape behind as many as there may be", 3, []byte{1, 2, 3, 219, 192, 6, 192}, []heard{{4, "", form}, {6, "\x06", 0}}},
		{"far too long", 1, []byte{1, 2, 3, 4, 5, 6, 7, 219, 9, 192, 9, 192}, []heard{{1, "", long}, {11, "\x09", 0}}},
		{"no end", 9, []byte{1, 2, 3}, nil},
	} {
		if got := feed(made(t, c.most), c.fed...); !slices.Equal(got, c.want) {
			t.Errorf("%s: %v, want %v", c.what, got, c.want)
		}
	}
}

// P10.1
func TestErrorsHaveNoText(t *testing.T) {
	d := made(t, 2)
	for _, c := range []byte{1, 2, 3} {
		if text, _ := d.Feed(c); text != nil {
			t.Error(text)
		}
	}
	d = made(t, 2)
	for _, c := range []byte{1, 219, 3} {
		if text, _ := d.Feed(c); text != nil {
			t.Error(text)
		}
	}
}

// P10.1
func TestTextsShareNothing(t *testing.T) {
	d := made(t, 9)
	d.Feed(1)
	d.Feed(2)
	first, _ := d.Feed(192)
	d.Feed(3)
	d.Feed(4)
	second, _ := d.Feed(192)
	first = append(first, 9)
	first[0] = 8
	if !bytes.Equal(second, []byte{3, 4}) || !bytes.Equal(first, []byte{8, 2, 9}) {
		t.Error(first, second)
	}
}

// P10.1
func TestLongest(t *testing.T) {
	d := made(t, 65536)
	text := bytes.Repeat([]byte{219, 7}, 32768)
	if l := feed(d, slip.Encode(text)...); len(l) != 1 || l[0].text != string(text) || l[0].e != api.OK {
		t.Error(len(l))
	}
	if l := feed(d, slip.Encode(append(text, 1))...); len(l) != 1 || l[0].e != api.ErrLong {
		t.Error(len(l))
	}
}

// P10.1
func TestNil(t *testing.T) {
	var d *deslip.Decoder
	for _, c := range []byte{0, 192, 219} {
		if text, e := d.Feed(c); text != nil || e != api.ErrArg {
			t.Error(text, e)
		}
	}
}

// P10.2
func TestBehindAnything(t *testing.T) {
	texts := [][]byte{{1}, {192, 219}, {219, 192, 220, 221, 0, 255}, bytes.Repeat([]byte{192}, 70)}
	alphabet := []byte{1, 192, 219, 220, 221}
	for n := range 5 * 5 * 5 * 5 {
		d := made(t, 70)
		for k := n; k > 0; k /= 5 {
			d.Feed(alphabet[k%5])
		}
		d.Feed(192)
		got := feed(d, slip.Encode(texts...)...)
		if len(got) != len(texts) {
			t.Fatal(n, got)
		}
		for i, h := range got {
			if h.text != string(texts[i]) || h.e != api.OK {
				t.Fatal(n, i, h)
			}
		}
	}
}
