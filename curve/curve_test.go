package curve_test

import (
	"bytes"
	"encoding/hex"
	"testing"

	"bosun/api"
	"bosun/curve"
	"bosun/scalar"
)

func unhex(t *testing.T, s string) [32]byte {
	t.Helper()
	b, err := hex.DecodeString(s)
	if err != nil || len(b) != 32 {
		t.Fatal(s)
	}
	return [32]byte(b)
}

func point(t *testing.T, s string) curve.Point {
	t.Helper()
	p, e := curve.Decode(unhex(t, s))
	if e != api.OK {
		t.Fatalf("%s: error %d", s, e)
	}
	return p
}

func text(p curve.Point) string {
	b := p.Encode()
	return hex.EncodeToString(b[:])
}

func points(t *testing.T) []curve.Point {
	l := []curve.Point{curve.None(), curve.Base()}
	for _, s := range small {
		l = append(l, point(t, s))
	}
	for _, s := range sums {
		l = append(l, point(t, s[0]))
	}
	return l
}

// P7.1
func TestNoneAndBase(t *testing.T) {
	b := curve.Base().Encode()
	if b[0] != 88 || !bytes.Equal(b[1:], bytes.Repeat([]byte{102}, 31)) {
		t.Error("Base:", b)
	}
	if curve.None().Encode() != [32]byte{1} {
		t.Error("None:", curve.None().Encode())
	}
	for _, p := range []curve.Point{curve.None(), curve.Base()} {
		if q, e := curve.Decode(p.Encode()); e != api.OK || !curve.Same(p, q) {
			t.Error(q, e)
		}
	}
}

// P7.1
func TestBytes(t *testing.T) {
	var all []string
	all = append(all, small...)
	for _, s := range sums {
		all = append(all, s[:]...)
	}
	for _, m := range multiples {
		all = append(all, m.text)
	}
	for _, s := range all {
		if got := text(point(t, s)); got != s {
			t.Errorf("%s: %s", s, got)
		}
	}
	for _, s := range bad {
		if p, e := curve.Decode(unhex(t, s)); e != api.ErrForm || p != (curve.Point{}) {
			t.Errorf("%s: %v, %d", s, p, e)
		}
	}
}

// P7.1
func TestSame(t *testing.T) {
	l := points(t)
	for i, p := range l {
		for j, q := range l {
			if curve.Same(p, q) != (text(p) == text(q)) {
				t.Error(i, j)
			}
		}
	}
	p := curve.Base()
	if curve.Same(p, p.Neg()) || !curve.Same(p, curve.Add(p, p, p.Neg())) {
		t.Error("Base and its negative")
	}
}

// P7.1, P7.2: the zero value counts as None.
func TestZeroValue(t *testing.T) {
	var zero curve.Point
	if !curve.Same(zero, curve.None()) || !curve.Same(curve.None(), zero) || !curve.Same(zero, zero) || curve.Same(zero, curve.Base()) {
		t.Error("Same")
	}
	if zero.Encode() != curve.None().Encode() || !curve.Same(zero.Neg(), curve.None()) || !curve.Same(zero.Times(scalar.Num{7}), curve.None()) {
		t.Error("Encode, Neg or Times")
	}
	if !curve.Same(curve.Add(zero, curve.Base(), zero), curve.Base()) || !curve.Same(curve.Add(zero), curve.None()) {
		t.Error("Add")
	}
}

// P7.2
func TestAdd(t *testing.T) {
	if !curve.Same(curve.Add(), curve.None()) {
		t.Error("the sum of none")
	}
	for _, s := range sums {
		p, q := point(t, s[0]), point(t, s[1])
		if got := text(curve.Add(p, q)); got != s[2] {
			t.Errorf("%s + %s: %s, want %s", s[0], s[1], got, s[2])
		}
	}
	l := points(t)
	sum := curve.None()
	for i, p := range l {
		sum = curve.Add(sum, p)
		if !curve.Same(sum, curve.Add(l[:i+1]...)) {
			t.Fatal(i+1, "points")
		}
	}
}

// P7.2
func TestNeg(t *testing.T) {
	for _, p := range points(t) {
		if !curve.Same(curve.Add(p, p.Neg()), curve.None()) || !curve.Same(p.Neg().Neg(), p) {
			t.Error(text(p))
		}
	}
	b := curve.Base().Neg().Encode()
	if b[31] != 0x66|0x80 {
		t.Error("Neg of Base:", b)
	}
}

// P7.2
func TestTimes(t *testing.T) {
	for _, m := range multiples {
		if got := text(curve.Base().Times(m.n)); got != m.text {
			t.Errorf("%x times Base: %s, want %s", m.n, got, m.text)
		}
	}
	first := point(t, small[0])
	for i, s := range small {
		n := scalar.Num{uint64(i + 1)}
		if got := text(first.Times(n)); got != s {
			t.Errorf("%d times a point of order 8: %s, want %s", i+1, got, s)
		}
		n[3] = 1 << 63
		if got := text(first.Times(n)); got != s {
			t.Errorf("2^255 and %d times a point of order 8: %s, want %s", i+1, got, s)
		}
	}
	for _, p := range points(t) {
		sum := curve.None()
		for n := range uint64(10) {
			if !curve.Same(p.Times(scalar.Num{n}), sum) {
				t.Fatal(n, "times", text(p))
			}
			sum = curve.Add(sum, p)
		}
	}
}

// P7.3
func TestGroup(t *testing.T) {
	if !curve.Same(curve.Base().Times(scalar.Order()), curve.None()) {
		t.Error("the order times Base")
	}
	l := points(t)
	for i, p := range l {
		q, r := l[(i*5+2)%len(l)], l[(i*3+4)%len(l)]
		if !curve.Same(curve.Add(p, q), curve.Add(q, p)) || !curve.Same(curve.Add(curve.Add(p, q), r), curve.Add(p, curve.Add(q, r))) {
			t.Error("not a group:", text(p), text(q), text(r))
		}
		n := multiples[i%len(multiples)].n
		if !curve.Same(curve.Add(p, q).Times(n), curve.Add(p.Times(n), q.Times(n))) {
			t.Error("Times of a sum:", text(p), text(q))
		}
	}
}

// multiples are n, and the bytes of n times Base.
var multiples = []struct {
	n    scalar.Num
	text string
}{
	{scalar.Num{0x0, 0x0, 0x0, 0x0}, "0100000000000000000000000000000000000000000000000000000000000000"},
	{scalar.Num{0x1, 0x0, 0x0, 0x0}, "5866666666666666666666666666666666666666666666666666666666666666"},
	{scalar.Num{0x2, 0x0, 0x0, 0x0}, "c9a3f86aae465f0e56513864510f3997561fa2c9e85ea21dc2292309f3cd6022"},
	{scalar.Num{0x3, 0x0, 0x0, 0x0}, "d4b4f5784868c3020403246717ec169ff79e26608ea126a1ab69ee77d1b16712"},
	{scalar.Num{0x8, 0x0, 0x0, 0x0}, "b4b937fca95b2f1e93e41e62fc3c78818ff38a66096fad6e7973e5c90006d321"},
	{scalar.Num{0x5812631a5cf5d3ec, 0x14def9dea2f79cd6, 0x0, 0x1000000000000000}, "58666666666666666666666666666666666666666666666666666666666666e6"},
	{scalar.Num{0x5812631a5cf5d3ed, 0x14def9dea2f79cd6, 0x0, 0x1000000000000000}, "0100000000000000000000000000000000000000000000000000000000000000"},
	{scalar.Num{0x5812631a5cf5d3ee, 0x14def9dea2f79cd6, 0x0, 0x1000000000000000}, "5866666666666666666666666666666666666666666666666666666666666666"},
	{scalar.Num{0xb024c634b9eba7da, 0x29bdf3bd45ef39ac, 0x0, 0x2000000000000000}, "0100000000000000000000000000000000000000000000000000000000000000"},
	{scalar.Num{0x0, 0x0, 0x0, 0x1000000000000000}, "b8421c03ad2c038eacd7982913c60229b5d4e7cfcc8b83ec35c79c74b7ad855f"},
	{scalar.Num{0x0, 0x0, 0x0, 0x8000000000000000}, "6e4b94a41ca8bd8c8e68ae0970e953eea2824beb01692cfd821625e07f828b41"},
	{scalar.Num{0xffffffffffffffff, 0xffffffffffffffff, 0xffffffffffffffff, 0xffffffffffffffff}, "db27fe4b7a4beb8c1b8c38a21e943a852304c9bb3035a5f36626b51162a68f9c"},
	{scalar.Num{0x5d9dc9f81818e811, 0xed904759531985d, 0x81e74ef5e8e25d94, 0x99950d836f675cc}, "fd902583bc8b9264ea8dcfe60c0c07472b1b53aea7119cf6b85c35be807cb97d"},
	{scalar.Num{0x1fb17c2390c192cf, 0x39263059f28c105d, 0xa09f76b5a170b338, 0xf29d0da9953f48f1}, "f5135f5af6c885abc403829c04026bdefe6fd5ee62a0a4031489c1d28799bebb"},
	{scalar.Num{0xae97ba94d0eda82f, 0x1a61dbe22e44158b, 0x923a736994e3bf91, 0x301850c5a38fd547}, "52e9376d38141794c35dfbbe2f3804a3a96aab15e3c573f640dcc9fd1f1c7470"},
	{scalar.Num{0x8c38fb2918f135d2, 0x1012f037b64ce422, 0xf4205b4907a70c3, 0x34b9b5df9e7769b1}, "2ef3184149b53118aab9eb29faa2d19702064dde1d387ac9f232bbf832bd73c1"},
	{scalar.Num{0x881ed162ae2eb154, 0xc6f877186d76b07e, 0x7731af10506bf2ef, 0xec66a78795e761d1}, "a63f3d45f8ccfd1e2c6e2241300d91573fb759314a3a5ce5c3b438552bcdce38"},
}

// small are the eight points of which eight times is None: n times the first one, n from 1 on.
var small = []string{
	"c7176a703d4dd84fba3c0b760d10670f2a2053fa2c39ccc64ec7fd7792ac037a",
	"0000000000000000000000000000000000000000000000000000000000000080",
	"26e8958fc2b227b045c3f489f2ef98f0d5dfac05d3c63339b13802886d53fc05",
	"ecffffffffffffffffffffffffffffffffffffffffffffffffffffffffffff7f",
	"26e8958fc2b227b045c3f489f2ef98f0d5dfac05d3c63339b13802886d53fc85",
	"0000000000000000000000000000000000000000000000000000000000000000",
	"c7176a703d4dd84fba3c0b760d10670f2a2053fa2c39ccc64ec7fd7792ac03fa",
	"0100000000000000000000000000000000000000000000000000000000000000",
}

// sums are the bytes of two points and of their sum; not all are multiples of Base.
var sums = [][3]string{
	{"0300000000000000000000000000000000000000000000000000000000000000", "1000000000000000000000000000000000000000000000000000000000000080", "8847ad8807ea35a304e9677a1fa7541ca54f1499d807bb906be3208927791076"},
	{"1000000000000000000000000000000000000000000000000000000000000080", "472c3a1d01000000000000000000000000000000000000000000000000000000", "79847945ec6af0c98fd2c9c54167d4abf50a81ed39065d3d90b33f65eaf866ce"},
	{"0701000000000000000000000000000000000000000000000000000000000000", "1889d2614578c3462d2c012b3b05d8f0d0525e61da9e6cca34972645b44d3ba5", "2b103bf829665234ca5a197e5728fdeb54645dcbb22dc0d5799522ceb0a01dde"},
	{"380e010000000000000000000000000000000000000000000000000000000080", "ecffffffffffffffffffffffffffffffffffffffffffffffffffffffffffff7f", "b5f1feffffffffffffffffffffffffffffffffffffffffffffffffffffffff7f"},
	{"472c3a1d01000000000000000000000000000000000000000000000000000000", "0701000000000000000000000000000000000000000000000000000000000000", "e5044e2185a276599ad715c8c52ccabe356c95291ac9e355259c94fd9d233f0b"},
	{"04ac4a908e7bc1e8247d84df4f7b5c506260e696e019b7d5bcf8b678d028ecdf", "04ac4a908e7bc1e8247d84df4f7b5c506260e696e019b7d5bcf8b678d028ecdf", "d58c5c012fea9783c3e94b7197a44d4e2d133da9dedba145422d0fceea11efc2"},
	{"f2911d5e03ad53827cb95952c4c731e5a11c5174f84e36683e8a0568cd7e2cde", "d4b4f5784868c3020403246717ec169ff79e26608ea126a1ab69ee77d1b16712", "2ad9c17b19845d769c33383453587cc573316abdd9833a016ff360b4b28eb263"},
	{"1889d2614578c3462d2c012b3b05d8f0d0525e61da9e6cca34972645b44d3ba5", "0300000000000000000000000000000000000000000000000000000000000000", "29aff6306ca2875577a6c158d8dae36712cc194d01fa3b9f3f0d69f70d2422f4"},
	{"d4b4f5784868c3020403246717ec169ff79e26608ea126a1ab69ee77d1b16712", "380e010000000000000000000000000000000000000000000000000000000080", "35a70b1767e2dd85f4b9fd2cdd21be8f1bc1f46fa68bc81edb473da6109568e7"},
	{"c7176a703d4dd84fba3c0b760d10670f2a2053fa2c39ccc64ec7fd7792ac037a", "f2911d5e03ad53827cb95952c4c731e5a11c5174f84e36683e8a0568cd7e2cde", "1556462eea928c638a27eddebf0b6777d056717ca4b0c07ca99c17059a565eb5"},
	{"ecffffffffffffffffffffffffffffffffffffffffffffffffffffffffffff7f", "c7176a703d4dd84fba3c0b760d10670f2a2053fa2c39ccc64ec7fd7792ac037a", "26e8958fc2b227b045c3f489f2ef98f0d5dfac05d3c63339b13802886d53fc85"},
}

// bad are bytes of no point: their y has no x, is not below the prime, or has no odd x.
var bad = []string{
	"0200000000000000000000000000000000000000000000000000000000000000",
	"0200000000000000000000000000000000000000000000000000000000000080",
	"0700000000000000000000000000000000000000000000000000000000000000",
	"0700000000000000000000000000000000000000000000000000000000000080",
	"1600000000000000000000000000000000000000000000000000000000000000",
	"1600000000000000000000000000000000000000000000000000000000000080",
	"edffffffffffffffffffffffffffffffffffffffffffffffffffffffffffff7f",
	"edffffffffffffffffffffffffffffffffffffffffffffffffffffffffffffff",
	"eeffffffffffffffffffffffffffffffffffffffffffffffffffffffffffff7f",
	"eeffffffffffffffffffffffffffffffffffffffffffffffffffffffffffffff",
	"efffffffffffffffffffffffffffffffffffffffffffffffffffffffffffff7f",
	"efffffffffffffffffffffffffffffffffffffffffffffffffffffffffffffff",
	"f0ffffffffffffffffffffffffffffffffffffffffffffffffffffffffffff7f",
	"f0ffffffffffffffffffffffffffffffffffffffffffffffffffffffffffffff",
	"f1ffffffffffffffffffffffffffffffffffffffffffffffffffffffffffff7f",
	"f1ffffffffffffffffffffffffffffffffffffffffffffffffffffffffffffff",
	"ffffffffffffffffffffffffffffffffffffffffffffffffffffffffffffff7f",
	"ffffffffffffffffffffffffffffffffffffffffffffffffffffffffffffffff",
	"0100000000000000000000000000000000000000000000000000000000000080",
	"ecffffffffffffffffffffffffffffffffffffffffffffffffffffffffffffff",
}
