package sign_test

import (
	"encoding/hex"
	"testing"

	"bosun/api"
	"bosun/curve"
	"bosun/longsum"
	"bosun/scalar"
	"bosun/sign"
	"bosun/testkit"
)

func unhex(t *testing.T, s string) []byte {
	t.Helper()
	b, err := hex.DecodeString(s)
	if err != nil {
		t.Fatal(err)
	}
	return b
}

func sample(n int) []byte {
	b := make([]byte, n)
	x := uint32(n + 1)
	for i := range b {
		x = x*1664525 + 1013904223
		b[i] = byte(x >> 24)
	}
	return b
}

func want(t *testing.T, what string, got, want api.Errno) {
	t.Helper()
	if got != want {
		t.Errorf("%s: error %d, want %d", what, got, want)
	}
}

// P8.1: the first ones of RFC 8032.
func TestRFC(t *testing.T) {
	for _, c := range []struct{ key, msg, sig string }{
		{"d75a980182b10ab7d54bfed3c964073a0ee172f3daa62325af021a68f707511a", "", "e5564300c360ac729086e2cc806e828a84877f1eb8e5d974d873e065224901555fb8821590a33bacc61e39701cf9b46bd25bf5f0595bbe24655141438e7a100b"},
		{"3d4017c3e843895a92b70aa74d1b7ebc9c982ccf2ec4968cc0cd55f12af4660c", "72", "92a009a9f0d4cab8720e820b5f642540a2b27b5416503f8fb3762223ebdb69da085ac1e43e15996e458f3613d0f11d8c387b2eaeb4302aeeb00d291612bb0c00"},
		{"fc51cd8e6218a1a38da47ed00230f0580816ed13ba3303ac5deb911548908025", "af82", "6291d657deec24024827e69c3abe01a30ce548a284743a445e3680d7db5ac3ac18ff9b538d16f290ae67f760984dc6594a7c15e9716ed28dc027beceea1ec40a"},
	} {
		key, sig, msg := api.Key(unhex(t, c.key)), api.Signature(unhex(t, c.sig)), unhex(t, c.msg)
		want(t, c.key, sign.Verify(key, sig, msg), api.OK)
		want(t, "with a byte more", sign.Verify(key, sig, msg, []byte{0}), api.ErrSign)
	}
	key := api.Key(unhex(t, "d75a980182b10ab7d54bfed3c964073a0ee172f3daa62325af021a68f707511a"))
	sig := api.Signature(unhex(t, "e5564300c360ac729086e2cc806e828a84877f1eb8e5d974d873e065224901555fb8821590a33bacc61e39701cf9b46bd25bf5f0595bbe24655141438e7a100b"))
	want(t, "no parts", sign.Verify(key, sig), api.OK)
	want(t, "parts of no bytes", sign.Verify(key, sig, nil, nil), api.OK)
}

// P8.1: seeds, and what signs for them; the kit of the tests signs so, too.
func TestKnown(t *testing.T) {
	for _, c := range []struct {
		n              int
		seed, key, sig string
	}{
		{0, "00456ae3604b91df4b7ac556d94b8ae5c3d03ce8541d849de2d8c2ec2d81bb24", "66a667984a908f5c199909861356357a12c8a30dfcd599eb87f803db4d1492d2", "effe028fb27eb057bd08b0f8e7904247b900ecceb7887dabf480626684872d8c1ef4d733f5f5fbc4b7ed9e8aa1884956cc75327cd1dbee3c616c27d1e4a2d807"},
		{1, "01456ae3604b91df4b7ac556d94b8ae5c3d03ce8541d849de2d8c2ec2d81bb24", "ad8852ca810cc6cd8973fd70ad9abf7ae10cc1cd33a50f4f946b03a56f1268af", "3812620ca53dc97477e42f805c198d1ab5621ad0451dcace3de05d94fce30d879ab83e68949682cff01c64cf679952b672d4cdc3596a6dbbe6d9783017a22303"},
		{2, "02456ae3604b91df4b7ac556d94b8ae5c3d03ce8541d849de2d8c2ec2d81bb24", "ae19ab899530733ecf7ea1a9f8543b61e87e482304e854937d23398a8330c83e", "f4a01b38416095986590688833db45ff0cbb58c277564f9e5e9b4fda944244b7ee91bd7d4f74a3e70f9c7614dfb84c4c96998d2f598783eaca9736ac9698280b"},
		{55, "03456ae3604b91df4b7ac556d94b8ae5c3d03ce8541d849de2d8c2ec2d81bb24", "2ced92e75be73142061e3d87a5c6ced69d046df0b4cff239c22ea00a3efa3341", "a6a2b4b30b90c3a6260ceca5a18016791587b05f3c3eb5be5d92e5c6b08aef6c8dddf51273f48e6fe7027bf7733afd38b28a9ede81902c25ec9f6f2e9e6fcc00"},
		{127, "04456ae3604b91df4b7ac556d94b8ae5c3d03ce8541d849de2d8c2ec2d81bb24", "cabaee8b5bebb5681a3319621b3a9b9b39f26e747531c44df42f32961e3d392d", "db205e541e91508ca6ecd79b3e2cdc850cf88b8bd2c11e68f15eb450c1e0910e31fcd50047645c7202138a145e5448a66ca4cb2cf464ffe24eecebde2359cf09"},
		{128, "05456ae3604b91df4b7ac556d94b8ae5c3d03ce8541d849de2d8c2ec2d81bb24", "5fa54ced66d18b6963db01c9f13c70c18445dd821f7dc10a7591e6727139bea4", "f61ba131efc97b9df6af04bd756cfc42bc64808ad15c055055b4aec773dc87378ac92f23acaa4b8b2175963d172b1c04fc65efda43936abc3be75566c0795505"},
		{129, "06456ae3604b91df4b7ac556d94b8ae5c3d03ce8541d849de2d8c2ec2d81bb24", "43ab0af0ebefedd5323c3084aacae86d8bee3f63d16a23c294aff3c73af6241b", "891a165cbcf21a5d27d9c36fe10d7a4f73458729308b9922c19b828914e467f83dbee03df1b0b5bb4bd51183a8af8293c48e045464dd61874fa8e0c720ea7609"},
		{1023, "07456ae3604b91df4b7ac556d94b8ae5c3d03ce8541d849de2d8c2ec2d81bb24", "c2f6a0f0cc5bb2f70cc137c3e2043f544da66277b95051bb159e72cd52730091", "464be90ff18817362dde3656454d693c8a2b22bbb65017408bb34489b1c7353e4f7b4ee36508184b0338248a4a5a0202b884518fc5036dbf4cdf330348b7d407"},
	} {
		key, sig := api.Key(unhex(t, c.key)), api.Signature(unhex(t, c.sig))
		want(t, c.key, sign.Verify(key, sig, sample(c.n)), api.OK)
		s := testkit.NewSigner([32]byte(unhex(t, c.seed)))
		if s.Key != key || s.Sign(sample(c.n)) != sig {
			t.Errorf("the kit: %x, %x", s.Key, s.Sign(sample(c.n)))
		}
	}
}

// P8.1
func TestEachBit(t *testing.T) {
	s := testkit.NewSigner([32]byte{1})
	msg := sample(20)
	sig := s.Sign(msg)
	want(t, "unchanged", sign.Verify(s.Key, sig, msg), api.OK)
	for i := range 8 * 64 {
		wrong := sig
		wrong[i/8] ^= 1 << (i % 8)
		want(t, "a bit of the signature", sign.Verify(s.Key, wrong, msg), api.ErrSign)
	}
	for i := range 8 * 32 {
		wrong := s.Key
		wrong[i/8] ^= 1 << (i % 8)
		want(t, "a bit of the key", sign.Verify(wrong, sig, msg), api.ErrSign)
	}
	for i := range 8 * len(msg) {
		wrong := append([]byte(nil), msg...)
		wrong[i/8] ^= 1 << (i % 8)
		want(t, "a bit of the bytes", sign.Verify(s.Key, sig, wrong), api.ErrSign)
	}
	want(t, "zero values", sign.Verify(api.Key{}, api.Signature{}), api.ErrSign)
	want(t, "another one's key", sign.Verify(testkit.NewSigner([32]byte{2}).Key, sig, msg), api.ErrSign)
}

// P8.1: S has to be less than the order.
func TestGreatS(t *testing.T) {
	s := testkit.NewSigner([32]byte{3})
	msg := sample(9)
	sig := s.Sign(msg)
	carry := 0
	order := scalar.Order().Encode()
	for i, c := range order {
		carry += int(sig[32+i]) + int(c)
		sig[32+i] = byte(carry)
		carry >>= 8
	}
	want(t, "S and the order", sign.Verify(s.Key, sig, msg), api.ErrSign)
	none := api.Key(curve.None().Encode())
	var zero api.Signature
	zero[0] = 1
	want(t, "S of 0, for None", sign.Verify(none, zero, msg), api.OK)
	copy(zero[32:], order[:])
	want(t, "S of the order, for None", sign.Verify(none, zero, msg), api.ErrSign)
}

// P8.1: bytes that are no point's.
func TestNoPoint(t *testing.T) {
	none := api.Key(curve.None().Encode())
	sig := api.Signature{0: 1}
	for _, wrong := range [][32]byte{{2}, {1, 31: 128}, [32]byte(unhex(t, "eeffffffffffffffffffffffffffffffffffffffffffffffffffffffffffff7f"))} {
		want(t, "as the key", sign.Verify(wrong, sig), api.ErrSign)
		bad := sig
		copy(bad[:], wrong[:])
		want(t, "as R", sign.Verify(none, bad), api.ErrSign)
	}
}

// P8.1: a point of order 8 that is added to R or to A is not overlooked.
func TestSmallOrder(t *testing.T) {
	small, e := curve.Decode([32]byte(unhex(t, "c7176a703d4dd84fba3c0b760d10670f2a2053fa2c39ccc64ec7fd7792ac037a")))
	if e != api.OK || curve.Same(small.Times(scalar.Num{4}), curve.None()) {
		t.Fatal("no point of order 8")
	}
	secret, nonce := scalar.Num{12345}, scalar.Num{777}
	good := 0
	for i := range 40 {
		msg := []byte{byte(i)}
		a := curve.Add(curve.Base().Times(secret), small)
		r := curve.Base().Times(nonce)
		if i%2 == 1 {
			a, r = curve.Base().Times(secret), curve.Add(r, small)
		}
		key, first := api.Key(a.Encode()), r.Encode()
		digest := longsum.Of(first[:], key[:], msg)
		k := scalar.Reduce(digest[:])
		second := scalar.Add(nonce, scalar.Mul(k, secret)).Encode()
		sig := api.Signature(append(first[:], second[:]...))
		is := api.ErrSign
		if i%2 == 0 && k[0]%8 == 0 { // then k times A has nothing of the small point
			is = api.OK
			good++
		}
		want(t, "with a small point", sign.Verify(key, sig, msg), is)
	}
	if good == 0 {
		t.Error("no case of a small point that does not matter")
	}
}

// P8.2
func TestParts(t *testing.T) {
	s := testkit.NewSigner([32]byte{4})
	msg := sample(40)
	sig := s.Sign(msg)
	for i := range len(msg) + 1 {
		want(t, "in parts", sign.Verify(s.Key, sig, msg[:i], nil, msg[i:]), api.OK)
	}
	want(t, "in other order", sign.Verify(s.Key, sig, msg[20:], msg[:20]), api.ErrSign)
	if string(msg) != string(sample(40)) {
		t.Error("an argument was changed")
	}
}
