package wire

import (
	"bytes"
	"math"
	"math/rand"
	"testing"

	"sallyport/api"
)

// someInt answers numbers of all sizes, ends among them.
func someInt(r *rand.Rand) int {
	return pick(r, 0, 1, -1, 20, 40, 48, 64, 255, 256, 65535, 65536, 1<<32, math.MaxInt, math.MinInt, int(r.Uint64()), r.Intn(300))
}

func someKey(r *rand.Rand) api.Key {
	return api.Key{Proto: pick(r, 1, 6, 17, 58, someInt(r)), Src: someHost(r, r.Intn(2) == 0), Dst: someHost(r, r.Intn(2) == 0), SPort: someInt(r), DPort: someInt(r)}
}

// R1: every call ends, and none panics.

func TestNothingPanics(t *testing.T) {
	r := rand.New(rand.NewSource(11))
	for range 30000 {
		b := somePacket(r, r.Intn(2) == 0, 2)
		if r.Intn(2) == 0 {
			b = someBytes(r, r.Intn(120))
			if len(b) > 0 {
				b[0] = byte(pick(r, 0x45, 0x60, 0x4f))
			}
			b = modelFix(b)
		}
		v := View{V6: r.Intn(2) == 0, Head: someInt(r), Total: pick(r, len(b), someInt(r)), TTL: someInt(r), Proto: pick(r, 6, 17, 1, 58, someInt(r)), Src: someHost(r, r.Intn(2) == 0), Dst: someHost(r, r.Intn(2) == 0), Frag: r.Intn(8) == 0, Off: someInt(r)}
		Sum(b)
		Parse(b)
		if x, e := Transport(b, v); e != api.OK && x != (Trans{}) {
			t.Fatalf("Transport(%x, %+v): %+v, %d", b, v, x, e)
		}
		k, l := someKey(r), someKey(r)
		if p, e := Packet(k.Src, k.Dst, k.Proto, someInt(r), b); (e == api.OK) != (len(p) > 0) {
			t.Fatalf("Packet: %x, %d", p, e)
		}
		TCP(someInt(r), someInt(r), r.Uint32(), r.Uint32(), someInt(r), someInt(r), b)
		UDP(someInt(r), someInt(r), b)
		if p, e := Rewrite(b, Change{Key: k, TTL: someInt(r)}); (e == api.OK) != (len(p) > 0) {
			t.Fatalf("Rewrite: %x, %d", p, e)
		}
		if p, e := Refusal(b, k.Src, someInt(r)); (e == api.OK) != (len(p) > 0) {
			t.Fatalf("Refusal: %x, %d", p, e)
		}
		if k, ok := Quoted(b); !ok && k != (api.Key{}) {
			t.Fatalf("Quoted: %+v", k)
		}
		if p, e := Requote(b, k, l, someInt(r)); (e == api.OK) != (len(p) > 0) {
			t.Fatalf("Requote: %x, %d", p, e)
		}
	}
}

// R3: what is handed in is neither changed nor kept.

// within answers b with room behind it that has other bytes.
func within(b []byte) []byte {
	return append(bytes.Clone(b), bytes.Repeat([]byte{0xe5}, 64)...)[:len(b)]
}

// room answers b's bytes, and those of the room behind it.
func room(b []byte) []byte { return b[:cap(b)] }

func TestArgumentsStayAndAnswersAreNew(t *testing.T) {
	r := rand.New(rand.NewSource(12))
	for range 5000 {
		b := within(somePacket(r, r.Intn(2) == 0, 1))
		before := bytes.Clone(room(b))
		v, x, _ := open(b)
		k, _ := Quoted(b)
		outer, inner := Key(v, x), k
		icmp := v.Proto
		outer.Proto, outer.SPort, outer.DPort = icmp, 1, 2
		var answers [][]byte
		keep := func(p []byte, e api.Errno) {
			if e == api.OK {
				answers = append(answers, p)
			}
		}
		Sum(b)
		keep(Packet(v.Src, v.Dst, v.Proto, v.TTL, b))
		keep(TCP(1, 2, 3, 4, 5, 6, b), api.OK)
		keep(UDP(1, 2, b), api.OK)
		keep(Rewrite(b, Change{Key: Key(v, x), TTL: v.TTL, SeqAdd: 1, AckAdd: 1}))
		keep(Refusal(b, v.Src, 1))
		keep(Requote(b, outer, inner, 1))
		if !bytes.Equal(room(b), before) {
			t.Fatalf("an argument is another one: %x; it was %x", room(b), before)
		}
		var copies [][]byte
		for _, p := range answers {
			copies = append(copies, bytes.Clone(p))
		}
		for i := range room(b) {
			room(b)[i]++
		}
		for i, p := range answers {
			if !bytes.Equal(p, copies[i]) {
				t.Fatalf("an answer is kept in an argument: %x", p)
			}
		}
		after := bytes.Clone(room(b))
		for _, p := range answers {
			for i := range room(p) {
				room(p)[i] ^= 0xff
			}
		}
		if !bytes.Equal(room(b), after) {
			t.Fatal("an argument is kept in an answer")
		}
		for i, p := range answers {
			for j := range p {
				if p[j] != copies[i][j]^0xff {
					t.Fatal("two answers share memory")
				}
			}
		}
	}
}

// The chapter's examples.

func TestExamples(t *testing.T) {
	if Sum([]byte{0x45, 0}) != 0xbaff || Sum([]byte{1}) != 0xfeff || Sum(nil) != 0xffff {
		t.Error("Sum")
	}
	p, e := Packet(hostA, hostB, 17, 64, UDP(1, 2, []byte("a")))
	want(t, "Packet", e, api.OK)
	if len(p) != 29 || !bytes.Equal(p[:10], unhex("45 00 00 1D 00 00 40 00 40 11")) {
		t.Errorf("Packet: %x", p)
	}
	v, _ := Parse(p)
	wantTrans(t, "Transport", p, v, Trans{SPort: 1, DPort: 2, Head: 28, Data: 1})
	wantNoView(t, "its first 19 bytes", p[:19], api.ErrShort)
	p[8]++
	wantNoView(t, "byte 8 another one", p, api.ErrSum)
	wantNoView(t, "50", []byte{0x50}, api.ErrVersion)
}
