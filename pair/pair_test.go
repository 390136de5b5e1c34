package pair

import (
	"errors"
	"math"
	"slices"
	"strings"
	"testing"

	"conduit/api"
)

// P3.1, P3.2: lengths of one byte and of four.
func TestLen(t *testing.T) {
	for n, want := range map[int]string{
		0: "\x00", 1: "\x01", 127: "\x7f", 128: "\x80\x00\x00\x80", 255: "\x80\x00\x00\xff", 0x01020304: "\x81\x02\x03\x04",
		math.MaxInt32: "\xff\xff\xff\xff", math.MaxInt32 + 1: "\xff\xff\xff\xff", math.MaxInt: "\xff\xff\xff\xff", -1: "\x00", math.MinInt: "\x00",
	} {
		if got := Len(n); got != want {
			t.Errorf("P3.1: Len %d: %q", n, got)
		}
	}
}

// P3.1: names and values as bytes, and back.
func TestThereAndBack(t *testing.T) {
	if Bytes() != "" || Bytes(api.Pair{}) != "\x00\x00" || Bytes(api.Pair{Name: "a", Value: "bc"}, api.Pair{Value: "d"}) != "\x01\x02abc\x00\x01d" {
		t.Error("P3.1: short ones")
	}
	long := strings.Repeat("x", 128)
	if got := Bytes(api.Pair{Name: long[1:], Value: long}); got != "\x7f\x80\x00\x00\x80"+long[1:]+long {
		t.Errorf("P3.2: 127 and 128 bytes: %q", got)
	}
	for _, l := range [][]api.Pair{nil, {{}}, {{Name: "a"}, {Value: "\x00\xff"}, {Name: long, Value: long + long}, {Name: "a"}}} {
		got, err := Read(Bytes(l...))
		if !slices.Equal(got, l) || err != nil {
			t.Errorf("P3.1: %v, %v", got, err)
		}
	}
	if got, err := Read("\x00\x80\x00\x00\x00"); err != nil || !slices.Equal(got, []api.Pair{{}}) {
		t.Errorf("P3.1: nothing, told by four bytes: %v, %v", got, err)
	}
	for _, n := range []int{1<<16 + 1<<8 + 3, 1<<24 + 5} {
		l := []api.Pair{{Name: strings.Repeat("n", n), Value: strings.Repeat("v", n+1)}, {Name: "a"}}
		if got, err := Read(Bytes(l...)); !slices.Equal(got, l) || err != nil {
			t.Errorf("P3.1: %d bytes: %d, %v", n, len(got), err)
		}
	}
	if got, err := Read("\x80\x00\x00\x01\x00a"); err != nil || !slices.Equal(got, []api.Pair{{Name: "a"}}) {
		t.Errorf("P3.1: a small length of four bytes: %v, %v", got, err)
	}
}

// P3.1: wherever bytes lack, and one pair too many.
func TestReadErrors(t *testing.T) {
	whole := Bytes(api.Pair{Name: "a", Value: strings.Repeat("v", 130)})
	for i := 1; i < len(whole); i++ {
		if l, err := Read(whole[:i]); l != nil || !errors.Is(err, api.ErrShort) {
			t.Errorf("P3.1: %d bytes: %v, %v", i, l, err)
		}
	}
	for _, s := range []string{"\x00", "\x00\x00\x00", "\x00\x80\x00\x00", "\x80\x00\x00\x00"} {
		if l, err := Read(s); l != nil || !errors.Is(err, api.ErrShort) {
			t.Errorf("P3.1: %q: %v, %v", s, l, err)
		}
	}
	if l, err := Read("\xff\xff\xff\xff\xff\xff\xff\xffab"); l != nil || !errors.Is(err, api.ErrShort) {
		t.Errorf("P3.1: the greatest lengths: %v, %v", l, err)
	}
	full := strings.Repeat("\x00\x00", 200)
	if l, err := Read(full); len(l) != 200 || err != nil {
		t.Errorf("P3.1: 200 pairs: %d, %v", len(l), err)
	}
	for _, s := range []string{full + "\x00\x00", full + "\x05"} {
		var no api.Errno
		if l, err := Read(s); l != nil || !errors.As(err, &no) || no != api.ErrLarge {
			t.Errorf("P3.1: a byte behind 200 pairs: %d, %v", len(l), err)
		}
	}
	if l, err := Read(full[2:] + "\x01"); l != nil || !errors.Is(err, api.ErrShort) {
		t.Errorf("P3.1: a byte behind 199 pairs: %d, %v", len(l), err)
	}
}
