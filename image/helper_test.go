package image_test

import (
	"bytes"
	"encoding/binary"
	"fmt"
	"hash/crc32"
	"reflect"
	"testing"

	"auspice/api"
	"auspice/image"
)

// dump tells all that a thing has; empty lists are alike in it.
func dump(x any) string {
	return fmt.Sprintf("%+v", x)
}

// whole is an image: a table's bytes, with what must stand ahead of them and behind.
func whole(table []byte) []byte {
	b := append([]byte("AUSP"), table...)
	return binary.LittleEndian.AppendUint32(b, crc32.ChecksumIEEE(b))
}

// written are a thing's bytes by the chapter's words, whatever it has in it: fields in the order in which they stand in package api.
func written(b []byte, v reflect.Value) []byte {
	switch v.Kind() {
	case reflect.Struct:
		for at := range v.NumField() {
			b = written(b, v.Field(at))
		}
		return b
	case reflect.Slice:
		b = binary.AppendVarint(b, int64(v.Len()))
		for at := range v.Len() {
			b = written(b, v.Index(at))
		}
		return b
	case reflect.Bool:
		if v.Bool() {
			return append(b, 2)
		}
		return append(b, 0)
	case reflect.Uint64:
		return binary.AppendUvarint(b, v.Uint())
	}
	return binary.AppendVarint(b, v.Int())
}

// isWritable is what the chapter says of a thing, but for how long its image is.
func isWritable(v reflect.Value) bool {
	switch v.Kind() {
	case reflect.Struct:
		for at := range v.NumField() {
			if !isWritable(v.Field(at)) {
				return false
			}
		}
	case reflect.Slice:
		if v.Len() > 1024 {
			return false
		}
		for at := range v.Len() {
			if !isWritable(v.Index(at)) {
				return false
			}
		}
	case reflect.Int, reflect.Int64:
		return v.Int() >= -1 && v.Int() <= 1<<60
	}
	return true
}

// byWords is what Encode must answer.
func byWords(t api.Table) ([]byte, api.Errno) {
	v := reflect.ValueOf(t)
	if !isWritable(v) {
		return nil, api.ErrForm
	}
	b := whole(written(nil, v))
	if len(b) > 65536 {
		return nil, api.ErrLong
	}
	return b, api.OK
}

// readAs fills a thing from the bytes that it begins with, and tells those behind; false: there is none. Numbers may have more bytes than they must.
func readAs(b []byte, v reflect.Value) ([]byte, bool) {
	if v.Kind() == reflect.Struct {
		ok := true
		for at := 0; ok && at < v.NumField(); at++ {
			b, ok = readAs(b, v.Field(at))
		}
		return b, ok
	}
	if v.Kind() == reflect.Uint64 {
		n, length := binary.Uvarint(b)
		v.SetUint(n)
		return b[max(0, length):], length > 0
	}
	n, length := binary.Varint(b)
	if length <= 0 {
		return nil, false
	}
	b = b[length:]
	switch v.Kind() {
	case reflect.Slice:
		if n < 0 || n > int64(len(b)) {
			return nil, false
		}
		v.Set(reflect.MakeSlice(v.Type(), int(n), int(n)))
		ok := true
		for at := 0; ok && at < int(n); at++ {
			b, ok = readAs(b, v.Index(at))
		}
		return b, ok
	case reflect.Bool:
		v.SetBool(n != 0)
	default:
		v.SetInt(n)
	}
	return b, true
}

// tableByWords is the table of which some bytes are the image, if they are one's.
func tableByWords(b []byte) (api.Table, bool) {
	t := api.Table{}
	if len(b) < 8 {
		return t, false
	}
	readAs(b[4:len(b)-4], reflect.ValueOf(&t).Elem())
	again, err := byWords(t)
	if err != api.OK || !bytes.Equal(again, b) {
		return api.Table{}, false
	}
	return t, true
}

// wantEncode holds Encode against the chapter's words, and Decode of it against the table.
func wantEncode(t *testing.T, x api.Table) ([]byte, api.Errno) {
	t.Helper()
	wanted, wantedErr := byWords(x)
	before := dump(x)
	got, err := image.Encode(x)
	if err != wantedErr || !bytes.Equal(got, wanted) {
		t.Fatalf("Encode: %d and %d bytes, wanted %d and %d: %.2000s", err, len(got), wantedErr, len(wanted), before)
	}
	if dump(x) != before {
		t.Fatalf("it was changed: %.2000s", before)
	}
	if err == api.OK {
		back, err := image.Decode(got)
		if err != api.OK || dump(back) != before {
			t.Fatalf("Decode: %d and %.2000s, wanted %.2000s", err, dump(back), before)
		}
	}
	return got, err
}

// wantDecode holds Decode against the chapter's words, for bytes whose beginning, end and length are right.
func wantDecode(t *testing.T, b []byte) api.Errno {
	t.Helper()
	wanted, ok := tableByWords(b)
	got, err := image.Decode(b)
	if ok != (err == api.OK) || !ok && err != api.ErrImage || dump(got) != dump(wanted) {
		t.Fatalf("Decode of % x: %d and %.2000s, wanted %v and %.2000s", b, err, dump(got), ok, dump(wanted))
	}
	return err
}

// wantRefused: an error, and nothing beside it.
func wantRefused(t *testing.T, what string, b []byte, wanted api.Errno) {
	t.Helper()
	if got, err := image.Decode(b); err != wanted || dump(got) != dump(api.Table{}) {
		t.Errorf("%s: %d, wanted %d, beside %.200s", what, err, wanted, dump(got))
	}
}

// fill puts into a thing, and into those below it, what pick picks: a number from 0 on, below the one that it is handed.
func fill(v reflect.Value, pick func(n int) int, most int) {
	switch v.Kind() {
	case reflect.Struct:
		for at := range v.NumField() {
			fill(v.Field(at), pick, most)
		}
	case reflect.Slice:
		v.Set(reflect.MakeSlice(v.Type(), 0, 0))
		for range pick(most + 1) {
			v.Set(reflect.Append(v, reflect.Zero(v.Type().Elem())))
			fill(v.Index(v.Len()-1), pick, most)
		}
	case reflect.Bool:
		v.SetBool(pick(2) == 0)
	case reflect.Uint64:
		v.SetUint([]uint64{0, 1, 127, 128, 1 << 62, 1 << 63, 1<<64 - 1}[pick(7)])
	default:
		v.SetInt([]int64{-1, 0, 1, 2, 63, 64, 5000, 1<<60 - 1, 1 << 60}[pick(9)])
	}
}

func random(pick func(n int) int) api.Table {
	t := api.Table{}
	fill(reflect.ValueOf(&t).Elem(), pick, 3)
	return t
}

// full has one thing at least in each list.
func full() api.Table {
	t := api.Table{}
	fill(reflect.ValueOf(&t).Elem(), func(n int) int { return min(2, n-1) }, 2)
	return t
}

// parts are all that a thing has of some kinds, itself too.
func parts(v reflect.Value, kinds ...reflect.Kind) []reflect.Value {
	l := []reflect.Value{}
	for _, kind := range kinds {
		if v.Kind() == kind {
			l = append(l, v)
		}
	}
	switch v.Kind() {
	case reflect.Struct:
		for at := range v.NumField() {
			l = append(l, parts(v.Field(at), kinds...)...)
		}
	case reflect.Slice:
		for at := range v.Len() {
			l = append(l, parts(v.Index(at), kinds...)...)
		}
	}
	return l
}
