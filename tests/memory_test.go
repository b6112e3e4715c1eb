package tests

import (
	"fmt"
	"reflect"
	"strings"
	"testing"
	"unsafe"
)

// contents writes out xs with everything in them, including the unused capacity
// of slices, so that two calls tell whether they were modified in between.
func contents(xs ...any) string {
	var out strings.Builder
	var write func(reflect.Value)
	write = func(v reflect.Value) {
		switch v.Kind() {
		case reflect.Slice:
			fmt.Fprintf(&out, "[%d:", v.Len())
			for i := range v.Cap() {
				write(v.Slice(0, v.Cap()).Index(i))
			}
			out.WriteString("]")
		case reflect.Struct:
			for i := range v.NumField() {
				write(v.Field(i))
			}
		default:
			fmt.Fprintf(&out, "%#v;", v.Interface())
		}
	}
	for _, x := range xs {
		write(reflect.ValueOf(x))
	}
	return out.String()
}

// A stretch is a piece of memory that a slice or a string takes up.
type stretch struct {
	start, end uintptr
	isText     bool
}

func (a stretch) overlaps(b stretch) bool {
	return a.start < b.end && b.start < a.end
}

// stretches lists the memory of the slices and strings of x.
func stretches(x any) []stretch {
	list := []stretch{}
	var look func(reflect.Value)
	look = func(v reflect.Value) {
		switch v.Kind() {
		case reflect.String:
			start := uintptr(unsafe.Pointer(unsafe.StringData(v.String())))
			list = append(list, stretch{start, start + uintptr(v.Len()), true})
		case reflect.Slice:
			start := v.Pointer()
			list = append(list, stretch{start, start + uintptr(v.Cap())*v.Type().Elem().Size(), false})
			for i := range v.Len() {
				look(v.Index(i))
			}
		case reflect.Struct:
			for i := range v.NumField() {
				look(v.Field(i))
			}
		}
	}
	look(reflect.ValueOf(x))
	return list
}

// expectOwnMemory checks that the result shares no memory with the argument,
// and that no two slices of the result share memory.
func expectOwnMemory(t *testing.T, result any, argument any) {
	t.Helper()
	own := stretches(result)
	for i, a := range own {
		for _, b := range stretches(argument) {
			if a.overlaps(b) {
				t.Errorf("a part of %v is a part of the argument %v", result, argument)
				return
			}
		}
		for _, b := range own[:i] {
			if !a.isText && !b.isText && a.overlaps(b) {
				t.Errorf("two slices of %v share memory", result)
				return
			}
		}
	}
}

func TestExpectOwnMemoryFindsSharedMemory(t *testing.T) {
	list := []int64{1, 2, 3}
	name := "a name of its own"
	for _, pair := range [][2][]stretch{
		{stretches(list[:1]), stretches(list[1:])},
		{stretches(list), stretches([][]int64{{}, list})},
		{stretches(name), stretches([]string{name[2:5]})},
	} {
		found := false
		for _, a := range pair[0] {
			for _, b := range pair[1] {
				found = found || a.overlaps(b)
			}
		}
		if !found {
			t.Errorf("%v and %v", pair[0], pair[1])
		}
	}
	if contents([]int64{1, 2, 3}[:2]) == contents([]int64{1, 2, 4}[:2]) {
		t.Error("the unused capacity is not written out")
	}
}
