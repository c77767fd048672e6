package link

import (
	"reflect"
	"testing"

	"helm/api"
)

// What a run asks for is held to what there is, whatever the machine answers.
func TestActionsOfNothing(t *testing.T) {
	l, errno := New("\x00", 2)
	if errno != api.OK {
		t.Fatal(errno)
	}
	l.Write(1)
	want := l.State()
	for _, a := range []api.Action{{Road: 2}, {Road: -1}, {Road: 1 << 32}, {Road: -1 << 63}, {Road: 1<<63 - 1}, {Seq: 1}, {Seq: -1}, {Seq: 1 << 32}, {Road: 2, Seq: 1}} {
		l.act(a)
		want.Wasted++
		if got := l.State(); !reflect.DeepEqual(got, want) {
			t.Errorf("%+v: %+v, want %+v", a, got, want)
		}
	}
	l.act(api.Action{Road: 1, Seq: 0})
	if s := l.State(); s.Wasted != want.Wasted || s.Segments[1] != 1 {
		t.Errorf("%+v", s)
	}
}

// A road is asked for what a helm sees of it like a Road of package api.
func TestRoadEmbedsWhatAHelmSees(t *testing.T) {
	r := newRoad(3)
	if r.Id != 3 || r.Rtt != 40 || r.Cwnd != 2 || r.Out != 0 || r.Lossy {
		t.Errorf("%+v", r)
	}
	f, ok := reflect.TypeFor[road]().FieldByName("Road")
	if !ok || !f.Anonymous || f.Type != reflect.TypeFor[api.Road]() {
		t.Errorf("a road embeds no api.Road: %+v", f)
	}
}
