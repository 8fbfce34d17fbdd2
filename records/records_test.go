package records

import (
	"strings"
	"testing"

	"herald/api"
)

// Of each operation those with the least and with the greatest that it may be given, and some between.
var some = []Record{
	{Call: Subscribe, Client: 0, Text: "#"},
	{Call: Subscribe, Client: 7, Text: "abc/def/ghi/jkl"},
	{Call: Unsubscribe, Client: 0, Text: "a"},
	{Call: Unsubscribe, Client: 7, Text: "+/+/+/+"},
	{Call: Publish, Text: "a"},
	{Call: Publish, Text: "abc/def/ghi/jkl", Value: api.MaxValue, Delay: api.MaxTime, Life: api.MaxTime},
	{Call: Publish, Text: "a/b", Value: 255, Delay: 256, Life: 65535},
	{Call: Cancel, Number: 0},
	{Call: Cancel, Number: api.MaxRoom},
	{Call: Move, Number: 0, Delay: 1},
	{Call: Move, Number: 256, Delay: api.MaxTime},
	{Call: Tick, To: 1},
	{Call: Tick, To: 0x123456789a},
	{Call: Tick, To: api.MaxTime},
	{Call: Ack, Client: 0, Number: 0},
	{Call: Ack, Client: 7, Number: 499},
}

func wantNoRecord(t *testing.T, text string) {
	t.Helper()
	if r, isOne := Read(text); isOne || r != (Record{}) {
		t.Errorf("Read(%x) = %v, %v, want none", text, r, isOne)
	}
}

func TestWhatIsWrittenIsReadAgain(t *testing.T) {
	for _, r := range some {
		text := Write(r)
		if len(text) != Size {
			t.Errorf("Write(%v) has %d bytes, want %d", r, len(text), Size)
		}
		if back, isOne := Read(text); !isOne || back != r {
			t.Errorf("Read(Write(%v)) = %v, %v", r, back, isOne)
		}
	}
}

func TestNoRecordIsAnotherWithOneByteTurned(t *testing.T) {
	for _, r := range some {
		text := Write(r)
		for at := range len(text) {
			for by := 1; by < 256; by++ {
				b := []byte(text)
				b[at] += byte(by)
				wantNoRecord(t, string(b))
			}
		}
	}
}

func TestTextsOfAnotherLength(t *testing.T) {
	for _, r := range some {
		text := Write(r)
		for n := range len(text) {
			wantNoRecord(t, text[:n])
			wantNoRecord(t, text[len(text)-n:])
		}
		wantNoRecord(t, text+text[:1])
		wantNoRecord(t, text+"\x00")
		wantNoRecord(t, text+text)
	}
}

func TestEqualBytesAreNoRecord(t *testing.T) {
	for c := range 256 {
		wantNoRecord(t, strings.Repeat(string([]byte{byte(c)}), Size))
	}
}

func TestOtherOperations(t *testing.T) {
	for call := range 256 {
		text := Write(Record{Call: call})
		if _, isOne := Read(text); isOne != (call >= 1 && call <= 7) {
			t.Errorf("Read of the operation %d: %v", call, isOne)
		}
	}
}

// Each has something where its operation is given nothing.
func TestWhatAnOperationIsNotGiven(t *testing.T) {
	takes := [][7]bool{ // Client, Text, Number, Value, Delay, Life, To
		Subscribe:   {true, true, false, false, false, false, false},
		Unsubscribe: {true, true, false, false, false, false, false},
		Publish:     {false, true, false, true, true, true, false},
		Cancel:      {false, false, true, false, false, false, false},
		Move:        {false, false, true, false, true, false, false},
		Tick:        {false, false, false, false, false, false, true},
		Ack:         {true, false, true, false, false, false, false},
	}
	for call := Subscribe; call <= Ack; call++ {
		for i, r := range []Record{{Client: 1}, {Text: "a"}, {Number: 1}, {Value: 1}, {Delay: 1}, {Life: 1}, {To: 1}} {
			r.Call = call
			if _, isOne := Read(Write(r)); isOne != takes[call][i] {
				t.Errorf("Read(Write(%v)): %v, want %v", r, isOne, takes[call][i])
			}
		}
	}
}

// Behind a text that is at its end nothing may stand.
func TestATextWithAZeroInIt(t *testing.T) {
	for _, text := range []string{"a\x00b", "\x00a", "a\x00\x00\x00\x00\x00\x00\x00\x00\x00\x00\x00\x00\x00b"} {
		wantNoRecord(t, Write(Record{Call: Subscribe, Text: text}))
	}
}
