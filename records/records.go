// Package records writes operations that are done as records for a disk, and reads them again.
package records

import "herald/api"

// The operations, by the numbers that stand for them on the disk.
// None is 0, so that a row of zeros is no record.
const (
	Subscribe   = 1
	Unsubscribe = 2
	Publish     = 3
	Cancel      = 4
	Move        = 5
	Tick        = 6
	Ack         = 7
)

// Record is an operation and what it was given. What it is not given is 0 or empty.
type Record struct {
	Call   int
	Client int
	Text   string // the filter or the topic
	Number int
	Value  int
	Delay  int
	Life   int
	To     int
}

// Where each part of a record begins; it has bytes enough for the greatest number that may be there.
const (
	callAt   = 0
	clientAt = callAt + 1
	textAt   = clientAt + 1
	numberAt = textAt + api.MaxText
	valueAt  = numberAt + 2
	delayAt  = valueAt + 4
	lifeAt   = delayAt + 6
	toAt     = lifeAt + 6
	checkAt  = toAt + 6
)

// Size is how many bytes a record has. All have the same number of them, so that no byte that is another
// than it was can make a record seem shorter or longer.
const Size = checkAt + 1

// Write is a record as it stands on the disk. What the operation was given must be within the limits of api.
func Write(r Record) string {
	text := numberText(r.Call, clientAt-callAt)
	text += numberText(r.Client, textAt-clientAt)
	text += filledText(r.Text, numberAt-textAt)
	text += numberText(r.Number, valueAt-numberAt)
	text += numberText(r.Value, delayAt-valueAt)
	text += numberText(r.Delay, lifeAt-delayAt)
	text += numberText(r.Life, toAt-lifeAt)
	text += numberText(r.To, checkAt-toAt)
	check := sum(text)
	return text + numberText(check, Size-checkAt)
}

// Read is the record that stands in a text; not, if the text is not, to the byte, what Write makes of one.
func Read(text string) (Record, bool) {
	if len(text) != Size {
		return Record{}, false
	}
	var all Record
	all.Call = numberOf(text[callAt:clientAt])
	all.Client = numberOf(text[clientAt:textAt])
	all.Text = unfilledText(text[textAt:numberAt])
	all.Number = numberOf(text[numberAt:valueAt])
	all.Value = numberOf(text[valueAt:delayAt])
	all.Delay = numberOf(text[delayAt:lifeAt])
	all.Life = numberOf(text[lifeAt:toAt])
	all.To = numberOf(text[toAt:checkAt])
	r := given(all)
	// This tests the check, too, and that nothing stands where the operation is given nothing.
	if r.Call == 0 || Write(r) != text {
		return Record{}, false
	}
	return r, true
}

// given leaves of a record what its operation is given, and nothing if there is no such operation.
func given(r Record) Record {
	switch r.Call {
	case Subscribe, Unsubscribe:
		return Record{Call: r.Call, Client: r.Client, Text: r.Text}
	case Publish:
		return Record{Call: r.Call, Text: r.Text, Value: r.Value, Delay: r.Delay, Life: r.Life}
	case Cancel:
		return Record{Call: r.Call, Number: r.Number}
	case Move:
		return Record{Call: r.Call, Number: r.Number, Delay: r.Delay}
	case Tick:
		return Record{Call: r.Call, To: r.To}
	case Ack:
		return Record{Call: r.Call, Client: r.Client, Number: r.Number}
	}
	return Record{}
}

// sum is another as soon as one byte of the text is another; so a record whose check is right differs
// from every other in two bytes or more.
func sum(text string) int {
	total := 0
	for i := 0; i < len(text); i++ {
		total = (total + int(text[i])) % 256
	}
	return total
}

// numberText is a number of so many bytes, the least of them first.
func numberText(number int, size int) string {
	var list []byte
	for i := 0; i < size; i++ {
		list = append(list, byte(number%256))
		number = number / 256
	}
	return string(list)
}

func numberOf(text string) int {
	number := 0
	for i := len(text) - 1; i >= 0; i-- {
		number = number*256 + int(text[i])
	}
	return number
}

// filledText has zeros behind the text, up to the size. No filter or topic has a zero in it.
func filledText(text string, size int) string {
	list := []byte(text)
	for len(list) < size {
		list = append(list, 0)
	}
	return string(list)
}

func unfilledText(text string) string {
	for i := 0; i < len(text); i++ {
		if text[i] == 0 {
			return text[:i]
		}
	}
	return text
}
