package herald

import (
	"slices"
	"testing"
	"unsafe"

	"herald/api"
)

func waits(number int, topic string, value, deadline, life int) api.Waiting {
	return api.Waiting{Number: number, Topic: topic, Value: value, Deadline: deadline, Life: life}
}

func wantWaiting(t *testing.T, h *Herald, want ...api.Waiting) {
	t.Helper()
	if got := h.Waiting(); !slices.Equal(got, want) {
		t.Errorf("P10: at %d Waiting() = %v, want %v", h.Time(), got, want)
	}
}

// wantOrder looks at the Numbers of what waits alone.
func wantOrder(t *testing.T, h *Herald, want ...int) {
	t.Helper()
	var got []int
	for _, w := range h.Waiting() {
		got = append(got, w.Number)
	}
	if !slices.Equal(got, want) {
		t.Errorf("P10: at %d Waiting() has the Numbers %v, want %v", h.Time(), got, want)
	}
}

func wantDeadline(t *testing.T, h *Herald, number, want int) {
	t.Helper()
	for _, w := range h.Waiting() {
		if w.Number == number && w.Deadline == want {
			return
		}
	}
	t.Errorf("P10: at %d Waiting() = %v, want %d with the deadline %d", h.Time(), h.Waiting(), number, want)
}

func cancel(t *testing.T, h *Herald, number int) {
	t.Helper()
	if e := h.Cancel(number); e != api.OK {
		t.Errorf("P6: Cancel(%d) = %d, want OK", number, e)
	}
}

func move(t *testing.T, h *Herald, number, delay int) {
	t.Helper()
	if e := h.Move(number, delay); e != api.OK {
		t.Errorf("P6: at %d Move(%d, %d) = %d, want OK", h.Time(), number, delay, e)
	}
}

// wantNone: no message of this Number waits, whatever the delay.
func wantNone(t *testing.T, h *Herald, number int) {
	t.Helper()
	if e := h.Cancel(number); e != api.ErrNone {
		t.Errorf("P6: Cancel(%d) = %d, want ErrNone", number, e)
	}
	for _, delay := range []int{least, -1, 0, 1, 5, api.MaxTime, api.MaxTime + 1, greatest} {
		if e := h.Move(number, delay); e != api.ErrNone {
			t.Errorf("P6: Move(%d, %d) = %d, want ErrNone", number, delay, e)
		}
	}
}

// The second of the document's examples, with each instant between.
func TestWaitAndSend(t *testing.T) {
	h := begin(t, api.MaxRoom)
	subscribeAll(t, h, 0, "#")
	publish(t, h, 0, "a", 5, 0, 0)
	wantQueue(t, h, 0, mail(0, "a", 5, 0, 0))
	wantWaiting(t, h)
	publish(t, h, 1, "b", 6, 10, 0)
	publish(t, h, 2, "c", 7, 10, 4)
	publish(t, h, 3, "d", 8, 5, 0)
	wantWaiting(t, h, waits(3, "d", 8, 5, 0), waits(1, "b", 6, 10, 0), waits(2, "c", 7, 10, 4))
	for to := 1; to < 5; to++ {
		tick(t, h, to)
		wantNumbers(t, h, 0, 0)
		wantOrder(t, h, 3, 1, 2)
	}
	tick(t, h, 9)
	wantQueue(t, h, 0, mail(0, "a", 5, 0, 0), mail(3, "d", 8, 9, 0))
	wantWaiting(t, h, waits(1, "b", 6, 10, 0), waits(2, "c", 7, 10, 4))
	tick(t, h, 30)
	all := []api.Message{mail(0, "a", 5, 0, 0), mail(3, "d", 8, 9, 0), mail(1, "b", 6, 30, 0), mail(2, "c", 7, 30, 4)}
	wantQueue(t, h, 0, all...)
	wantWaiting(t, h)
	tick(t, h, 20)
	wantQueue(t, h, 0, all...)
	tick(t, h, 33)
	all[3].Left = 1
	wantQueue(t, h, 0, all...)
	tick(t, h, 34)
	wantQueue(t, h, 0, all[:3]...)
	wantWaiting(t, h)
}

func TestDueJustNowAndAnInstantLater(t *testing.T) {
	for _, delay := range []int{1, 2, 1000, api.MaxTime - 1} {
		h := begin(t, api.MaxRoom)
		subscribeAll(t, h, 0, "#")
		publish(t, h, 0, "a", 1, delay+1, 0)
		publish(t, h, 1, "b", 2, delay, 0)
		tick(t, h, delay-1)
		wantQueue(t, h, 0)
		wantWaiting(t, h, waits(1, "b", 2, delay, 0), waits(0, "a", 1, delay+1, 0))
		tick(t, h, delay)
		wantQueue(t, h, 0, mail(1, "b", 2, delay, 0))
		wantWaiting(t, h, waits(0, "a", 1, delay+1, 0))
		tick(t, h, delay)
		wantNumbers(t, h, 0, 1)
		tick(t, h, delay+1)
		wantQueue(t, h, 0, mail(1, "b", 2, delay, 0), mail(0, "a", 1, delay+1, 0))
		wantWaiting(t, h)
	}
}

// Each message is sent once, however often the clock goes on.
func TestSentOnce(t *testing.T) {
	h := begin(t, api.MaxRoom)
	subscribeAll(t, h, 0, "#")
	publish(t, h, 0, "a", 1, 3, 0)
	for to := 1; to < 9; to++ {
		tick(t, h, to)
	}
	wantQueue(t, h, 0, mail(0, "a", 1, 3, 0))
	ack(t, h, 0, 0)
	tick(t, h, api.MaxTime)
	wantQueue(t, h, 0)
	wantLost(t, h, 0)
}

// The delay counts from the time at which the message is published.
func TestDelaysFromALaterTime(t *testing.T) {
	h := begin(t, api.MaxRoom)
	publish(t, h, 0, "a", 0, 7, 1)
	tick(t, h, 5)
	publish(t, h, 1, "a/b", 1<<30, 1, api.MaxTime)
	publish(t, h, 2, "abc/def/ghi/jkl", 0, 2, 0)
	tick(t, h, 5)
	publish(t, h, 3, "c", 3, 3, 2)
	wantWaiting(t, h, waits(1, "a/b", 1<<30, 6, api.MaxTime), waits(0, "a", 0, 7, 1),
		waits(2, "abc/def/ghi/jkl", 0, 7, 0), waits(3, "c", 3, 8, 2))
}

func TestDeadlinesAtTheEndOfTime(t *testing.T) {
	for _, c := range []struct{ time, delay, deadline int }{
		{0, 1, 1},
		{0, api.MaxTime - 1, api.MaxTime - 1},
		{0, api.MaxTime, api.MaxTime},
		{1, api.MaxTime - 1, api.MaxTime},
		{1, api.MaxTime, api.MaxTime},
		{1099511627770, 5, 1099511627775},
		{1099511627770, 6, 1099511627776},
		{1099511627770, 7, 1099511627776},
		{1099511627770, 100, 1099511627776},
		{1099511627770, api.MaxTime, 1099511627776},
		{api.MaxTime - 1, 1, api.MaxTime},
		{api.MaxTime - 1, 2, api.MaxTime},
		{api.MaxTime, 1, api.MaxTime},
		{api.MaxTime, api.MaxTime, api.MaxTime},
	} {
		h := begin(t, api.MaxRoom)
		publish(t, h, 0, "b", 2, 1, 3)
		publish(t, h, 1, "b", 2, api.MaxTime, 3)
		move(t, h, 0, api.MaxTime)
		tick(t, h, c.time)
		if c.time < api.MaxTime {
			move(t, h, 0, c.delay)
			wantDeadline(t, h, 0, c.deadline)
			wantDeadline(t, h, 1, api.MaxTime)
			cancel(t, h, 0)
			cancel(t, h, 1)
		}
		publish(t, h, 2, "a", 5, c.delay, 9)
		wantWaiting(t, h, waits(2, "a", 5, c.deadline, 9))
		move(t, h, 2, c.delay)
		wantWaiting(t, h, waits(2, "a", 5, c.deadline, 9))
	}
}

// Where the clock goes no further, what is published with a delay waits for good, but may be cancelled and moved.
func TestWaitingWhenTimeIsAtItsEnd(t *testing.T) {
	h := begin(t, api.MaxRoom)
	subscribeAll(t, h, 0, "#")
	publish(t, h, 0, "a", 1, api.MaxTime, 2)
	tick(t, h, api.MaxTime)
	wantQueue(t, h, 0, mail(0, "a", 1, api.MaxTime, 2))
	publish(t, h, 1, "a", 1, 1, 0)
	publish(t, h, 2, "a", 1, api.MaxTime, 0)
	tick(t, h, api.MaxTime)
	move(t, h, 1, 7)
	wantWaiting(t, h, waits(1, "a", 1, api.MaxTime, 0), waits(2, "a", 1, api.MaxTime, 0))
	wantNumbers(t, h, 0, 0)
	cancel(t, h, 1)
	wantOrder(t, h, 2)
}

func TestOneDeadlineByNumbers(t *testing.T) {
	h := begin(t, api.MaxRoom)
	subscribeAll(t, h, 0, "#")
	for i := 0; i < 5; i++ {
		publish(t, h, i, "a", i, 20-i, 0)
		tick(t, h, i+1)
	}
	// Deadlines 20, 20, 20, 20, 20: published at another time each.
	wantOrder(t, h, 0, 1, 2, 3, 4)
	move(t, h, 3, 14)
	move(t, h, 0, 16)
	wantOrder(t, h, 3, 1, 2, 4, 0)
	publish(t, h, 5, "a", 5, 15, 0)
	move(t, h, 0, 15)
	move(t, h, 3, 15)
	wantOrder(t, h, 0, 1, 2, 3, 4, 5)
	tick(t, h, 20)
	wantNumbers(t, h, 0, 0, 1, 2, 3, 4, 5)
	wantOrder(t, h)
}

// All orders in which five messages may come, each moved to each place, on, between and behind the others.
func TestMoveToEveryPlace(t *testing.T) {
	for _, order := range orders([]string{"10", "20", "20", "30", "40"}) {
		var delays []int
		for _, text := range order {
			delays = append(delays, 10*int(text[0]-'0'))
		}
		for number := range delays {
			for _, delay := range []int{1, 9, 10, 11, 15, 20, 21, 30, 39, 40, 41, api.MaxTime} {
				moveTo(t, delays, number, delay)
			}
		}
	}
}

// moveTo publishes with these delays, moves one, and looks at what waits and what a Tick makes of it.
func moveTo(t *testing.T, delays []int, number, delay int) {
	t.Helper()
	h := begin(t, 20)
	subscribeAll(t, h, 0, "#")
	for i, d := range delays {
		publish(t, h, i, "a", i, d, 0)
	}
	wanted := inOrder(delays)
	wantWaiting(t, h, wanted...)
	move(t, h, number, delay)
	moved := slices.Clone(delays)
	moved[number] = delay
	wanted = inOrder(moved)
	wantWaiting(t, h, wanted...)
	tick(t, h, 25)
	var sent []int
	for _, w := range wanted {
		if w.Deadline <= 25 {
			sent = append(sent, w.Number)
		}
	}
	wantNumbers(t, h, 0, sent...)
	wantWaiting(t, h, wanted[len(sent):]...)
}

// inOrder is what waits of messages with these deadlines.
func inOrder(deadlines []int) []api.Waiting {
	var list []api.Waiting
	for len(list) < len(deadlines) {
		next := -1
		for i, deadline := range deadlines {
			taken := slices.ContainsFunc(list, func(w api.Waiting) bool { return w.Number == i })
			if !taken && (next < 0 || deadline < deadlines[next]) {
				next = i
			}
		}
		list = append(list, waits(next, "a", next, deadlines[next], 0))
	}
	return list
}

// A Move counts from the time of the Move, and changes nothing but the deadline.
func TestMoveLater(t *testing.T) {
	h := begin(t, api.MaxRoom)
	subscribeAll(t, h, 0, "#")
	publish(t, h, 0, "a/b", 5, 10, 7)
	publish(t, h, 1, "c", 6, 12, 0)
	tick(t, h, 9)
	move(t, h, 0, 10)
	wantWaiting(t, h, waits(1, "c", 6, 12, 0), waits(0, "a/b", 5, 19, 7))
	move(t, h, 0, 1)
	wantWaiting(t, h, waits(0, "a/b", 5, 10, 7), waits(1, "c", 6, 12, 0))
	move(t, h, 0, 4)
	move(t, h, 0, 4)
	tick(t, h, 12)
	wantQueue(t, h, 0, mail(1, "c", 6, 12, 0))
	tick(t, h, 13)
	wantQueue(t, h, 0, mail(1, "c", 6, 12, 0), mail(0, "a/b", 5, 13, 7))
}

func TestCancelOfEach(t *testing.T) {
	delays := []int{30, 10, 20, 10, 40}
	order := []int{1, 3, 2, 0, 4}
	for number := range delays {
		h := begin(t, api.MaxRoom)
		subscribeAll(t, h, 0, "#")
		for i, d := range delays {
			publish(t, h, i, "a", i, d, 0)
		}
		cancel(t, h, number)
		rest := slices.DeleteFunc(slices.Clone(order), func(n int) bool { return n == number })
		wantOrder(t, h, rest...)
		wantNone(t, h, number)
		tick(t, h, 50)
		wantNumbers(t, h, 0, rest...)
		wantWaiting(t, h)
		publish(t, h, 5, "a", 5, 0, 0) // the Number of what was cancelled is not given again
	}
}

// No message of these Numbers waits: never given, sent at once, sent by a Tick, over since, acked, lost, cancelled.
func TestNumbersThatDoNotWait(t *testing.T) {
	h := begin(t, api.MaxRoom)
	for _, number := range []int{least, -1, 0, 1, 64, greatest} {
		wantNone(t, h, number)
	}
	subscribeAll(t, h, 0, "a")
	publish(t, h, 0, "a", 0, 0, 0)
	publish(t, h, 1, "a", 1, 2, 0)
	publish(t, h, 2, "a", 2, 2, 1)
	publish(t, h, 3, "b", 3, 2, 0) // nobody has a filter for it
	publish(t, h, 4, "a", 4, 9, 0)
	publish(t, h, 5, "a", 5, 9, 0)
	tick(t, h, 2)
	tick(t, h, 3)
	ack(t, h, 0, 1)
	cancel(t, h, 5)
	for i := 6; i < 16; i++ {
		publish(t, h, i, "a", i, 1, 0)
	}
	tick(t, h, 4)
	wantLost(t, h, 1)
	for _, number := range []int{least, -1, 0, 1, 2, 3, 5, 6, 14, 15, 16, 17, 1 << 32, 1<<32 + 4, greatest} {
		wantNone(t, h, number)
	}
	wantWaiting(t, h, waits(4, "a", 4, 9, 0))
	wantNumbers(t, h, 0, 0, 6, 7, 8, 9, 10, 11, 12, 13, 14)
}

func TestDelaysThatMayNotBe(t *testing.T) {
	h := begin(t, api.MaxRoom)
	publish(t, h, 0, "a", 1, 5, 2)
	tick(t, h, 1)
	for _, delay := range []int{least, least + 1, -api.MaxTime, -1, 0, api.MaxTime + 1, 1 << 41, greatest - 1, greatest} {
		want(t, "P6: Move with a wrong delay", h.Move(0, delay), api.ErrArg)
		if delay != 0 {
			publishWrong(t, h, api.ErrArg, "a", 1, delay, 0)
			publishWrong(t, h, api.ErrTopic, "a/", 1, delay, 0)
		}
	}
	publishWrong(t, h, api.ErrTopic, "#", 1, 1, 0)
	for _, wrong := range []int{least, -1, api.MaxTime + 1, greatest} {
		publishWrong(t, h, api.ErrArg, "a", wrong, 1, 0)
		publishWrong(t, h, api.ErrArg, "a", 1, 1, wrong)
	}
	publishWrong(t, h, api.ErrArg, "a", api.MaxValue+1, 1, 0)
	wantWaiting(t, h, waits(0, "a", 1, 5, 2))
	publish(t, h, 1, "a", 1, 1, 0)
}

// waitMany has messages 0 to n-1 wait, of the deadlines 1 to 3 in turn.
func waitMany(t *testing.T, h *Herald, n int) {
	t.Helper()
	for i := 0; i < n; i++ {
		publish(t, h, i, "a", i, 1+i%3, 0)
	}
	if got := len(h.Waiting()); got != n {
		t.Errorf("P10: %d wait, want %d", got, n)
	}
}

func TestAsManyAsMayWait(t *testing.T) {
	h := begin(t, api.MaxRoom)
	waitMany(t, h, 63)
	publish(t, h, 63, "a", 63, 1, 0)
	before := h.Waiting()
	publishWrong(t, h, api.ErrMany, "a", 1, 1, 0)
	publishWrong(t, h, api.ErrMany, "a", 1, api.MaxTime, 1)
	publishWrong(t, h, api.ErrArg, "a", 1, api.MaxTime+1, 1)
	publishWrong(t, h, api.ErrArg, "a", -1, 1, 1)
	publishWrong(t, h, api.ErrArg, "a", 1, 1, -1)
	publishWrong(t, h, api.ErrTopic, "A", 1, 1, 0)
	wantWaiting(t, h, before...)
	publish(t, h, 64, "a", 1, 0, 0) // what is sent at once does not wait
	wantWaiting(t, h, before...)
	move(t, h, 5, 9)
	publishWrong(t, h, api.ErrMany, "a", 1, 1, 0)
	cancel(t, h, 63)
	publish(t, h, 65, "a", 1, 9, 0)
	publishWrong(t, h, api.ErrMany, "a", 1, 1, 0)
	tick(t, h, 1)
	if got := len(h.Waiting()); got != 64-21 {
		t.Errorf("P7: behind the Tick %d wait, want %d", got, 64-21)
	}
	for i := 0; i < 21; i++ {
		publish(t, h, 66+i, "a", 1, 1, 0)
	}
	publishWrong(t, h, api.ErrMany, "a", 1, 1, 0)
	tick(t, h, api.MaxTime)
	wantWaiting(t, h)
	publish(t, h, 87, "a", 1, 1, 0)
}

func TestManyAheadOfFull(t *testing.T) {
	h := begin(t, 64)
	waitMany(t, h, 64)
	publishWrong(t, h, api.ErrMany, "a", 1, 1, 0)
	publishWrong(t, h, api.ErrFull, "a", 1, 0, 0)
	h = begin(t, 63)
	waitMany(t, h, 63)
	publishWrong(t, h, api.ErrFull, "a", 1, 1, 0)
}

// What a Tick sends has the time as its At, not its deadline, and its Life begins then.
func TestLifeOfWhatATickSends(t *testing.T) {
	h := begin(t, api.MaxRoom)
	subscribeAll(t, h, 0, "#")
	publish(t, h, 0, "a", 0, 3, 1)
	publish(t, h, 1, "b", 1, 5, 4)
	publish(t, h, 2, "c", 2, 6, 0)
	publish(t, h, 3, "d", 3, 4, api.MaxTime)
	tick(t, h, 100)
	wantQueue(t, h, 0, mail(0, "a", 0, 100, 1), mail(3, "d", 3, 100, api.MaxTime), mail(1, "b", 1, 100, 4), mail(2, "c", 2, 100, 0))
	tick(t, h, 101)
	wantQueue(t, h, 0, mail(3, "d", 3, 100, api.MaxTime-1), mail(1, "b", 1, 100, 3), mail(2, "c", 2, 100, 0))
	tick(t, h, 103)
	wantQueue(t, h, 0, mail(3, "d", 3, 100, api.MaxTime-3), mail(1, "b", 1, 100, 1), mail(2, "c", 2, 100, 0))
	tick(t, h, 104)
	wantQueue(t, h, 0, mail(3, "d", 3, 100, api.MaxTime-4), mail(2, "c", 2, 100, 0))
}

// The filters count that are there when it is sent, not those when it was published.
func TestFiltersWhenItIsSent(t *testing.T) {
	h := begin(t, api.MaxRoom)
	subscribeAll(t, h, 0, "a")
	subscribeAll(t, h, 1, "a")
	subscribeAll(t, h, 3, "a", "#", "+") // all three fit: once
	subscribeAll(t, h, 4, "b")
	publish(t, h, 0, "a", 7, 5, 0)
	want(t, "P4: Unsubscribe", h.Unsubscribe(1, "a"), api.OK)
	subscribeAll(t, h, 2, "a/#")
	tick(t, h, 6)
	for client, has := range []bool{true, false, true, true, false, false, false, false} {
		if has {
			wantQueue(t, h, client, mail(0, "a", 7, 6, 0))
		} else {
			wantQueue(t, h, client)
		}
	}
	wantLost(t, h, 0, 0, 0, 0, 0, 0, 0, 0)
	wantWaiting(t, h)
}

// A Tick that sends to a full queue: the first in the order find room, the others are lost; another client's are not.
func TestFullQueueAtATick(t *testing.T) {
	h := begin(t, api.MaxRoom)
	subscribeAll(t, h, 0, "#")
	subscribeAll(t, h, 1, "b")
	for i := 0; i < 8; i++ {
		publish(t, h, i, "a", i, 0, 0)
	}
	publish(t, h, 8, "b", 8, 4, 0)
	publish(t, h, 9, "b", 9, 3, 0)
	publish(t, h, 10, "b", 10, 3, 1)
	publish(t, h, 11, "b", 11, 2, 0)
	tick(t, h, 4)
	wantNumbers(t, h, 0, 0, 1, 2, 3, 4, 5, 6, 7, 11, 9)
	wantNumbers(t, h, 1, 11, 9, 10, 8)
	wantLost(t, h, 2, 0)
	wantWaiting(t, h) // what is lost waits no more
	tick(t, h, 5)
	wantNumbers(t, h, 1, 11, 9, 8)
	ack(t, h, 0, 0)
	wantNumbers(t, h, 0, 1, 2, 3, 4, 5, 6, 7, 11, 9)
}

// What is over at a Tick leaves ahead of what this Tick sends; what is not over yet does not.
func TestOverAheadOfSent(t *testing.T) {
	for _, c := range []struct{ to, has, lost int }{{4, 10, 3}, {5, 3, 0}, {6, 3, 0}} {
		h := begin(t, api.MaxRoom)
		subscribeAll(t, h, 0, "a")
		for i := 0; i < 10; i++ {
			publish(t, h, i, "a", i, 0, 5)
		}
		for i := 10; i < 13; i++ {
			publish(t, h, i, "a", i, 4, 5)
		}
		tick(t, h, c.to)
		if got := len(h.Queue(0)); got != c.has {
			t.Errorf("P7: behind Tick(%d) the queue has %d messages, want %d", c.to, got, c.has)
		}
		wantLost(t, h, c.lost)
		wantWaiting(t, h)
	}
}

func TestCancelAndMoveWithoutRoom(t *testing.T) {
	h := begin(t, 0)
	wantNone(t, h, 0)
	publishWrong(t, h, api.ErrFull, "a", 1, 1, 0)
	publishWrong(t, h, api.ErrArg, "a", 1, -1, 0)
	want(t, "P7: Tick without room", h.Tick(1), api.ErrFull)
	wantWaiting(t, h)
}

func TestWaitingWithRoomUsedUp(t *testing.T) {
	h := begin(t, 5)
	subscribeAll(t, h, 0, "#")
	publish(t, h, 0, "a", 1, 5, 0)
	publish(t, h, 1, "b", 2, 3, 4)
	move(t, h, 0, 2)
	tick(t, h, 1)
	for i := 0; i < 2; i++ {
		want(t, "P6: Cancel, full", h.Cancel(0), api.ErrFull)
		want(t, "P6: Move, full", h.Move(1, 1), api.ErrFull)
		want(t, "P6: Move to the deadline that it has, full", h.Move(1, 2), api.ErrFull)
		want(t, "P6: Move with a wrong delay, full", h.Move(1, 0), api.ErrArg)
		want(t, "P6: Move with a wrong delay, full", h.Move(1, api.MaxTime+1), api.ErrArg)
		wantNone(t, h, 2)
		wantNone(t, h, -1)
		publishWrong(t, h, api.ErrFull, "a", 1, 1, 0)
		publishWrong(t, h, api.ErrArg, "a", 1, api.MaxTime+1, 0)
		want(t, "P7: Tick that would send, full", h.Tick(3), api.ErrFull)
		want(t, "P7: Tick that would send, full", h.Tick(api.MaxTime), api.ErrFull)
		tick(t, h, 1)
		wantTime(t, h, 1)
		wantQueue(t, h, 0)
		wantWaiting(t, h, waits(0, "a", 1, 2, 0), waits(1, "b", 2, 3, 4))
	}
}

// A Publish that waits, a Cancel and a Move take one record each, and those with an error none;
// a Tick takes one, however much it sends.
func TestRecordsOfWhatWaits(t *testing.T) {
	for _, room := range []int{1, 2, 3, 4, 5, 6, 7, 8, 9, 10, 11, 499, api.MaxRoom} {
		h := begin(t, room)
		number := 0
		for i := 0; i < room; i++ {
			wantNone(t, h, number)
			publishWrong(t, h, api.ErrArg, "a", 1, -1, 0)
			switch i % 6 {
			case 0, 1, 2:
				publish(t, h, number, "a", 1, 5, 0)
				number++
			case 3:
				want(t, "P6: no delay", h.Move(number-1, 0), api.ErrArg)
				move(t, h, number-1, 5) // to the deadline that it has
			case 4:
				cancel(t, h, number-1)
			case 5:
				tick(t, h, h.Time()+5)
				wantWaiting(t, h)
			}
		}
		want(t, "P4: Subscribe, full", h.Subscribe(0, "b"), api.ErrFull)
	}
}

func TestWaitingIsFresh(t *testing.T) {
	h := begin(t, api.MaxRoom)
	subscribeAll(t, h, 0, "a")
	for i := 0; i < 5; i++ {
		publish(t, h, i, "a", i, 5+i, i)
	}
	kept := h.Waiting()
	clean := slices.Clone(kept)
	spoil := waits(99, "x", 9, 9, 9)
	spoiled := h.Waiting()
	spoiled = spoiled[:cap(spoiled)]
	for i := range spoiled {
		spoiled[i] = spoil
	}
	wantWaiting(t, h, clean...)
	for i := 5; i < 9; i++ {
		publish(t, h, i, "a", i, 1, 0)
	}
	move(t, h, 3, 1)
	cancel(t, h, 4)
	tick(t, h, 5)
	publish(t, h, 9, "a", 9, 1, 0)
	if !slices.Equal(kept, clean) {
		t.Errorf("P2: a list that came out is now %v, want %v", kept, clean)
	}
	for i := range spoiled {
		if spoiled[i] != spoil {
			t.Errorf("P2: the room of a list that came out has now %v", spoiled[i])
		}
	}
	wantOrder(t, h, 1, 9, 2)
	wantNumbers(t, h, 0, 3, 5, 6, 7, 8, 0)
}

func TestWaitingOfTwoBrokers(t *testing.T) {
	one := begin(t, api.MaxRoom)
	other := begin(t, api.MaxRoom)
	for _, h := range []*Herald{one, other} {
		subscribeAll(t, h, 0, "a")
		publish(t, h, 0, "a", 1, 3, 0)
		publish(t, h, 1, "a", 1, 5, 0)
	}
	cancel(t, one, 0)
	move(t, one, 1, 9)
	wantWaiting(t, other, waits(0, "a", 1, 3, 0), waits(1, "a", 1, 5, 0))
	tick(t, other, 5)
	wantNumbers(t, other, 0, 0, 1)
	wantWaiting(t, one, waits(1, "a", 1, 9, 0))
	wantNumbers(t, one, 0)
}

func TestTopicsOfWhatWaitsAreCopied(t *testing.T) {
	h := begin(t, api.MaxRoom)
	given := "abc/def/ghi"
	publish(t, h, 0, given, 1, 1, 0)
	if unsafe.StringData(h.Waiting()[0].Topic) == unsafe.StringData(given) {
		t.Error("Publish keeps the text that it was given")
	}
}
