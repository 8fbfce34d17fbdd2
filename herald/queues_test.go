package herald

import (
	"slices"
	"testing"
	"unsafe"

	"herald/api"
)

func mail(number int, topic string, value, at, left int) api.Message {
	return api.Message{Number: number, Topic: topic, Value: value, At: at, Left: left}
}

func wantQueue(t *testing.T, h *Herald, client int, want ...api.Message) {
	t.Helper()
	if got := h.Queue(client); !slices.Equal(got, want) {
		t.Errorf("P9: at %d Queue(%d) = %v, want %v", h.Time(), client, got, want)
	}
}

// wantNumbers looks at the Numbers of a queue alone.
func wantNumbers(t *testing.T, h *Herald, client int, want ...int) {
	t.Helper()
	var got []int
	for _, m := range h.Queue(client) {
		got = append(got, m.Number)
	}
	if !slices.Equal(got, want) {
		t.Errorf("P9: at %d Queue(%d) has the Numbers %v, want %v", h.Time(), client, got, want)
	}
}

func wantLost(t *testing.T, h *Herald, want ...int) {
	t.Helper()
	for client, n := range want {
		if got := h.Lost(client); got != n {
			t.Errorf("P9: Lost(%d) = %d, want %d", client, got, n)
		}
	}
}

func wantTime(t *testing.T, h *Herald, want int) {
	t.Helper()
	if got := h.Time(); got != want {
		t.Errorf("P9: Time() = %d, want %d", got, want)
	}
}

func publish(t *testing.T, h *Herald, want int, topic string, value, delay, life int) {
	t.Helper()
	if n, e := h.Publish(topic, value, delay, life); n != want || e != api.OK {
		t.Errorf("P5: Publish(%q, %d, %d, %d) = %d, %d, want %d, OK", topic, value, delay, life, n, e, want)
	}
}

func publishWrong(t *testing.T, h *Herald, want api.Errno, topic string, value, delay, life int) {
	t.Helper()
	if n, e := h.Publish(topic, value, delay, life); n != 0 || e != want {
		t.Errorf("P5: Publish(%.40q, %d, %d, %d) = %d, %d, want 0, %d", topic, value, delay, life, n, e, want)
	}
}

func tick(t *testing.T, h *Herald, to int) {
	t.Helper()
	if e := h.Tick(to); e != api.OK {
		t.Errorf("P7: at %d Tick(%d) = %d, want OK", h.Time(), to, e)
	}
}

func ack(t *testing.T, h *Herald, client, number int) {
	t.Helper()
	if e := h.Ack(client, number); e != api.OK {
		t.Errorf("P8: Ack(%d, %d) = %d, want OK", client, number, e)
	}
}

func TestANewBrokerHasNothing(t *testing.T) {
	h := begin(t, 0)
	wantTime(t, h, 0)
	wantLost(t, h, 0, 0, 0, 0, 0, 0, 0, 0)
	for client := 0; client < api.MaxClients; client++ {
		wantQueue(t, h, client)
		for _, number := range []int{least, -1, 0, 1, greatest} {
			want(t, "P8: Ack at an empty queue", h.Ack(client, number), api.ErrNone)
		}
	}
}

func TestSendToThoseWhoseFilterFits(t *testing.T) {
	h := begin(t, api.MaxRoom)
	for client, f := range []string{"#", "a", "a/#", "a/+", "+", "b", "+/b"} {
		subscribeAll(t, h, client, f)
	}
	publish(t, h, 0, "a", 1, 0, 0)
	publish(t, h, 1, "a/b", 2, 0, 0)
	publish(t, h, 2, "a/b/c", 3, 0, 0)
	publish(t, h, 3, "b", 4, 0, 0)
	wantNumbers(t, h, 0, 0, 1, 2, 3)
	wantNumbers(t, h, 1, 0)
	wantNumbers(t, h, 2, 0, 1, 2)
	wantNumbers(t, h, 3, 1)
	wantNumbers(t, h, 4, 0, 3)
	wantNumbers(t, h, 5, 3)
	wantNumbers(t, h, 6, 1)
	wantNumbers(t, h, 7)
	wantQueue(t, h, 3, mail(1, "a/b", 2, 0, 0))
}

func TestTwoFiltersThatFit(t *testing.T) {
	h := begin(t, api.MaxRoom)
	subscribeAll(t, h, 0, "#", "+", "a", "a/#", "b", "c")
	publish(t, h, 0, "a", 5, 0, 0)
	publish(t, h, 1, "c", 6, 0, 0)
	publish(t, h, 2, "a/b", 7, 0, 0)
	wantQueue(t, h, 0, mail(0, "a", 5, 0, 0), mail(1, "c", 6, 0, 0), mail(2, "a/b", 7, 0, 0))
	// Once lost, too.
	for i := 3; i < 12; i++ {
		publish(t, h, i, "a", i, 0, 0)
	}
	wantNumbers(t, h, 0, 0, 1, 2, 3, 4, 5, 6, 7, 8, 9)
	wantLost(t, h, 2)
}

func TestTheEdgesOfAMessage(t *testing.T) {
	h := begin(t, api.MaxRoom)
	subscribeAll(t, h, 7, "#")
	publish(t, h, 0, "a", 0, 0, 0)
	publish(t, h, 1, "abc/def/ghi/jkl", api.MaxValue, 0, 1)
	tick(t, h, 0)
	publish(t, h, 2, "zzz", 1, 0, api.MaxTime)
	publish(t, h, 3, "b/c", api.MaxValue-1, 0, api.MaxTime-1)
	wantQueue(t, h, 7, mail(0, "a", 0, 0, 0), mail(1, "abc/def/ghi/jkl", 1<<30, 0, 1),
		mail(2, "zzz", 1, 0, 1<<40), mail(3, "b/c", 1<<30-1, 0, 1<<40-1))
	tick(t, h, api.MaxTime-1)
	wantQueue(t, h, 7, mail(0, "a", 0, 0, 0), mail(2, "zzz", 1, 0, 1))
	publish(t, h, 4, "x", 1, 0, 1)
	publish(t, h, 5, "y", 1, 0, 2)
	publish(t, h, 6, "z", 1, 0, api.MaxTime)
	tick(t, h, api.MaxTime)
	// At this time nothing is over any more, for it is the last.
	publish(t, h, 7, "w", 1, 0, 1)
	publish(t, h, 8, "v", 1, 0, api.MaxTime)
	wantQueue(t, h, 7, mail(0, "a", 0, 0, 0), mail(5, "y", 1, 1<<40-1, 1), mail(6, "z", 1, 1<<40-1, 1<<40-1),
		mail(7, "w", 1, 1<<40, 1), mail(8, "v", 1, 1<<40, 1<<40))
	tick(t, h, api.MaxTime)
	wantNumbers(t, h, 7, 0, 5, 6, 7, 8)
}

func TestPublishOfWrongThings(t *testing.T) {
	h := begin(t, api.MaxRoom)
	subscribeAll(t, h, 0, "#")
	for _, s := range append([]string{"+", "#", "a/+", "a/#"}, neither...) {
		publishWrong(t, h, api.ErrTopic, s, 1, 0, 0)
		publishWrong(t, h, api.ErrTopic, s, -1, -1, -1)
		publishWrong(t, h, api.ErrTopic, s, greatest, greatest, greatest)
	}
	for _, n := range []int{least, -1 << 40, -1, api.MaxValue + 1, 1 << 32, api.MaxTime, 1 << 62, greatest} {
		publishWrong(t, h, api.ErrArg, "a", n, 0, 0)
	}
	for _, n := range []int{least, -1 << 40, -1, api.MaxTime + 1, 1 << 41, 1 << 62, greatest} {
		publishWrong(t, h, api.ErrArg, "a", 1, n, 0)
		publishWrong(t, h, api.ErrArg, "a", 1, 0, n)
		publishWrong(t, h, api.ErrArg, "a", n, n, n)
	}
	wantQueue(t, h, 0)
	wantLost(t, h, 0)
	// None of them has taken a Number.
	publish(t, h, 0, "a", 1, 0, 0)
	wantQueue(t, h, 0, mail(0, "a", 1, 0, 0))
}

func TestADelayIsNotSentAtOnce(t *testing.T) {
	h := begin(t, api.MaxRoom)
	subscribeAll(t, h, 0, "#")
	publish(t, h, 0, "a", 1, 1, 0)
	publish(t, h, 1, "a", 1, api.MaxTime, 0)
	wantQueue(t, h, 0)
	publish(t, h, 2, "a", 1, 0, 0)
	wantNumbers(t, h, 0, 2)
}

// A Number is how many were published ahead, whatever has become of them.
func TestNumbers(t *testing.T) {
	h := begin(t, api.MaxRoom)
	publish(t, h, 0, "a", 1, 0, 0) // nobody has it
	subscribeAll(t, h, 0, "a")
	wantQueue(t, h, 0)
	publish(t, h, 1, "a", 1, 0, 1)
	tick(t, h, 1) // it is over
	publish(t, h, 2, "a", 1, 0, 0)
	ack(t, h, 0, 2)
	for i := 3; i < 14; i++ {
		publish(t, h, i, "a", 1, 0, 0)
	}
	wantLost(t, h, 1)
	publishWrong(t, h, api.ErrArg, "a", -1, 0, 0)
	publish(t, h, 14, "b", 1, 0, 0)
	wantNumbers(t, h, 0, 3, 4, 5, 6, 7, 8, 9, 10, 11, 12)
}

func TestFiltersAndWhatStandsInTheQueue(t *testing.T) {
	h := begin(t, api.MaxRoom)
	subscribeAll(t, h, 0, "a")
	publish(t, h, 0, "a", 1, 0, 0)
	want(t, "P4: Unsubscribe", h.Unsubscribe(0, "a"), api.OK)
	wantNumbers(t, h, 0, 0)
	publish(t, h, 1, "a", 1, 0, 0)
	wantNumbers(t, h, 0, 0)
	subscribeAll(t, h, 0, "a")
	publish(t, h, 2, "a", 1, 0, 0)
	wantNumbers(t, h, 0, 0, 2)
}

func TestTenAndElevenMessages(t *testing.T) {
	h := begin(t, api.MaxRoom)
	subscribeAll(t, h, 0, "a", "b")
	subscribeAll(t, h, 1, "a")
	for i := 0; i < 10; i++ {
		publish(t, h, i, "a", i, 0, 0)
	}
	wantLost(t, h, 0, 0)
	publish(t, h, 10, "b", 10, 0, 0)
	wantLost(t, h, 1, 0)
	publish(t, h, 11, "a", 11, 0, 0)
	publish(t, h, 12, "c", 12, 0, 0)
	wantLost(t, h, 2, 1, 0, 0, 0, 0, 0, 0)
	wantNumbers(t, h, 0, 0, 1, 2, 3, 4, 5, 6, 7, 8, 9)
	wantNumbers(t, h, 1, 0, 1, 2, 3, 4, 5, 6, 7, 8, 9)
	// What leaves makes room for what comes then, not for what was lost.
	ack(t, h, 0, 5)
	wantNumbers(t, h, 0, 0, 1, 2, 3, 4, 6, 7, 8, 9)
	publish(t, h, 13, "a", 13, 0, 0)
	wantLost(t, h, 2, 2)
	wantNumbers(t, h, 0, 0, 1, 2, 3, 4, 6, 7, 8, 9, 13)
	wantNumbers(t, h, 1, 0, 1, 2, 3, 4, 5, 6, 7, 8, 9)
}

func TestWhatIsOverMakesRoom(t *testing.T) {
	h := begin(t, api.MaxRoom)
	subscribeAll(t, h, 0, "a")
	for i := 0; i < 10; i++ {
		publish(t, h, i, "a", i, 0, 2*(i%2)) // the odd ones are over at 2
	}
	tick(t, h, 1)
	publish(t, h, 10, "a", 10, 0, 1)
	wantLost(t, h, 1)
	tick(t, h, 2)
	wantNumbers(t, h, 0, 0, 2, 4, 6, 8)
	for i := 11; i < 16; i++ {
		publish(t, h, i, "a", i, 0, 0)
	}
	wantLost(t, h, 1)
	publish(t, h, 16, "a", 16, 0, 0)
	wantLost(t, h, 2)
	wantNumbers(t, h, 0, 0, 2, 4, 6, 8, 11, 12, 13, 14, 15)
}

func TestLeftAndOver(t *testing.T) {
	h := begin(t, api.MaxRoom)
	subscribeAll(t, h, 0, "#")
	subscribeAll(t, h, 4, "b")
	tick(t, h, 100)
	publish(t, h, 0, "a", 1, 0, 0)
	publish(t, h, 1, "b", 2, 0, 5)
	publish(t, h, 2, "c", 3, 0, 3)
	for now := 101; now < 110; now++ {
		tick(t, h, now)
		list := []api.Message{mail(0, "a", 1, 100, 0)}
		if now < 105 {
			list = append(list, mail(1, "b", 2, 100, 105-now))
			wantQueue(t, h, 4, mail(1, "b", 2, 100, 105-now))
		} else {
			wantQueue(t, h, 4)
			want(t, "P8: Ack of what is over", h.Ack(4, 1), api.ErrNone)
		}
		if now < 103 {
			list = append(list, mail(2, "c", 3, 100, 103-now))
		}
		wantQueue(t, h, 0, list...)
	}
	wantLost(t, h, 0, 0, 0, 0, 0)
}

// The time may go over the end of a Life without coming to it.
func TestOverLongSince(t *testing.T) {
	h := begin(t, api.MaxRoom)
	subscribeAll(t, h, 0, "#")
	tick(t, h, 7)
	for i, life := range []int{1, 10, 0, 11, 12, 1 << 40} {
		publish(t, h, i, "a", i, 0, life)
	}
	tick(t, h, 18)
	wantQueue(t, h, 0, mail(2, "a", 2, 7, 0), mail(4, "a", 4, 7, 1), mail(5, "a", 5, 7, 1<<40-11))
	tick(t, h, 1<<40)
	wantQueue(t, h, 0, mail(2, "a", 2, 7, 0), mail(5, "a", 5, 7, 7))
}

func TestTick(t *testing.T) {
	h := begin(t, api.MaxRoom)
	subscribeAll(t, h, 0, "a")
	publish(t, h, 0, "a", 1, 0, 3)
	for _, c := range []struct{ to, time int }{
		{0, 0}, {1, 1}, {1, 1}, {0, 1}, {2, 2}, {1, 2}, {2, 2},
	} {
		tick(t, h, c.to)
		wantTime(t, h, c.time)
		wantQueue(t, h, 0, mail(0, "a", 1, 0, 3-c.time))
	}
	for _, to := range []int{least, -1 << 40, -1, api.MaxTime + 1, 1 << 41, 1 << 62, greatest} {
		want(t, "P7: Tick to no instant", h.Tick(to), api.ErrArg)
		wantTime(t, h, 2)
		wantQueue(t, h, 0, mail(0, "a", 1, 0, 1))
	}
	tick(t, h, api.MaxTime)
	wantTime(t, h, 1<<40)
	wantQueue(t, h, 0)
	for _, to := range []int{api.MaxTime, api.MaxTime - 1, 0} {
		tick(t, h, to)
		wantTime(t, h, 1<<40)
	}
	want(t, "P7: Tick to no instant, at the last", h.Tick(api.MaxTime+1), api.ErrArg)
}

func TestAckOfEach(t *testing.T) {
	for gone := 0; gone < 10; gone++ {
		h := begin(t, api.MaxRoom)
		subscribeAll(t, h, 0, "a")
		subscribeAll(t, h, 1, "a")
		publish(t, h, 0, "b", 0, 0, 0)
		var all, stay []int
		for i := 1; i <= 10; i++ {
			publish(t, h, i, "a", i, 0, 0)
			all = append(all, i)
			if i != gone+1 {
				stay = append(stay, i)
			}
		}
		ack(t, h, 0, gone+1)
		wantNumbers(t, h, 0, stay...)
		wantNumbers(t, h, 1, all...)
		want(t, "P8: Ack once more", h.Ack(0, gone+1), api.ErrNone)
		wantNumbers(t, h, 0, stay...)
		ack(t, h, 1, gone+1)
		wantNumbers(t, h, 1, stay...)
		for _, i := range stay {
			ack(t, h, 0, i)
		}
		wantQueue(t, h, 0)
		wantLost(t, h, 0, 0)
	}
}

func TestAckOfWrongThings(t *testing.T) {
	h := begin(t, api.MaxRoom)
	subscribeAll(t, h, 0, "a")
	subscribeAll(t, h, 1, "b")
	publish(t, h, 0, "b", 1, 0, 0)
	publish(t, h, 1, "a", 1, 0, 0)
	for _, client := range []int{least, -8, -1, api.MaxClients, 9, 1 << 32, greatest} {
		for _, number := range []int{least, -1, 0, 1, 2, greatest} {
			want(t, "P8: Ack of no client", h.Ack(client, number), api.ErrClient)
		}
		if l := h.Queue(client); l != nil {
			t.Errorf("P9: Queue(%d) = %v, want nil", client, l)
		}
		if n := h.Lost(client); n != 0 {
			t.Errorf("P9: Lost(%d) = %d, want 0", client, n)
		}
	}
	for _, number := range []int{least, -1, 0, 2, 1 << 32, 1<<32 + 1, greatest} {
		want(t, "P8: Ack of what is not there", h.Ack(0, number), api.ErrNone)
	}
	want(t, "P8: Ack of another's", h.Ack(1, 1), api.ErrNone)
	wantNumbers(t, h, 0, 1)
	wantNumbers(t, h, 1, 0)
}

func TestWithoutRoom(t *testing.T) {
	h := begin(t, 0)
	publishWrong(t, h, api.ErrFull, "a", 1, 0, 0)
	publishWrong(t, h, api.ErrFull, "a", 1, 1, 1)
	publishWrong(t, h, api.ErrArg, "a", -1, 0, 0)
	publishWrong(t, h, api.ErrTopic, "", -1, 0, 0)
	tick(t, h, 0)
	want(t, "P7: Tick without room", h.Tick(1), api.ErrFull)
	want(t, "P7: Tick to no instant, without room", h.Tick(-1), api.ErrArg)
	want(t, "P8: Ack without room", h.Ack(0, 0), api.ErrNone)
	want(t, "P8: Ack of no client, without room", h.Ack(8, 0), api.ErrClient)
	wantTime(t, h, 0)
}

func TestWithRoomUsedUp(t *testing.T) {
	h := begin(t, 14)
	subscribeAll(t, h, 0, "a")
	tick(t, h, 5)
	for i := 0; i < 11; i++ {
		publish(t, h, i, "a", i, 0, 2)
	}
	ack(t, h, 0, 4)
	left := h.Queue(0)
	for i := 0; i < 2; i++ {
		publishWrong(t, h, api.ErrFull, "a", 1, 0, 0)
		publishWrong(t, h, api.ErrArg, "a", 1, 0, -1)
		publishWrong(t, h, api.ErrTopic, "A", 1, 0, 0)
		tick(t, h, 5)
		tick(t, h, 0)
		want(t, "P7: Tick, full", h.Tick(6), api.ErrFull)
		want(t, "P7: Tick over a Life, full", h.Tick(api.MaxTime), api.ErrFull)
		want(t, "P7: Tick to no instant, full", h.Tick(api.MaxTime+1), api.ErrArg)
		want(t, "P8: Ack, full", h.Ack(0, 0), api.ErrFull)
		want(t, "P8: Ack of what is not there, full", h.Ack(0, 4), api.ErrNone)
		want(t, "P8: Ack of no client, full", h.Ack(-1, 0), api.ErrClient)
		wantTime(t, h, 5)
		wantQueue(t, h, 0, left...)
		wantLost(t, h, 1)
	}
}

// Each operation that is done takes one record of the room, but for a Tick that changes nothing; and no other takes one.
func TestRecordsOfEachOperation(t *testing.T) {
	for _, room := range []int{3, 4, 5, 6, 300, api.MaxRoom - 1, api.MaxRoom} {
		h := begin(t, room)
		subscribeAll(t, h, 0, "a")
		number := 0
		for i := 1; i < room; i++ {
			tick(t, h, h.Time())
			tick(t, h, 0)
			want(t, "P7: no instant", h.Tick(-1), api.ErrArg)
			publishWrong(t, h, api.ErrArg, "a", -1, 0, 0)
			publishWrong(t, h, api.ErrTopic, "", 1, 0, 0)
			want(t, "P8: none", h.Ack(0, number), api.ErrNone)
			want(t, "P8: no client", h.Ack(8, number), api.ErrClient)
			switch i % 3 {
			case 0:
				tick(t, h, h.Time()+1)
			case 1:
				publish(t, h, number, "a", 1, 0, 0)
				number++
			case 2:
				ack(t, h, 0, number-1)
			}
		}
		publishWrong(t, h, api.ErrFull, "a", 1, 0, 0)
		want(t, "P7: Tick, full", h.Tick(h.Time()+1), api.ErrFull)
		want(t, "P4: Subscribe, full", h.Subscribe(0, "b"), api.ErrFull)
		tick(t, h, h.Time())
	}
}

func TestQueuesAreFresh(t *testing.T) {
	h := begin(t, api.MaxRoom)
	subscribeAll(t, h, 0, "a")
	subscribeAll(t, h, 1, "a")
	for i := 0; i < 5; i++ {
		publish(t, h, i, "a", i, 0, i)
	}
	kept := h.Queue(0)
	clean := slices.Clone(kept)
	spoiled := h.Queue(0)
	spoiled = spoiled[:cap(spoiled)]
	for i := range spoiled {
		spoiled[i] = mail(99, "x", 9, 9, 9)
	}
	wantQueue(t, h, 0, clean...)
	wantQueue(t, h, 1, clean...)
	for i := 5; i < 9; i++ {
		publish(t, h, i, "a", i, 0, 0)
	}
	ack(t, h, 0, 0)
	tick(t, h, 2)
	if !slices.Equal(kept, clean) {
		t.Errorf("P2: a list that came out is now %v, want %v", kept, clean)
	}
	for i := range spoiled {
		if spoiled[i] != mail(99, "x", 9, 9, 9) {
			t.Errorf("P2: the room of a list that came out has now %v", spoiled[i])
		}
	}
	wantNumbers(t, h, 0, 3, 4, 5, 6, 7, 8)
	wantNumbers(t, h, 1, 0, 3, 4, 5, 6, 7, 8)
}

func TestTimesAndQueuesOfTwoBrokers(t *testing.T) {
	one := begin(t, api.MaxRoom)
	other := begin(t, api.MaxRoom)
	for _, h := range []*Herald{one, other} {
		subscribeAll(t, h, 0, "a")
		publish(t, h, 0, "a", 1, 0, 3)
	}
	tick(t, one, 5)
	for i := 1; i < 13; i++ {
		publish(t, one, i, "a", 1, 0, 0)
	}
	wantTime(t, other, 0)
	wantLost(t, one, 2)
	wantLost(t, other, 0)
	wantQueue(t, other, 0, mail(0, "a", 1, 0, 3))
	publish(t, other, 1, "a", 1, 0, 0)
	wantNumbers(t, other, 0, 0, 1)
}

// A text that was handed in is not kept: it may be a piece of a far greater one.
func TestTextsAreCopied(t *testing.T) {
	h := begin(t, api.MaxRoom)
	given := "abc/def/ghi"
	subscribeAll(t, h, 0, given)
	publish(t, h, 0, given, 1, 0, 0)
	if unsafe.StringData(h.Filters(0)[0]) == unsafe.StringData(given) {
		t.Error("Subscribe keeps the text that it was given")
	}
	if unsafe.StringData(h.Queue(0)[0].Topic) == unsafe.StringData(given) {
		t.Error("Publish keeps the text that it was given")
	}
}
