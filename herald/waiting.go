package herald

import "herald/api"

// What waits is kept as it is shown: in the order in which it would be sent.

// deadlineOf is when a delay that begins at this time is at its end.
func deadlineOf(time int, delay int) int {
	deadline := time + delay
	if deadline > api.MaxTime {
		return api.MaxTime
	}
	return deadline
}

// isAhead tells whether one message would be sent ahead of another.
func isAhead(one api.Waiting, other api.Waiting) bool {
	if one.Deadline != other.Deadline {
		return one.Deadline < other.Deadline
	}
	return one.Number < other.Number
}

// findWaiting is the message of this Number, if it waits.
func findWaiting(list []api.Waiting, number int) (api.Waiting, bool) {
	for i := 0; i < len(list); i++ {
		if list[i].Number == number {
			return list[i], true
		}
	}
	return api.Waiting{}, false
}

// withWaiting is a fresh list with one message more, in its place.
func withWaiting(list []api.Waiting, more api.Waiting) []api.Waiting {
	var longer []api.Waiting
	placed := false
	for i := 0; i < len(list); i++ {
		if !placed && isAhead(more, list[i]) {
			longer = append(longer, more)
			placed = true
		}
		longer = append(longer, list[i])
	}
	if !placed {
		longer = append(longer, more)
	}
	return longer
}

// withoutWaiting is a fresh list of the messages but this one.
func withoutWaiting(list []api.Waiting, number int) []api.Waiting {
	var shorter []api.Waiting
	for i := 0; i < len(list); i++ {
		if list[i].Number != number {
			shorter = append(shorter, list[i])
		}
	}
	return shorter
}

func copyWaiting(list []api.Waiting) []api.Waiting {
	var fresh []api.Waiting
	for i := 0; i < len(list); i++ {
		fresh = append(fresh, list[i])
	}
	return fresh
}

// sendDue sends each message whose deadline has come; the others go on waiting.
func (h *Herald) sendDue() {
	var later []api.Waiting
	for i := 0; i < len(h.waiting); i++ {
		w := h.waiting[i]
		if w.Deadline > h.time {
			later = append(later, w)
		} else {
			h.send(message{number: w.Number, topic: w.Topic, value: w.Value, life: w.Life, at: h.time})
		}
	}
	h.waiting = later
}
