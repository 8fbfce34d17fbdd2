package herald

// A client's filters are kept as they are shown: each less than the next.

func hasFilter(list []string, filter string) bool {
	for i := 0; i < len(list); i++ {
		if list[i] == filter {
			return true
		}
	}
	return false
}

// withFilter is a fresh list with one filter more, in its place.
func withFilter(list []string, filter string) []string {
	var longer []string
	placed := false
	for i := 0; i < len(list); i++ {
		if !placed && filter < list[i] {
			longer = append(longer, filter)
			placed = true
		}
		longer = append(longer, list[i])
	}
	if !placed {
		longer = append(longer, filter)
	}
	return longer
}

// withoutFilter is a fresh list of the filters but this one.
func withoutFilter(list []string, filter string) []string {
	var shorter []string
	for i := 0; i < len(list); i++ {
		if list[i] != filter {
			shorter = append(shorter, list[i])
		}
	}
	return shorter
}

func copyFilters(list []string) []string {
	var fresh []string
	for i := 0; i < len(list); i++ {
		fresh = append(fresh, list[i])
	}
	return fresh
}

// copyText makes a text of its own room: a filter or a topic may be cut out of a far greater text,
// and that would be kept along with it.
func copyText(text string) string {
	return string([]byte(text))
}
