package topics

import (
	"regexp"
	"strings"
	"testing"
)

// The words of the document once more, as patterns: what the package answers is held against them.
var (
	topicPattern  = regexp.MustCompile(`\A[a-z]{1,3}(/[a-z]{1,3}){0,3}\z`)
	filterPattern = regexp.MustCompile(`\A(([a-z]{1,3}|\+)/){0,3}([a-z]{1,3}|\+|#)\z`)
)

// texts lists all texts of at most so many of these letters, the empty one among them.
func texts(letters string, length int) []string {
	all := []string{""}
	last := all
	for i := 0; i < length; i++ {
		var next []string
		for _, s := range last {
			for j := range len(letters) {
				next = append(next, s+letters[j:j+1])
			}
		}
		all = append(all, next...)
		last = next
	}
	return all
}

// paths lists all texts of one to so many of these words.
func paths(words []string, levels int) []string {
	all := append([]string(nil), words...)
	last := words
	for i := 1; i < levels; i++ {
		var next []string
		for _, s := range last {
			for _, w := range words {
				next = append(next, s+"/"+w)
			}
		}
		all = append(all, next...)
		last = next
	}
	return all
}

func checkForm(t *testing.T, s string) {
	t.Helper()
	if got, want := IsTopic(s), topicPattern.MatchString(s); got != want {
		t.Errorf("P3: IsTopic(%q) = %v, want %v", s, got, want)
	}
	if got, want := IsFilter(s), filterPattern.MatchString(s); got != want {
		t.Errorf("P3: IsFilter(%q) = %v, want %v", s, got, want)
	}
}

func TestFormOfShortTexts(t *testing.T) {
	for _, s := range texts("az/+#A", 6) {
		checkForm(t, s)
	}
}

func TestFormOfPaths(t *testing.T) {
	for _, s := range paths([]string{"", "a", "ab", "abc", "abcd", "+", "#"}, 5) {
		checkForm(t, s)
	}
}

func TestFormOfEveryByte(t *testing.T) {
	for b := 0; b < 256; b++ {
		c := string([]byte{byte(b)})
		for _, s := range []string{c, "a" + c, c + "a", "a" + c + "a", "a/" + c, c + "/a", "a/b/c/" + c} {
			checkForm(t, s)
		}
	}
}

func TestFormAtTheEdges(t *testing.T) {
	for _, c := range []struct {
		text            string
		isTopic, filter bool
	}{
		{"a", true, true},
		{"z", true, true},
		{"abc", true, true},
		{"abcd", false, false},
		{"a/b/c/d", true, true},
		{"a/b/c/d/e", false, false},
		{"abc/def/ghi/xyz", true, true},
		{"abc/def/ghi/wxyz", false, false},
		{"+", false, true},
		{"#", false, true},
		{"a/b/c/#", false, true},
		{"+/+/+/#", false, true},
		{"+/+/+/+", false, true},
		{"+/+/+/+/#", false, false},
		{"#/#", false, false},
		{"#/a", false, false},
		{"a/#/b", false, false},
		{"a/#/", false, false},
		{"a+", false, false},
		{"#a", false, false},
		{"", false, false},
		{"/", false, false},
		{"/a", false, false},
		{"a/", false, false},
		{"a//b", false, false},
		{"A", false, false},
		{"é", false, false},
		{"a\x00", false, false},
		{"a\n", false, false},
		{strings.Repeat("a/", 1<<20), false, false},
	} {
		if got := IsTopic(c.text); got != c.isTopic {
			t.Errorf("P3: IsTopic(%.40q) = %v, want %v", c.text, got, c.isTopic)
		}
		if got := IsFilter(c.text); got != c.filter {
			t.Errorf("P3: IsFilter(%.40q) = %v, want %v", c.text, got, c.filter)
		}
	}
}

// asPattern writes a filter as a pattern of the topics that it fits.
func asPattern(filter string) *regexp.Regexp {
	p := strings.ReplaceAll(filter, "+", "[a-z]+")
	if p == "#" {
		p = ".*"
	} else if head, isAll := strings.CutSuffix(p, "/#"); isAll {
		p = head + "(/.*)?"
	}
	return regexp.MustCompile(`\A(` + p + `)\z`)
}

func TestFitsOfAllShortPairs(t *testing.T) {
	topics := paths([]string{"a", "b", "ab", "abc"}, 4)
	for _, f := range paths([]string{"a", "b", "ab", "+", "#"}, 4) {
		if !filterPattern.MatchString(f) {
			continue
		}
		p := asPattern(f)
		for _, s := range topics {
			if got, want := Fits(f, s), p.MatchString(s); got != want {
				t.Errorf("P3: Fits(%q, %q) = %v, want %v", f, s, got, want)
			}
		}
	}
}

// Fits may be asked of any texts, and ends: only its answer means nothing then.
func TestFitsOfOtherTexts(t *testing.T) {
	all := append(texts("a/+#", 4), strings.Repeat("/", 1000))
	for _, f := range all {
		for _, s := range all {
			Fits(f, s)
		}
	}
}
