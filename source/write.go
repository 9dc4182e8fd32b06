package source

import (
	"strconv"
	"strings"

	"escapement/api"
)

// write takes a plan that may be.
func write(p api.Plan) string {
	text := new(strings.Builder)
	writeLine(text, "plan", p.Name, "deadline", strconv.Itoa(p.Deadline))
	for _, n := range p.Nodes {
		writeLine(text, nodeWords(n)...)
		writeEdges(text, "  needs", n.Needs, p.Nodes)
		writeEdges(text, "  after", n.After, p.Nodes)
	}
	return text.String()
}

func writeLine(text *strings.Builder, words ...string) {
	text.WriteString(strings.Join(words, " "))
	text.WriteByte('\n')
}

// nodeWords leaves out what reads the same when it is not there.
func nodeWords(n api.Node) []string {
	words := []string{"node", n.Name, "lane", strconv.Itoa(n.Lane), "budget", strconv.Itoa(n.Budget), "close", strconv.Itoa(n.Close)}
	if n.Beat != 0 {
		words = append(words, "beat", strconv.Itoa(n.Beat))
	}
	if n.Base != 1 || n.Cap != 1 {
		words = append(words, "backoff", strconv.Itoa(n.Base), "to", strconv.Itoa(n.Cap))
	}
	if n.Jitter != 0 {
		words = append(words, "jitter", strconv.Itoa(n.Jitter))
	}
	return words
}

func writeEdges(text *strings.Builder, first string, edges []int, nodes []api.Node) {
	if len(edges) == 0 {
		return
	}
	words := []string{first}
	for _, node := range edges {
		words = append(words, nodes[node].Name)
	}
	writeLine(text, words...)
}
