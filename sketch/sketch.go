// Package sketch keeps short notes of long streams: see DOC.md.
package sketch

import (
	"sketch/api"
	"sketch/engine"
)

// Run answers a script, step by step.
func Run(script []api.Op) []api.Answer {
	var whole engine.Engine
	answers := make([]api.Answer, 0, len(script))
	for _, op := range script {
		answers = append(answers, whole.Step(op))
	}
	return answers
}
