package machine

import "verdict/api"

// stateBytes is how many bytes a state takes: its Out, and its Next.
const stateBytes = 1 + api.Letters

// Bytes writes a well-formed machine as bytes.
func Bytes(states []State) string {
	bytes := []byte{byte(len(states))}
	for _, state := range states {
		bytes = append(bytes, byte(state.Out))
		for _, to := range state.Next {
			bytes = append(bytes, byte(to))
		}
	}
	return string(bytes)
}

// FromBytes reads a machine, and tells whether the bytes are a well-formed one and nothing more.
func FromBytes(s string) ([]State, bool) {
	if len(s) == 0 {
		return nil, false
	}
	count := int(s[0])
	if len(s) != 1+count*stateBytes {
		return nil, false
	}
	var states []State
	for at := 1; at+stateBytes <= len(s); at += stateBytes {
		state := State{Out: int(s[at])}
		for letter := range state.Next {
			state.Next[letter] = int(s[at+1+letter])
		}
		states = append(states, state)
	}
	if !wellFormed(states) {
		return nil, false
	}
	return states, true
}
