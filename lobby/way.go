package lobby

import (
	"slices"

	"rialto/api"
	"rialto/fresh"
)

// Send puts messages behind those under way; what there is no room for is lost.
func (l *Lobby) Send(messages ...api.Message) {
	free := maxUnderWay - len(l.way)
	l.way = append(l.way, messages[:min(free, len(messages))]...)
}

// Take takes a message out.
func (l *Lobby) Take(at int) (api.Message, api.Errno) {
	if !l.hasMessage(at) {
		return api.Message{}, api.ErrArg
	}
	m := l.way[at]
	l.way = slices.Delete(l.way, at, at+1)
	return m, api.OK
}

// Double puts one like a message behind the others.
func (l *Lobby) Double(at int) api.Errno {
	if !l.hasMessage(at) {
		return api.ErrArg
	}
	if len(l.way) == maxUnderWay {
		return api.ErrLong
	}
	l.way = append(l.way, l.way[at])
	return api.OK
}

// Empty tells whether nothing is under way, Way is what is, the oldest one first.
func (l *Lobby) Empty() bool { return len(l.way) == 0 }

func (l *Lobby) Way() []api.Message { return fresh.List(l.way, fresh.Message) }

func (l *Lobby) hasMessage(at int) bool { return at >= 0 && at < len(l.way) }
