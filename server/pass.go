package server

import (
	"slices"

	"tiltyard/api"
	"tiltyard/frame"
	"tiltyard/hall"
	"tiltyard/verb"
)

// serve takes a frame that came on a connection.
func (s *Server) serve(m mail, conn uint32, b []byte) {
	msg, e := verb.Decode(b)
	switch {
	case e != api.OK:
		s.cut(m, conn, b[0], e)
	case !s.links[conn].Ask():
		s.send(m, hall.Out{To: conn, Msg: wrong(api.KError, b[0], api.ErrRate)})
	default:
		s.send(m, s.Request(conn, msg)...)
	}
}

// hear takes a frame that came from a host.
func (s *Server) hear(m mail, instance uint32, b []byte) {
	msg, e := verb.Decode(b)
	if e != api.OK {
		s.refuse(m, instance, b[0], e)
		return
	}
	s.send(m, s.Report(instance, msg)...)
}

// cut tells a connection what is wrong with its bytes, and closes it.
func (s *Server) cut(m mail, conn uint32, kind byte, e api.Errno) {
	s.send(m, hall.Out{To: conn, Msg: wrong(api.KError, kind, e)})
	// If it is there no more by that, or by what came ahead, the hall says nothing of it any more.
	s.send(m, s.close(m, conn)...)
}

// refuse tells a host what is wrong with its bytes.
func (s *Server) refuse(m mail, instance uint32, kind byte, e api.Errno) {
	s.send(m, hall.Out{Host: true, To: instance, Msg: wrong(api.KRefused, kind, e)})
}

// wrong is a message of an error that a kind of message met.
func wrong(as int, kind byte, e api.Errno) verb.Msg {
	return verb.Make(as, uint64(kind), uint64(e))
}

// send sends outs, one after the other. What the hall says of connections that are closed by that goes behind them.
func (s *Server) send(m mail, outs ...hall.Out) {
	for len(outs) > 0 {
		o := outs[0]
		outs = append(outs[1:], s.pass(m, o)...)
	}
	s.follow(m)
}

// pass lets one out go. It is what the hall says if a connection is closed by that.
func (s *Server) pass(m mail, o hall.Out) []hall.Out {
	b, _ := verb.Encode(o.Msg) // without bytes, if it can't be: then it can't be wrapped either
	if o.Host {
		whole, _ := frame.Wrap(b)
		m.put(place{host: true, to: o.To}, whole)
		return nil
	}
	l, is := s.links[o.To]
	if !is {
		return nil
	}
	whole, e := l.Send(b)
	if e != api.OK {
		return s.close(m, o.To)
	}
	m.put(place{to: o.To}, whole)
	return nil
}

// close closes a connection, and is what the hall says of that.
func (s *Server) close(m mail, conn uint32) []hall.Out {
	delete(s.links, conn)
	m.at(place{to: conn}).Close = true
	return s.Close(conn)
}

// follow closes the connections that the hall has closed.
func (s *Server) follow(m mail) {
	conns := s.Conns()
	for conn := range s.links {
		if _, is := slices.BinarySearch(conns, conn); !is {
			// In whatever order: the hall has said already what there is to say of them.
			s.close(m, conn)
		}
	}
}
