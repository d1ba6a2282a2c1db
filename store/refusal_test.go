package store

import (
	"errors"
	"testing"

	"isthmus/api"
)

// What a layer below refused is kept within, but it is the store's number that is told.
func TestWhatIsWrapped(t *testing.T) {
	err := wrapped(api.ErrMsfPath, api.ErrStorePath)
	var below lower
	if !errors.As(err, &below) || api.Errno(below) != api.ErrMsfPath {
		t.Errorf("within %v: %d, want %d", err, below, api.ErrMsfPath)
	}
	for _, outer := range []error{err, errors.Join(err)} {
		if e := told(outer); e != api.ErrStorePath {
			t.Errorf("told: %d, want %d", e, api.ErrStorePath)
		}
	}
	if e := told(refused(api.ErrStoreLoop)); e != api.ErrStoreLoop {
		t.Errorf("told: %d, want %d", e, api.ErrStoreLoop)
	}
	if err := wrapped(api.OK, api.ErrStorePath); err != nil || told(nil) != api.OK {
		t.Errorf("of nothing refused: %v", err)
	}
	if text := err.Error() + "; " + below.Error(); text != "the store refused: 105; a layer below refused: 75" {
		t.Error(text)
	}
}
