"""tubewords: walks in webs of turning rooms."""
