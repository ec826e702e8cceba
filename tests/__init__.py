"""The tests of oldclients; `python3 -m unittest discover -s tests -t .` runs them."""
