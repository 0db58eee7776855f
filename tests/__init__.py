"""The tests; what several of them need lies in making.py."""
