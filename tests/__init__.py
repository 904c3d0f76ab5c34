"""The tests of oddskept."""
