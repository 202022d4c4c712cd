"""The tests of roomways."""
