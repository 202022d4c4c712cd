"""Roomways: hands on their ways through several rooms, and when they come to hold one another up."""
