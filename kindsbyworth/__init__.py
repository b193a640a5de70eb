"""Kindsbyworth: a small tongue where kinds hang on worths."""
