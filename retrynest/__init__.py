"""Nested retry policies and their unique nesting."""
