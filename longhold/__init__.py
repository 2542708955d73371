"""Longhold: fields that come to be owned by long holding, and ways by long use."""
