"""Thankways: who goes leaves to whom they thank."""
