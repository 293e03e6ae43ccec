"""Saywell: messages in many tongues."""
