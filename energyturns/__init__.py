"""Turns by energy: who acts next in a dungeon of fast and slow actors."""
