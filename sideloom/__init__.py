"""Sideloom: tables of many sides, shapes told ahead, loops laid together."""
