"""Thesesothose: rules such as "whoever has these has those", led by answers."""
