"""downpass: passes of satellites planned, and none better."""
