"""Values that never change, run with counts of holders."""
