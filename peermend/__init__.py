"""Peermend: tables of records that name each other, repaired without a log."""
