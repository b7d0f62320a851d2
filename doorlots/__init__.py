"""Doorlots: houses of coloured doors that are several houses at once."""
