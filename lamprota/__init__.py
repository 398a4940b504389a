"""Lamprota: a lighthouse's rota of lamps and oil."""
