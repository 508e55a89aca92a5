"""Letters handed over by couriers on rounds that change."""
