/- Short tactics that come up often, as premises with a default. -/
namespace Go.Proofs.YtpnokfgplnmjpaaGreatDoor
theorem om {p:Prop} (h:p:=by omega):p:=h
theorem dc {p:Prop} (h:p:=by decide):p:=h
theorem sm {p:Prop} (h:p:=by simp<;>omega):p:=h
theorem ix {p:Prop} (h:p:=by exact fun _ _ _ h=>h):p:=h
theorem dk {p:Prop} (h:p:=by exact ⟨by decide +kernel,by decide +kernel⟩):p:=h
end Go.Proofs.YtpnokfgplnmjpaaGreatDoor
