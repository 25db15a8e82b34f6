import PyProof.Rows.All
import Wide.All
import OpenK.AllK
import Wide.FinOn
import HandS.ForMost
import HandS.Deep
import HandS.Star
import HandS.Property
import HandS.Exc
import HandS.StrMore
import HandS.Text
import HandS.More
import HandS.Dict
import HandS.Rev
import HandS.IsInst
import HandS.ExcInit
import HandS.ExcOwn
import HandS.TryOnly
import HandS.Nested
import HandS.FStr
import HandS.FStrTup
import KE.KExcSuper
import HandS.DictComp
import HandS.SortInts
import HandS.Zip
import HandS.WordsExc
import HandS.ExcIs
import KE.KExcIs
import HandS.HotCalls
import HandS.TupAny
import PyProof.DictMoreH
import HandS.DictTup
import HandS.SetKeys
import KE.KeyNested
import KE.KDictKeyed
import PyProof.DictRoadsH
import HandS.SetFor
import KE.DataFind
import HandS.Defaults
import HandS.Iter
import KE.KDictWalk
import KE.KUnpackStar
import KE.GoesEnum
import HandS.TupLe
import PyProof.ReprHeads
import PyProof.ReprHeadsEmpty
import PyProof.ReprLen
import KE.RegKSuper
import PySem.Challenge.RW_lookvoice_k48_errors
set_option Elab.async false
set_option linter.all false
set_option maxRecDepth 100000
set_option maxHeartbeats 4000000
namespace Lk
open PySem L2

/-! ### heaps that grow -/
def Ex (H H' : Hp) : Prop := ∀ a o, H a = some o → H' a = some o
theorem Ex.refl (H : Hp) : Ex H H := fun _ _ h => h
theorem Ex.trans {H H1 H2 : Hp} (a : Ex H H1) (b : Ex H1 H2) : Ex H H2 := fun x o h => b x o (a x o h)
theorem Ex.new {H : Hp} {p : Addr} {o : HO} (h : H p = none) : Ex H (upd H p o) := fun a u e => by
  rw [upd_ne (ne_of_none e h)]
  exact e
theorem Ex.none {H H' : Hp} (e : Ex H H') {p : Addr} (h : H' p = none) : H p = none := by
  cases h1 : H p with
  | none => rfl
  | some o =>
    rw [e p o h1] at h
    cases h
theorem Ex.rd {H H' : Hp} {a : Addr} {u : HO} (e : Ex H H') (h : Rd H a u) : Rd H' a u := by
  rcases h with h | ⟨o, h⟩
  · exact Or.inl (e a _ h)
  · exact Or.inr ⟨o, e a _ h⟩
theorem Ex.sql {K : PySem.W.Frag} {H H' : Hp} {a : Addr} {xs : List V} (e : Ex H H') (h : SqL K H a xs) : SqL K H' a xs := by
  rcases h with h | h
  · exact Or.inl (e.rd h)
  · exact Or.inr h
theorem Ex.sqt {K : PySem.W.Frag} {H H' : Hp} {a : Addr} {xs : List V} (e : Ex H H') (h : SqT K H a xs) : SqT K H' a xs := by
  rcases h with h | h
  · exact Or.inl (e.rd h)
  · exact Or.inr h
/-- F, a part of H, has grown to F', H to H'; what was in H outside of F is outside of F' -/
structure Gr (F H F' H' : Hp) : Prop where
  f : Ex F F'
  h : Ex H H'
  i : Ex F' H'
  n : ∀ a o, H a = some o → F a = none → F' a = none
theorem Gr.refl {F H : Hp} (e : Ex F H) : Gr F H F H := ⟨Ex.refl F, Ex.refl H, e, fun _ _ _ h => h⟩
theorem Gr.trans {F H F1 H1 F2 H2 : Hp} (a : Gr F H F1 H1) (b : Gr F1 H1 F2 H2) : Gr F H F2 H2 :=
  ⟨a.f.trans b.f, a.h.trans b.h, b.i, fun x o h1 h2 => b.n x o (a.h x o h1) (a.n x o h1 h2)⟩
/-- a new object, in both -/
theorem Gr.new {F H : Hp} {p : Addr} {o : HO} (e : Ex F H) (hp : H p = none) : Gr F H (upd F p o) (upd H p o) := by
  refine ⟨Ex.new (e.none hp), Ex.new hp, fun a u h => ?_, fun a u h1 h2 => ?_⟩
  · by_cases hb : a = p
    · rw [hb, upd_same] at h
      rw [hb, upd_same]
      exact h
    · rw [upd_ne hb] at h
      rw [upd_ne hb]
      exact e a u h
  · rw [upd_ne (ne_of_none h1 hp)]
    exact h2
/-- a new object, in H alone -/
theorem Gr.newH {F H : Hp} {p : Addr} {o : HO} (e : Ex F H) (hp : H p = none) : Gr F H F (upd H p o) :=
  ⟨Ex.refl F, Ex.new hp, e.trans (Ex.new hp), fun _ _ _ h => h⟩
/-- an object of H' that was not in H is taken in -/
theorem Gr.take {F H F' H' : Hp} {p : Addr} {o : HO} (g : Gr F H F' H') (hn : H p = none) (hF : F' p = none) (hp : H' p = some o) : Gr F H (upd F' p o) H' := by
  refine ⟨g.f.trans (Ex.new hF), g.h, fun a u h => ?_, fun a u h1 h2 => ?_⟩
  · by_cases hb : a = p
    · rw [hb, upd_same] at h
      rw [hb, hp]
      exact h
    · rw [upd_ne hb] at h
      exact g.i a u h
  · rw [upd_ne (ne_of_none h1 hn)]
    exact g.n a u h1 h2

/-! ### what is said of a value -/
structure As where
  p : Hp → V → Prop
  mono : ∀ {F F' : Hp} {v : V}, Ex F F' → p F v → p F' v
def sc (c : V) : As := ⟨fun _ v => v = c, fun _ h => h⟩
abbrev int (i : Int) : As := sc (.int i)
abbrev str (s : Str) : As := sc (.str s)
abbrev bl (b : Bool) : As := sc (.bl b)
abbrev non : As := sc .non
def AllV (F : Hp) : List V → List As → Prop
  | [], [] => True
  | v :: vs, A :: l => A.p F v ∧ AllV F vs l
  | _, _ => False
theorem AllV.mono {F F' : Hp} (e : Ex F F') : ∀ {vs : List V} {l : List As}, AllV F vs l → AllV F' vs l
  | [], [], h => h
  | _ :: _, A :: _, h => ⟨A.mono e h.1, AllV.mono e h.2⟩
  | [], _ :: _, h => h.elim
  | _ :: _, [], h => h.elim
theorem AllV.length {F : Hp} : ∀ {vs : List V} {l : List As}, AllV F vs l → vs.length = l.length
  | [], [], _ => rfl
  | _ :: _, _ :: _, h => congrArg (· + 1) (AllV.length h.2)
  | [], _ :: _, h => h.elim
  | _ :: _, [], h => h.elim
theorem AllV.get {F : Hp} : ∀ {vs : List V} {l : List As} {i : Nat} {A : As}, AllV F vs l → l[i]? = some A → ∃ v, vs[i]? = some v ∧ A.p F v
  | v :: _, B :: _, 0, A, h, e => by
    have e : B = A := by simpa using e
    subst e
    exact ⟨v, rfl, h.1⟩
  | _ :: vs, _ :: l, i + 1, A, h, e => by
    obtain ⟨v, h1, h2⟩ := AllV.get (vs := vs) (l := l) (i := i) h.2 (by simpa using e)
    exact ⟨v, by simpa using h1, h2⟩
  | [], [], _, _, _, e => by simp at e
  | [], _ :: _, _, _, h, _ => h.elim
  | _ :: _, [], _, _, h, _ => h.elim
theorem AllV.append {F : Hp} : ∀ {vs us : List V} {l m : List As}, AllV F vs l → AllV F us m → AllV F (vs ++ us) (l ++ m)
  | [], _, [], _, _, k => k
  | _ :: _, _, _ :: _, _, h, k => ⟨h.1, AllV.append h.2 k⟩
  | [], _, _ :: _, _, h, _ => h.elim
  | _ :: _, _, [], _, h, _ => h.elim
theorem AllV.nil {F : Hp} : AllV F [] [] := trivial
theorem AllV.one {F : Hp} {v : V} {A : As} (h : A.p F v) : AllV F [v] [A] := ⟨h, trivial⟩
theorem AllV.snoc {F : Hp} {vs : List V} {l : List As} {v : V} {A : As} (h : AllV F vs l) (k : A.p F v) : AllV F (vs ++ [v]) (l ++ [A]) := h.append (.one k)
theorem AllV.take {F : Hp} : ∀ {vs : List V} {l : List As} (n : Nat), AllV F vs l → AllV F (vs.take n) (l.take n)
  | _, _, 0, _ => by simp [AllV]
  | [], [], _ + 1, _ => trivial
  | _ :: _, _ :: _, n + 1, h => ⟨h.1, AllV.take n h.2⟩
  | [], _ :: _, _ + 1, h => h.elim
  | _ :: _, [], _ + 1, h => h.elim
theorem AllV.drop {F : Hp} : ∀ {vs : List V} {l : List As} (n : Nat), AllV F vs l → AllV F (vs.drop n) (l.drop n)
  | _, _, 0, h => h
  | [], [], _ + 1, _ => trivial
  | _ :: _, _ :: _, n + 1, h => AllV.drop n h.2
  | [], _ :: _, _ + 1, h => h.elim
  | _ :: _, [], _ + 1, h => h.elim
theorem AllV.scs {F : Hp} : ∀ {vs : List V} {cs : List V}, AllV F vs (cs.map sc) → vs = cs
  | [], [], _ => rfl
  | v :: vs, c :: cs, h => by
    have e : v = c := h.1
    rw [e, AllV.scs (vs := vs) (cs := cs) h.2]
  | [], _ :: _, h => h.elim
  | _ :: _, [], h => h.elim
theorem AllV.of_scs {F : Hp} : ∀ {cs : List V}, AllV F cs (cs.map sc)
  | [] => trivial
  | _ :: _ => ⟨rfl, AllV.of_scs⟩
theorem AllV.eraseIdx {F : Hp} : ∀ {vs : List V} {l : List As} (n : Nat), AllV F vs l → AllV F (vs.eraseIdx n) (l.eraseIdx n)
  | [], [], _, _ => by simp [AllV]
  | _ :: _, _ :: _, 0, h => h.2
  | _ :: _, _ :: _, n + 1, h => ⟨h.1, AllV.eraseIdx n h.2⟩
  | [], _ :: _, _, h => h.elim
  | _ :: _, [], _, h => h.elim
theorem AllV.imp {F : Hp} {α : Type} {f g : α → As} : ∀ {vs : List V} {l : List α}, AllV F vs (l.map f) → (∀ a ∈ l, ∀ v, (f a).p F v → (g a).p F v) → AllV F vs (l.map g)
  | [], [], _, _ => trivial
  | _ :: vs, a :: l, h, k => ⟨k a List.mem_cons_self _ h.1, AllV.imp (vs := vs) (l := l) h.2 fun b hb => k b (List.mem_cons_of_mem _ hb)⟩
  | [], _ :: _, h, _ => h.elim
  | _ :: _, [], h, _ => h.elim
/-- a list, a tuple of what is said -/
def lstA (l : List As) : As := ⟨fun F v => ∃ a xs, v = .ref a ∧ F a = some (.lst xs) ∧ AllV F xs l, fun e ⟨a, xs, h1, h2, h3⟩ => ⟨a, xs, h1, e a _ h2, h3.mono e⟩⟩
def tupA (l : List As) : As := ⟨fun F v => ∃ a xs, v = .ref a ∧ F a = some (.tup xs) ∧ AllV F xs l, fun e ⟨a, xs, h1, h2, h3⟩ => ⟨a, xs, h1, e a _ h2, h3.mono e⟩⟩
def exA {ι : Type} (pre : ι → Prop) (f : ι → As) : As := ⟨fun F v => ∃ i, pre i ∧ (f i).p F v, fun e ⟨i, h, k⟩ => ⟨i, h, (f i).mono e k⟩⟩
/-- ints of the script -/
def scr (K : PySem.W.Frag) (ns : List Int) : As := ⟨fun F v => ∃ a, v = .ref a ∧ SqL K F a (ns.map V.int), fun e ⟨a, h1, h2⟩ => ⟨a, h1, e.sql h2⟩⟩

/-! ### the slots -/
/-- what is said of an object of one's own that is no list -/
structure Ob where
  p : Hp → Addr → HO → Prop
  mono : ∀ {F F' : Hp} {a : Addr} {o : HO}, Ex F F' → p F a o → p F' a o
inductive En where
  | no
  | fr (A : As)
  | own (l : List As)
  | ow (B : Ob)
def En.Mn : En → Prop
  | .own _ => True
  | .ow _ => True
  | _ => False
def En.mnB : En → Bool
  | .own _ => true
  | .ow _ => true
  | _ => false
theorem no_mn {ρ : List En} (h : ρ.any En.mnB = false) {i : Nat} {x : En} (e : ρ[i]? = some x) : ¬ x.Mn := fun m => by
  have z : ρ.any En.mnB = true := List.any_eq_true.mpr ⟨x, List.mem_of_getElem? e, by
    cases x with
    | no => exact m.elim
    | fr A => exact m.elim
    | own l => rfl
    | ow B => rfl⟩
  rw [h] at z
  cases z
structure Sat (H0 F : Hp) (σ : L2.St) (H : Hp) (ρ : List En) : Prop where
  ex : Ex F H
  fr : ∀ (i : Nat) (A : As), ρ[i]? = some (En.fr A) → ∃ v : V, σ[i]? = some (some v) ∧ A.p F v
  own : ∀ (i : Nat) (l : List As), ρ[i]? = some (En.own l) → ∃ (p : Addr) (xs : List V), σ[i]? = some (some (V.ref p)) ∧ F p = none ∧ H0 p = none ∧ H p = some (HO.lst xs) ∧ AllV F xs l
  sep : ∀ (i j : Nat) (e e' : En) (p : Addr), ρ[i]? = some e → ρ[j]? = some e' → e.Mn → e'.Mn → σ[i]? = some (some (V.ref p)) → σ[j]? = some (some (V.ref p)) → i = j
  len : ρ.length = σ.length
  ow : ∀ (i : Nat) (B : Ob), ρ[i]? = some (En.ow B) → ∃ (p : Addr) (o : HO), σ[i]? = some (some (V.ref p)) ∧ F p = none ∧ H0 p = none ∧ H p = some o ∧ B.p F p o
theorem Sat.gr {H0 F H F' H' : Hp} {σ : L2.St} {ρ : List En} (S : Sat H0 F σ H ρ) (g : Gr F H F' H') : Sat H0 F' σ H' ρ := by
  refine ⟨g.i, fun i A e => ?_, fun i l e => ?_, S.sep, S.len, fun i B e => ?_⟩
  · obtain ⟨v, h1, h2⟩ := S.fr i A e
    exact ⟨v, h1, A.mono g.f h2⟩
  · obtain ⟨p, xs, h1, h2, h3, h4, h5⟩ := S.own i l e
    exact ⟨p, xs, h1, g.n p _ h4 h2, h3, g.h p _ h4, h5.mono g.f⟩
  · obtain ⟨p, o, h1, h2, h3, h4, h5⟩ := S.ow i B e
    exact ⟨p, o, h1, g.n p _ h4 h2, h3, g.h p _ h4, B.mono g.f h5⟩

/-! ### expressions -/
def tA (ρ : List En) (A : As) : TE := fun σ H Q => ∃ H0 F, Sat H0 F σ H ρ ∧ ∀ v H' F', Gr F H F' H' → A.p F' v → Q v H'
def tW (ρ : List En) (A : As) : TE := fun σ H Q => ∃ H0 F, Sat H0 F σ H ρ ∧ ∀ v H' F', Gr F H F' H' → A.p H' v → Q v H'
def tL (ρ : List En) (l : List As) : TE := fun σ H Q => ∃ H0 F, Sat H0 F σ H ρ ∧ ∀ a xs H' F', Gr F H F' H' → H' a = some (.lst xs) → AllV F' xs l → Q (.ref a) H'
def tN (ρ : List En) (l : List As) : TE := fun σ H Q => ∃ H0 F, Sat H0 F σ H ρ ∧ ∀ a xs H' F', Gr F H F' H' → H a = none → F' a = none → H' a = some (.lst xs) → AllV F' xs l → Q (.ref a) H'
def tTs (ρ : List En) (b : Bool) : TT := fun σ H Q => ∃ H0 F, Sat H0 F σ H ρ ∧ ∀ H' F', Gr F H F' H' → Q b H'
def tAs (ρ : List En) (l : List As) : TA := fun σ H Q => ∃ H0 F, Sat H0 F σ H ρ ∧ ∀ vs H' F', Gr F H F' H' → AllV F' vs l → Q vs H'
abbrev EA (X : Cx) (e : Expr) (ρ : List En) (A : As) : Prop := PE X e (tA ρ A)
abbrev EW (X : Cx) (e : Expr) (ρ : List En) (A : As) : Prop := PE X e (tW ρ A)
abbrev EL (X : Cx) (e : Expr) (ρ : List En) (l : List As) : Prop := PE X e (tL ρ l)
abbrev EN (X : Cx) (e : Expr) (ρ : List En) (l : List As) : Prop := PE X e (tN ρ l)
abbrev ET (X : Cx) (e : Expr) (ρ : List En) (b : Bool) : Prop := PT X e (tTs ρ b)
abbrev EAs (X : Cx) (es : List Expr) (ρ : List En) (l : List As) : Prop := PA X es (tAs ρ l)
theorem pe_imp {X : Cx} {e : Expr} {t t' : TE} (h : PE X e t) (i : ∀ σ H Q, t' σ H Q → t σ H Q) : PE X e t' := ⟨fun pins s σ H Q I q => h.run pins s σ H Q I (i σ H Q q)⟩
theorem pt_imp {X : Cx} {e : Expr} {t t' : TT} (h : PT X e t) (i : ∀ σ H Q, t' σ H Q → t σ H Q) : PT X e t' := ⟨fun pins s σ H Q I q => h.run pins s σ H Q I (i σ H Q q)⟩
theorem pw_imp {X : Cx} {e : Expr} {t t' : TT} (h : PW X e t) (i : ∀ σ H Q, t' σ H Q → t σ H Q) : PW X e t' := ⟨fun wh pins s σ H Q I q => h.run wh pins s σ H Q I (i σ H Q q)⟩
theorem pa_imp {X : Cx} {es : List Expr} {t t' : TA} (h : PA X es t) (i : ∀ σ H Q, t' σ H Q → t σ H Q) : PA X es t' := ⟨fun pos pins s σ H Q I q => h.run pos pins s σ H Q I (i σ H Q q)⟩
theorem ps_imp {X : Cx} {st : Stmt} {t t' : TS} (h : PS X st t) (i : ∀ D σ H, t' D σ H → t D σ H) : PS X st t' := ⟨fun pins s σ H D I q => h.run pins s σ H D I (i D σ H q)⟩
theorem pss_imp {X : Cx} {st : List Stmt} {t t' : TS} (h : PSs X st t) (i : ∀ D σ H, t' D σ H → t D σ H) : PSs X st t' := ⟨fun pins s σ H D I q => h.run pins s σ H D I (i D σ H q)⟩
section
variable {X : Cx} {e a b c : Expr} {es : List Expr} {ρ : List En} {A B C : As} {l m : List As} {pos : Pos}
theorem ea_imp (h : EA X e ρ A) (i : ∀ F v, A.p F v → B.p F v) : EA X e ρ B := pe_imp h fun σ H Q ⟨H0, F, S, k⟩ => ⟨H0, F, S, fun v H' F' g p => k v H' F' g (i F' v p)⟩
theorem ew_imp (h : EW X e ρ A) (i : ∀ F v, A.p F v → B.p F v) : EW X e ρ B := pe_imp h fun σ H Q ⟨H0, F, S, k⟩ => ⟨H0, F, S, fun v H' F' g p => k v H' F' g (i H' v p)⟩
theorem ea_is (h : EA X e ρ A) (i : A = B) : EA X e ρ B := i ▸ h
theorem ew_is (h : EW X e ρ A) (i : A = B) : EW X e ρ B := i ▸ h
theorem et_is {x y : Bool} (h : ET X e ρ x) (i : x = y) : ET X e ρ y := i ▸ h
theorem ea_w (h : EA X e ρ A) : EW X e ρ A := pe_imp h fun σ H Q ⟨H0, F, S, k⟩ => ⟨H0, F, S, fun v H' F' g p => k v H' F' g (A.mono g.i p)⟩
theorem ea_l (h : EA X e ρ (lstA l)) : EL X e ρ l := pe_imp h fun σ H Q ⟨H0, F, S, k⟩ => ⟨H0, F, S, fun v H' F' g ⟨a, xs, e1, e2, e3⟩ => by
  subst e1
  exact k a xs H' F' g (g.i a _ e2) e3⟩
theorem en_l (h : EN X e ρ l) : EL X e ρ l := pe_imp h fun σ H Q ⟨H0, F, S, k⟩ => ⟨H0, F, S, fun a xs H' F' g _ _ h2 h3 => k a xs H' F' g h2 h3⟩
theorem en_a (h : EN X e ρ l) : EA X e ρ (lstA l) := pe_imp h fun σ H Q ⟨H0, F, S, k⟩ => ⟨H0, F, S, fun a xs H' F' g n f h2 h3 =>
  k _ H' (upd F' a (.lst xs)) (g.take n f h2) ⟨a, xs, rfl, upd_same, h3.mono (Ex.new f)⟩⟩
theorem el_w (h : EL X e ρ l) : EW X e ρ (lstA l) := pe_imp h fun σ H Q ⟨H0, F, S, k⟩ => ⟨H0, F, S, fun a xs H' F' g h2 h3 => k _ H' F' g ⟨a, xs, rfl, h2, h3.mono g.i⟩⟩
theorem en_w (h : EN X e ρ l) : EW X e ρ (lstA l) := el_w (en_l h)
theorem sc_w {v : V} (h : EW X e ρ (sc v)) : EA X e ρ (sc v) := pe_imp h fun σ H Q ⟨H0, F, S, k⟩ => ⟨H0, F, S, fun u H' F' g p => k u H' F' g p⟩

/-! names and constants -/
theorem ea_var (i : Nat) {x : Str} (hr : ρ[i]? = some (.fr A)) (hN : X.N[i]? = some x := by rfl) (hv : Vis X.env.scope x := by first | exact Or.inl rfl | exact Or.inr (Or.inl rfl) | exact Or.inr (Or.inr rfl)) (hd : (x == ("__debug__" : Str)) = false := by decide)
    (hcd : (x == ("__classdict__" : Str)) = false := by decide) : EA X (.Name x pos) ρ A := pe_imp (pe_var hN hv hd hcd) fun σ H Q ⟨H0, F, S, k⟩ => by
  obtain ⟨v, h1, h2⟩ := S.fr i A hr
  exact ⟨v, h1, k v H F (.refl S.ex) h2⟩
theorem el_var (i : Nat) {x : Str} (hr : ρ[i]? = some (.own l)) (hN : X.N[i]? = some x := by rfl) (hv : Vis X.env.scope x := by first | exact Or.inl rfl | exact Or.inr (Or.inl rfl) | exact Or.inr (Or.inr rfl)) (hd : (x == ("__debug__" : Str)) = false := by decide)
    (hcd : (x == ("__classdict__" : Str)) = false := by decide) : EL X (.Name x pos) ρ l := pe_imp (pe_var hN hv hd hcd) fun σ H Q ⟨H0, F, S, k⟩ => by
  obtain ⟨p, xs, h1, h2, h3, h4, h5⟩ := S.own i l hr
  exact ⟨_, h1, k p xs H F (.refl S.ex) h4 h5⟩
theorem ea_c {v : V} (h : PE X e (tC v)) : EA X e ρ (sc v) := pe_imp h fun σ H Q ⟨H0, F, S, k⟩ => k v H F (.refl S.ex) rfl
theorem ea_int {i : Int} {j} : EA X (.Constant (.int i) j pos) ρ (int i) := ea_c pe_int
theorem ea_str {s : Str} {j} : EA X (.Constant (.str s) j pos) ρ (str s) := ea_c pe_str
theorem ea_bl {k : Bool} {j} : EA X (.Constant (.bool k) j pos) ρ (bl k) := ea_c pe_bl
theorem ea_non {j} : EA X (.Constant .none j pos) ρ non := ea_c pe_non
theorem ea_glob {x : Str} {v : V} {u : Value} (hg : Gl X x) (hm : X.mg x = some u) (r : RelV v u) (hd : (x == ("__debug__" : Str)) = false := by decide) : EA X (.Name x pos) ρ (sc v) := ea_c (pe_glob hg hm r hd)

/-! two-place operations -/
theorem ea_op {op : Operator} {r : R2} (ho : OpR X (binaryOp op) r) (ha : EW X a ρ A) (hb : EW X b ρ B) {v : V} (hr : ∀ x y H Q, A.p H x → B.p H y → Q v H → r x y H Q) : EA X (.BinOp a op b pos) ρ (sc v) :=
  pe_imp (pe_op ho ha hb) fun σ H Q ⟨H0, F, S, k⟩ => ⟨H0, F, S, fun x H1 F1 g1 h1 => ⟨H0, F1, S.gr g1, fun y H2 F2 g2 h2 => hr x y H2 Q (A.mono g2.h h1) h2 (k v H2 F2 (g1.trans g2) rfl)⟩⟩
theorem ea_add {i j : Int} (ha : EW X a ρ (int i)) (hb : EW X b ρ (int j)) : EA X (.BinOp a .Add b pos) ρ (int (i + j)) := ea_op op_add ha hb fun x y H Q h1 h2 q => ⟨i, j, h1, h2, q⟩
theorem ea_sub {i j : Int} (ha : EW X a ρ (int i)) (hb : EW X b ρ (int j)) : EA X (.BinOp a .Sub b pos) ρ (int (i - j)) := ea_op op_sub ha hb fun x y H Q h1 h2 q => ⟨i, j, h1, h2, q⟩
theorem ea_mul {i j : Int} (ha : EW X a ρ (int i)) (hb : EW X b ρ (int j)) (hc : CMul i j) : EA X (.BinOp a .Mult b pos) ρ (int (i * j)) := ea_op op_mul ha hb fun x y H Q h1 h2 q => ⟨i, j, h1, h2, hc, q⟩
theorem ea_fdiv {i j : Int} (ha : EW X a ρ (int i)) (hb : EW X b ρ (int j)) (hc : CDiv i j) : EA X (.BinOp a .FloorDiv b pos) ρ (int (i / j)) := ea_op op_fdiv ha hb fun x y H Q h1 h2 q => ⟨i, j, h1, h2, hc, q⟩
theorem ea_mod {i j : Int} (ha : EW X a ρ (int i)) (hb : EW X b ρ (int j)) (hc : 0 < j) : EA X (.BinOp a .Mod b pos) ρ (int (i % j)) := ea_op op_mod ha hb fun x y H Q h1 h2 q => ⟨i, j, h1, h2, hc, q⟩
theorem ea_pow {i j : Int} (ha : EW X a ρ (int i)) (hb : EW X b ρ (int j)) (hc : CPow i j) : EA X (.BinOp a .Pow b pos) ρ (int (i ^ j.toNat)) := ea_op op_pow ha hb fun x y H Q h1 h2 q => ⟨i, j, h1, h2, hc, q⟩
theorem ea_adds {s t : Str} (ha : EW X a ρ (str s)) (hb : EW X b ρ (str t)) (hc : s.length + t.length ≤ sizeLine) : EA X (.BinOp a .Add b pos) ρ (str (s ++ t)) := ea_op op_add_str ha hb fun x y H Q h1 h2 q => ⟨s, t, h1, h2, hc, q⟩
/-- lists: a new one -/
theorem en_cat (ha : EL X a ρ l) (hb : EL X b ρ m) (hz : l.length + m.length ≤ sizeLine) : EN X (.BinOp a .Add b pos) ρ (l ++ m) :=
  pe_imp (pe_op op_cat ha hb) fun σ H Q ⟨H0, F, S, k⟩ => ⟨H0, F, S, fun x xs H1 F1 g1 h1 h2 => ⟨H0, F1, S.gr g1, fun y ys H2 F2 g2 h3 h4 => by
    have h5 := h2.mono g2.f
    refine ⟨x, y, xs, ys, rfl, rfl, g2.h x _ h1, h3, by rw [h2.length, h4.length]; exact hz, fun p hp => ?_⟩
    have g := g1.trans g2
    exact k p _ _ F2 (g.trans (.newH g.i hp)) (g.h.none hp) (g.i.none hp) upd_same (h5.append h4)⟩⟩
/-- tuples (the left one not empty) -/
theorem ea_catT (ha : EA X a ρ (tupA l)) (hb : EA X b ρ (tupA m)) (h0 : l ≠ []) (hz : l.length + m.length ≤ sizeLine) : EA X (.BinOp a .Add b pos) ρ (tupA (l ++ m)) :=
  pe_imp (pe_op op_catT ha hb) fun σ H Q ⟨H0, F, S, k⟩ => ⟨H0, F, S, fun v H1 F1 g1 ⟨x, xs, e1, h1, h2⟩ => ⟨H0, F1, S.gr g1, fun u H2 F2 g2 ⟨y, ys, e2, h3, h4⟩ => by
    have h5 := h2.mono g2.f
    have g := g1.trans g2
    have n1 : xs ≠ [] := fun z => by
      have q := h2.length
      rw [z] at q
      exact h0 (List.length_eq_zero_iff.mp q.symm)
    refine ⟨x, y, xs, ys, e1, e2, SqT.of (g2.h x _ (g1.i x _ h1)), SqT.of (g2.i y _ h3), n1, by rw [h2.length, h4.length]; exact hz, fun z => ?_, fun z p hp => ?_⟩
    · have hm : m = [] := List.length_eq_zero_iff.mp (by rw [← h4.length, z]; rfl)
      subst hm
      rw [List.append_nil] at k
      exact k _ H2 F2 g ⟨x, xs, rfl, g2.f x _ h1, h5⟩
    · exact k _ _ _ (g.trans (.new g.i hp)) ⟨p, _, rfl, upd_same, (h5.append h4).mono (Ex.new (g.i.none hp))⟩⟩⟩

/-! arguments, displays -/
theorem eas_nil : EAs X [] ρ [] := pa_imp pa_nil fun σ H Q ⟨H0, F, S, k⟩ => k [] H F (.refl S.ex) trivial
theorem eas_cons (ha : EA X e ρ A) (hr : EAs X es ρ l) (hs : starEach (e :: es) X.env = (false, eval e X.env) :: starEach es X.env := by rfl) : EAs X (e :: es) ρ (A :: l) :=
  pa_imp (pa_cons ha hr hs) fun σ H Q ⟨H0, F, S, k⟩ => ⟨H0, F, S, fun v H1 F1 g1 h1 => ⟨H0, F1, S.gr g1, fun vs H2 F2 g2 h2 => k (v :: vs) H2 F2 (g1.trans g2) ⟨A.mono g2.f h1, h2⟩⟩⟩
theorem ea_tup {x1} (h : EAs X es ρ l) (hz : l.length ≤ sizeLine) : EA X (.Tuple es x1 pos) ρ (tupA l) :=
  pe_imp (pe_tup h) fun σ H Q ⟨H0, F, S, k⟩ => ⟨H0, F, S, fun vs H1 F1 g1 h1 => ⟨by rw [h1.length]; exact hz, fun p hp =>
    k _ _ _ (g1.trans (.new g1.i hp)) ⟨p, vs, rfl, upd_same, h1.mono (Ex.new (g1.i.none hp))⟩⟩⟩
theorem en_lst (h : EAs X es ρ l) (hz : l.length ≤ sizeLine) : EN X (.List es pos) ρ l :=
  pe_imp (pe_lst h) fun σ H Q ⟨H0, F, S, k⟩ => ⟨H0, F, S, fun vs H1 F1 g1 h1 => ⟨by rw [h1.length]; exact hz, fun p hp =>
    k p vs _ F1 (g1.trans (.newH g1.i hp)) (g1.h.none hp) (g1.i.none hp) upd_same h1⟩⟩

/-! tests -/
theorem et_cmp {op : CmpOp} {r : R2} (ho : OpR X (compareOp op) r) (ha : EW X a ρ A) (hb : EW X b ρ B) {k : Bool} (hr : ∀ x y H Q, A.p H x → B.p H y → Q (.bl k) H → r x y H Q) (hm : behindInMarks op b = false) : ET X (.Compare a [op] [b] pos) ρ k :=
  pt_imp (pt_cmpR ho ha hb hm) fun σ H Q ⟨H0, F, S, q⟩ => ⟨H0, F, S, fun x H1 F1 g1 h1 => ⟨H0, F1, S.gr g1, fun y H2 F2 g2 h2 => hr x y H2 _ (A.mono g2.h h1) h2 ⟨k, rfl, q H2 F2 (g1.trans g2)⟩⟩⟩
theorem ea_cmp {op : CmpOp} {r : R2} (ho : OpR X (compareOp op) r) (ha : EW X a ρ A) (hb : EW X b ρ B) {k : Bool} (hr : ∀ x y H Q, A.p H x → B.p H y → Q (.bl k) H → r x y H Q) (hm : behindInMarks op b = false) : EA X (.Compare a [op] [b] pos) ρ (bl k) :=
  pe_imp (pe_cmpR ho ha hb hm) fun σ H Q ⟨H0, F, S, q⟩ => ⟨H0, F, S, fun x H1 F1 g1 h1 => ⟨H0, F1, S.gr g1, fun y H2 F2 g2 h2 => hr x y H2 _ (A.mono g2.h h1) h2 (q _ H2 F2 (g1.trans g2) rfl)⟩⟩
/-- a comparison by values: op, what it gives -/
structure Cm (X : Cx) (op : CmpOp) (A B : As) (k : Bool) : Prop where
  of : ∃ r, OpR X (compareOp op) r ∧ ∀ x y H Q, A.p H x → B.p H y → Q (.bl k) H → r x y H Q
theorem et_cm {op : CmpOp} {k : Bool} (ha : EW X a ρ A) (hb : EW X b ρ B) (h : Cm X op A B k) (hm : behindInMarks op b = false) : ET X (.Compare a [op] [b] pos) ρ k := let ⟨_, ho, hr⟩ := h.of; et_cmp ho ha hb hr hm
theorem ea_cm {op : CmpOp} {k : Bool} (ha : EW X a ρ A) (hb : EW X b ρ B) (h : Cm X op A B k) (hm : behindInMarks op b = false) : EA X (.Compare a [op] [b] pos) ρ (bl k) := let ⟨_, ho, hr⟩ := h.of; ea_cmp ho ha hb hr hm
theorem cm_lt {i j : Int} : Cm X .Lt (int i) (int j) (decide (i < j)) := ⟨_, op_lt, fun x y H Q h1 h2 q => ⟨i, j, h1, h2, q⟩⟩
theorem cm_le {i j : Int} : Cm X .LtE (int i) (int j) (decide (i ≤ j)) := ⟨_, op_le, fun x y H Q h1 h2 q => ⟨i, j, h1, h2, q⟩⟩
theorem cm_gt {i j : Int} : Cm X .Gt (int i) (int j) (decide (j < i)) := ⟨_, op_gt, fun x y H Q h1 h2 q => ⟨i, j, h1, h2, q⟩⟩
theorem cm_ge {i j : Int} : Cm X .GtE (int i) (int j) (decide (j ≤ i)) := ⟨_, op_ge, fun x y H Q h1 h2 q => ⟨i, j, h1, h2, q⟩⟩
theorem cm_eqI {i j : Int} : Cm X .Eq (int i) (int j) (decide (i = j)) := ⟨_, op_eq, fun x y H Q h1 h2 q => by
  have e1 : x = .int i := h1
  have e2 : y = .int j := h2
  subst e1 e2
  refine ⟨rfl, ?_⟩
  have e : decide (V.int i = V.int j) = decide (i = j) := by simp
  rw [e]
  exact q⟩
theorem cm_neI {i j : Int} : Cm X .NotEq (int i) (int j) (!decide (i = j)) := ⟨_, op_ne, fun x y H Q h1 h2 q => by
  have e1 : x = .int i := h1
  have e2 : y = .int j := h2
  subst e1 e2
  refine ⟨rfl, ?_⟩
  have e : decide (V.int i = V.int j) = decide (i = j) := by simp
  rw [e]
  exact q⟩
theorem cm_eqS {s t : Str} : Cm X .Eq (str s) (str t) (decide (s = t)) := ⟨_, op_eq, fun x y H Q h1 h2 q => by
  have e1 : x = .str s := h1
  have e2 : y = .str t := h2
  subst e1 e2
  refine ⟨rfl, ?_⟩
  have e : decide (V.str s = V.str t) = decide (s = t) := by simp
  rw [e]
  exact q⟩
theorem cm_neS {s t : Str} : Cm X .NotEq (str s) (str t) (!decide (s = t)) := ⟨_, op_ne, fun x y H Q h1 h2 q => by
  have e1 : x = .str s := h1
  have e2 : y = .str t := h2
  subst e1 e2
  refine ⟨rfl, ?_⟩
  have e : decide (V.str s = V.str t) = decide (s = t) := by simp
  rw [e]
  exact q⟩
theorem cm_eqB {s t : Bool} : Cm X .Eq (bl s) (bl t) (decide (s = t)) := ⟨_, op_eq, fun x y H Q h1 h2 q => by
  have e1 : x = .bl s := h1
  have e2 : y = .bl t := h2
  subst e1 e2
  refine ⟨rfl, ?_⟩
  have e : decide (V.bl s = V.bl t) = decide (s = t) := by simp
  rw [e]
  exact q⟩
theorem cm_neB {s t : Bool} : Cm X .NotEq (bl s) (bl t) (!decide (s = t)) := ⟨_, op_ne, fun x y H Q h1 h2 q => by
  have e1 : x = .bl s := h1
  have e2 : y = .bl t := h2
  subst e1 e2
  refine ⟨rfl, ?_⟩
  have e : decide (V.bl s = V.bl t) = decide (s = t) := by simp
  rw [e]
  exact q⟩
/-- a value's truth -/
theorem et_v {k : Bool} (h : EW X e ρ (bl k)) (he : ∀ whole, isTrue e X.env whole = (do let v ← whole; standAt e.pos; holding [v] (truthy v)) := by intro _; rfl) : ET X e ρ k :=
  pt_imp (pt_val h he) fun σ H Q ⟨H0, F, S, q⟩ => ⟨H0, F, S, fun v H1 F1 g1 h1 => ⟨k, h1, q H1 F1 g1⟩⟩
abbrev EWt (X : Cx) (e : Expr) (ρ : List En) (b : Bool) : Prop := PW X e (tTs ρ b)
theorem et_not {k : Bool} (h : ET X a ρ k) : ET X (.UnaryOp .Not a pos) ρ (!k) := pt_imp (pt_not h) fun σ H Q ⟨H0, F, S, q⟩ => ⟨H0, F, S, fun H1 F1 g1 => q H1 F1 g1⟩
theorem ea_not {k : Bool} (h : EW X a ρ (bl k)) : EA X (.UnaryOp .Not a pos) ρ (bl (!k)) := pe_imp (pe_not h) fun σ H Q ⟨H0, F, S, q⟩ => ⟨H0, F, S, fun v H1 F1 g1 h1 => ⟨k, h1, q _ H1 F1 g1 rfl⟩⟩
theorem ewt_and1 {k : Bool} (h : ET X a ρ k) : EWt X (.BoolOp .And [a] pos) ρ k := pw_and1 h
theorem ewt_or1 {k : Bool} (h : ET X a ρ k) : EWt X (.BoolOp .Or [a] pos) ρ k := pw_or1 h
theorem ewt_and {j k : Bool} (h1 : ET X a ρ j) (h2 : j = true → EWt X (.BoolOp .And (b :: es) pos) ρ k) : EWt X (.BoolOp .And (a :: b :: es) pos) ρ (j && k) := by
  have hb : PW X (.BoolOp .And (b :: es) pos) (fun σ H Q => j = true ∧ tTs ρ k σ H Q) := ⟨fun wh pins s σ H Q I ⟨z, q⟩ => (h2 z).run wh pins s σ H Q I q⟩
  refine pw_imp (pw_and h1 hb) fun σ H Q ⟨H0, F, S, q⟩ => ⟨H0, F, S, fun H1 F1 g1 => ?_⟩
  cases j with
  | true => exact ⟨rfl, H0, F1, S.gr g1, fun H2 F2 g2 => q H2 F2 (g1.trans g2)⟩
  | false => exact q H1 F1 g1
theorem ewt_or {j k : Bool} (h1 : ET X a ρ j) (h2 : j = false → EWt X (.BoolOp .Or (b :: es) pos) ρ k) : EWt X (.BoolOp .Or (a :: b :: es) pos) ρ (j || k) := by
  have hb : PW X (.BoolOp .Or (b :: es) pos) (fun σ H Q => j = false ∧ tTs ρ k σ H Q) := ⟨fun wh pins s σ H Q I ⟨z, q⟩ => (h2 z).run wh pins s σ H Q I q⟩
  refine pw_imp (pw_or h1 hb) fun σ H Q ⟨H0, F, S, q⟩ => ⟨H0, F, S, fun H1 F1 g1 => ?_⟩
  cases j with
  | false => exact ⟨rfl, H0, F1, S.gr g1, fun H2 F2 g2 => q H2 F2 (g1.trans g2)⟩
  | true => exact q H1 F1 g1
theorem et_w {k : Bool} (h : EWt X e ρ k) : ET X e ρ k := h.pt
/-- .. as values -/
theorem ea_one {op} (h : EA X a ρ A) : EA X (.BoolOp op [a] pos) ρ A := pe_imp (pe_one h) fun σ H Q q => q
theorem ea_and {j k : Bool} (h1 : EW X a ρ (bl j)) (h2 : j = true → EA X (.BoolOp .And (b :: es) pos) ρ (bl k)) : EA X (.BoolOp .And (a :: b :: es) pos) ρ (bl (j && k)) := by
  have hb : PE X (.BoolOp .And (b :: es) pos) (fun σ H Q => j = true ∧ tA ρ (bl k) σ H Q) := ⟨fun pins s σ H Q I ⟨z, q⟩ => (h2 z).run pins s σ H Q I q⟩
  refine pe_imp (pe_and h1 hb) fun σ H Q ⟨H0, F, S, q⟩ => ⟨H0, F, S, fun v H1 F1 g1 hv => ⟨j, hv, ?_⟩⟩
  cases j with
  | true => exact ⟨rfl, H0, F1, S.gr g1, fun v H2 F2 g2 h => q v H2 F2 (g1.trans g2) h⟩
  | false => exact q _ H1 F1 g1 rfl
theorem ea_or {j k : Bool} (h1 : EW X a ρ (bl j)) (h2 : j = false → EA X (.BoolOp .Or (b :: es) pos) ρ (bl k)) : EA X (.BoolOp .Or (a :: b :: es) pos) ρ (bl (j || k)) := by
  have hb : PE X (.BoolOp .Or (b :: es) pos) (fun σ H Q => j = false ∧ tA ρ (bl k) σ H Q) := ⟨fun pins s σ H Q I ⟨z, q⟩ => (h2 z).run pins s σ H Q I q⟩
  refine pe_imp (pe_or h1 hb) fun σ H Q ⟨H0, F, S, q⟩ => ⟨H0, F, S, fun v H1 F1 g1 hv => ⟨j, hv, ?_⟩⟩
  cases j with
  | false => exact ⟨rfl, H0, F1, S.gr g1, fun v H2 F2 g2 h => q v H2 F2 (g1.trans g2) h⟩
  | true => exact q _ H1 F1 g1 rfl
theorem ea_if {k : Bool} (hc : ET X c ρ k) (h1 : k = true → EA X a ρ A) (h2 : k = false → EA X b ρ A) : EA X (.IfExp c a b pos) ρ A := by
  have p1 : PE X a (fun σ H Q => k = true ∧ tA ρ A σ H Q) := ⟨fun pins s σ H Q I ⟨z, q⟩ => (h1 z).run pins s σ H Q I q⟩
  have p2 : PE X b (fun σ H Q => k = false ∧ tA ρ A σ H Q) := ⟨fun pins s σ H Q I ⟨z, q⟩ => (h2 z).run pins s σ H Q I q⟩
  refine pe_imp (pe_ifExp hc p1 p2) fun σ H Q ⟨H0, F, S, q⟩ => ⟨H0, F, S, fun H1 F1 g1 => ?_⟩
  cases k with
  | true => exact ⟨rfl, H0, F1, S.gr g1, fun v H2 F2 g2 h => q v H2 F2 (g1.trans g2) h⟩
  | false => exact ⟨rfl, H0, F1, S.gr g1, fun v H2 F2 g2 h => q v H2 F2 (g1.trans g2) h⟩

/-! items, slices, len -/
theorem ea_ixL {i : Int} {j : Nat} (ha : EL X a ρ l) (hb : EW X b ρ (int i)) (hi : i = (j : Int)) (hj : l[j]? = some A) (hs : PlainIx b := by exact fun _ _ => rfl) : EA X (.Subscript a b pos) ρ A :=
  pe_imp (pe_ix ix_list ha hb hs) fun σ H Q ⟨H0, F, S, k⟩ => ⟨H0, F, S, fun x xs H1 F1 g1 h1 h2 => ⟨H0, F1, S.gr g1, fun y H2 F2 g2 h3 => by
    obtain ⟨v, e1, e2⟩ := h2.get hj
    have h3 : y = .int i := h3
    subst h3
    subst hi
    exact ⟨x, xs, (j : Int), v, rfl, rfl, SqL.of (g2.h x _ h1), atI_nat e1, k v H2 F2 (g1.trans g2) (A.mono g2.f e2)⟩⟩⟩
theorem ea_ixT {i : Int} {j : Nat} (ha : EA X a ρ (tupA l)) (hb : EW X b ρ (int i)) (hi : i = (j : Int)) (hj : l[j]? = some A) (hs : PlainIx b := by exact fun _ _ => rfl) : EA X (.Subscript a b pos) ρ A :=
  pe_imp (pe_ix ix_tup ha hb hs) fun σ H Q ⟨H0, F, S, k⟩ => ⟨H0, F, S, fun x H1 F1 g1 ⟨p, xs, e0, h1, h2⟩ => ⟨H0, F1, S.gr g1, fun y H2 F2 g2 h3 => by
    obtain ⟨v, e1, e2⟩ := h2.get hj
    have h3 : y = .int i := h3
    subst h3
    subst hi
    exact ⟨p, xs, (j : Int), v, e0, rfl, SqT.of (g2.h p _ (g1.i p _ h1)), atI_nat e1, k v H2 F2 (g1.trans g2) (A.mono g2.f e2)⟩⟩⟩
theorem ea_ixS {s : Str} {i : Int} {j : Nat} {c0 : Nat} (ha : EW X a ρ (str s)) (hb : EW X b ρ (int i)) (hz : s.length ≤ sizeLine) (hi : i = (j : Int)) (hj : s.cps.toList[j]? = some c0) (hs : PlainIx b := by exact fun _ _ => rfl) : EA X (.Subscript a b pos) ρ (str ⟨#[c0]⟩) :=
  pe_imp (pe_ix ix_str ha hb hs) fun σ H Q ⟨H0, F, S, k⟩ => ⟨H0, F, S, fun x H1 F1 g1 h1 => ⟨H0, F1, S.gr g1, fun y H2 F2 g2 h3 => by
    have h3 : y = .int i := h3
    have h1 : x = .str s := h1
    subst h3
    subst hi
    subst h1
    exact ⟨s, (j : Int), c0, rfl, rfl, hz, atI_nat hj, k _ H2 F2 (g1.trans g2) rfl⟩⟩⟩
theorem ea_len (ha : EL X a ρ l) {x : Str} {p : Pos} (hg : Gl X x) (hm : X.mg x = none) (hv : bootBuiltins x = some (.builtin "len")) (hn : x ≠ "__name__" := by decide) (hdb : (x == ("__debug__" : Str)) = false := by decide)
    (hs : starEach [a] X.env = (false, eval a X.env) :: starEach [] X.env := by rfl) (hpl : (backTo pos (starEach [] X.env)).any (·.1) = false := by rfl) : EA X (.Call (.Name x p) [a] [] pos) ρ (int (l.length : Int)) :=
  pe_imp (pe_callB call_len_seq hg hm hv (pa_cons ha pa_nil hs) hn hdb (he := hs) (hpl := hpl)) fun σ H Q ⟨H0, F, S, k⟩ => ⟨H0, F, S, fun x xs H1 F1 g1 h1 h2 => ⟨x, xs, rfl, .inl (SqL.of h1), by
    rw [h2.length]
    exact k _ H1 F1 g1 rfl⟩⟩
theorem ea_lenT (ha : EA X a ρ (tupA l)) {x : Str} {p : Pos} (hg : Gl X x) (hm : X.mg x = none) (hv : bootBuiltins x = some (.builtin "len")) (hn : x ≠ "__name__" := by decide) (hdb : (x == ("__debug__" : Str)) = false := by decide)
    (hs : starEach [a] X.env = (false, eval a X.env) :: starEach [] X.env := by rfl) (hpl : (backTo pos (starEach [] X.env)).any (·.1) = false := by rfl) : EA X (.Call (.Name x p) [a] [] pos) ρ (int (l.length : Int)) :=
  pe_imp (pe_callB call_len_seq hg hm hv (pa_cons ha pa_nil hs) hn hdb (he := hs) (hpl := hpl)) fun σ H Q ⟨H0, F, S, k⟩ => ⟨H0, F, S, fun v H1 F1 g1 ⟨p, xs, e0, h1, h2⟩ => ⟨p, xs, by rw [e0], .inr (SqT.of (g1.i p _ h1)), by
    rw [h2.length]
    exact k _ H1 F1 g1 rfl⟩⟩
end

/-! ### statements -/
structure Wn where
  R : As
  B : List En → Prop := fun _ => False
  C : List En → Prop := fun _ => False
  /-- what may be raised, where, and what is wished of it -/
  er : List En → Hp → Value → Option Addr → Prop := fun _ _ _ _ => False
  wx : WX := fun _ _ _ _ => True
def sA (ρ : List En) (Nx : List En → Prop) (W : Wn) : TS := fun D σ H => ∃ F0 H0 F, Gr F0 H0 F H ∧ Sat H0 F σ H ρ ∧
  (∀ ρ' σ' H' F', Nx ρ' → Gr F0 H0 F' H' → Sat H0 F' σ' H' ρ' → D.nx σ' H') ∧ (∀ v H' F', Gr F0 H0 F' H' → W.R.p F' v → D.rt v H') ∧
  (∀ ρ' σ' H' F', W.B ρ' → Gr F0 H0 F' H' → Sat H0 F' σ' H' ρ' → D.bk σ' H') ∧ (∀ ρ' σ' H' F', W.C ρ' → Gr F0 H0 F' H' → Sat H0 F' σ' H' ρ' → D.ct σ' H') ∧
  (∀ cls d ρ' σ' H' F', W.er ρ' F' cls d → Gr F0 H0 F' H' → Sat H0 F' σ' H' ρ' → W.wx cls d σ' H')
abbrev SA (X : Cx) (st : Stmt) (ρ : List En) (Nx : List En → Prop) (W : Wn) : Prop := PS X st (sA ρ Nx W)
abbrev BA (X : Cx) (sts : List Stmt) (ρ : List En) (Nx : List En → Prop) (W : Wn) : Prop := PSs X sts (sA ρ Nx W)
/-- ρ says no more than ρ' -/
inductive Le : List En → List En → Prop
  | nil : Le [] []
  | no {e : En} {ρ ρ' : List En} : Le ρ ρ' → Le (.no :: ρ) (e :: ρ')
  | same {e : En} {ρ ρ' : List En} : Le ρ ρ' → Le (e :: ρ) (e :: ρ')
  | imp {A B : As} {ρ ρ' : List En} : (∀ F v, B.p F v → A.p F v) → Le ρ ρ' → Le (.fr A :: ρ) (.fr B :: ρ')
theorem Le.refl : ∀ ρ, Le ρ ρ
  | [] => .nil
  | _ :: ρ => .same (Le.refl ρ)
theorem Le.len {ρ ρ' : List En} (h : Le ρ ρ') : ρ.length = ρ'.length := by
  induction h with
  | nil => rfl
  | no _ ih => simp [ih]
  | same _ ih => simp [ih]
  | imp _ _ ih => simp [ih]
theorem Le.own {ρ ρ' : List En} (h : Le ρ ρ') : ∀ {i : Nat} {l : List As}, ρ[i]? = some (.own l) → ρ'[i]? = some (.own l) := by
  induction h with
  | nil => intro i l e; simp at e
  | no _ ih => intro i l e; cases i with
    | zero => simp at e
    | succ i => simpa using ih (by simpa using e)
  | same _ ih => intro i l e; cases i with
    | zero => simpa using e
    | succ i => simpa using ih (by simpa using e)
  | imp _ _ ih => intro i l e; cases i with
    | zero => simp at e
    | succ i => simpa using ih (by simpa using e)
theorem Le.fr {ρ ρ' : List En} (h : Le ρ ρ') : ∀ {i : Nat} {A : As}, ρ[i]? = some (.fr A) → ∃ B, ρ'[i]? = some (.fr B) ∧ ∀ F v, B.p F v → A.p F v := by
  induction h with
  | nil => intro i l e; simp at e
  | no _ ih => intro i l e; cases i with
    | zero => simp at e
    | succ i => simpa using ih (by simpa using e)
  | @same e0 _ _ _ ih => intro i A e; cases i with
    | zero =>
      have e : e0 = .fr A := by simpa using e
      subst e
      exact ⟨A, by simp, fun _ _ h => h⟩
    | succ i => simpa using ih (by simpa using e)
  | @imp A0 B0 _ _ k _ ih => intro i A e; cases i with
    | zero =>
      have e : A0 = A := by simpa using e
      subst e
      exact ⟨B0, by simp, k⟩
    | succ i => simpa using ih (by simpa using e)
theorem Le.mine {ρ ρ' : List En} (h : Le ρ ρ') : ∀ {i : Nat} {x : En}, ρ[i]? = some x → x.Mn → ρ'[i]? = some x := by
  induction h with
  | nil => intro i l e; simp at e
  | no _ ih => intro i x e hx; cases i with
    | zero =>
      have e : En.no = x := by simpa using e
      rw [← e] at hx
      exact hx.elim
    | succ i => simpa using ih (by simpa using e) hx
  | same _ ih => intro i x e hx; cases i with
    | zero => simpa using e
    | succ i => simpa using ih (by simpa using e) hx
  | @imp A0 _ _ _ _ _ ih => intro i x e hx; cases i with
    | zero =>
      have e : En.fr A0 = x := by simpa using e
      rw [← e] at hx
      exact hx.elim
    | succ i => simpa using ih (by simpa using e) hx
theorem Sat.le {H0 F H : Hp} {σ : L2.St} {ρ ρ' : List En} (S : Sat H0 F σ H ρ') (h : Le ρ ρ') : Sat H0 F σ H ρ := by
  refine ⟨S.ex, fun i A e => ?_, fun i l e => S.own i l (h.own e), fun i j x y p e1 e2 m1 m2 => S.sep i j x y p (h.mine e1 m1) (h.mine e2 m2) m1 m2, h.len.trans S.len, fun i B e => S.ow i B (h.mine e True.intro)⟩
  obtain ⟨B, e1, k⟩ := h.fr e
  obtain ⟨v, e2, q⟩ := S.fr i B e1
  exact ⟨v, e2, k F v q⟩
theorem Sat.set {H0 F H : Hp} {σ : L2.St} {ρ : List En} (S : Sat H0 F σ H ρ) {i : Nat} {v : V} {A : As} (h : A.p F v) : Sat H0 F (σ.set i (some v)) H (ρ.set i (.fr A)) := by
  have hl := S.len
  have nj : ∀ {j : Nat} {x : En}, (ρ.set i (.fr A))[j]? = some x → x.Mn → i ≠ j ∧ ρ[j]? = some x := fun {j x} e hx => by
    by_cases hj : i = j
    · subst hj
      by_cases hi : i < ρ.length
      · rw [List.getElem?_set_self hi] at e
        have e : En.fr A = x := by simpa using e
        rw [← e] at hx
        exact hx.elim
      · rw [List.getElem?_eq_none (by rw [List.length_set]; omega)] at e
        cases e
    · rw [List.getElem?_set_ne hj] at e
      exact ⟨hj, e⟩
  refine ⟨S.ex, fun j B e => ?_, fun j l e => ?_, fun j k x y p e1 e2 m1 m2 h1 h2 => ?_, by rw [List.length_set, List.length_set, hl], fun j B e => ?_⟩
  · by_cases hj : i = j
    · subst hj
      by_cases hi : i < ρ.length
      · rw [List.getElem?_set_self hi] at e
        have e : A = B := by simpa using e
        subst e
        exact ⟨v, List.getElem?_set_self (by omega), h⟩
      · rw [List.getElem?_eq_none (by rw [List.length_set]; omega)] at e
        cases e
    · rw [List.getElem?_set_ne hj] at e
      obtain ⟨u, h1, h2⟩ := S.fr j B e
      exact ⟨u, by rw [List.getElem?_set_ne hj]; exact h1, h2⟩
  · obtain ⟨hj, e⟩ := nj e True.intro
    obtain ⟨p, xs, h1, h2⟩ := S.own j l e
    exact ⟨p, xs, by rw [List.getElem?_set_ne hj]; exact h1, h2⟩
  · obtain ⟨n1, e1⟩ := nj e1 m1
    obtain ⟨n2, e2⟩ := nj e2 m2
    rw [List.getElem?_set_ne n1] at h1
    rw [List.getElem?_set_ne n2] at h2
    exact S.sep j k x y p e1 e2 m1 m2 h1 h2
  · obtain ⟨hj, e⟩ := nj e True.intro
    obtain ⟨p, o, h1, h2⟩ := S.ow j B e
    exact ⟨p, o, by rw [List.getElem?_set_ne hj]; exact h1, h2⟩
/-- a thing of one's own is named -/
theorem Sat.setM {H0 F H : Hp} {σ : L2.St} {ρ : List En} (S : Sat H0 F σ H ρ) {i : Nat} {p : Addr} {o : HO} {x : En} (h0 : H0 p = none) (hF : F p = none) (hH : H p = some o) (hx : (∃ l xs, x = .own l ∧ o = .lst xs ∧ AllV F xs l) ∨ ∃ B, x = .ow B ∧ B.p F p o)
    (hn : ∀ j y q, ρ[j]? = some y → y.Mn → σ[j]? = some (some (.ref q)) → q ≠ p ∨ j = i) : Sat H0 F (σ.set i (some (.ref p))) H (ρ.set i x) := by
  have hl := S.len
  have at_ : ∀ {j : Nat} {y : En}, (ρ.set i x)[j]? = some y → (i = j ∧ i < ρ.length ∧ x = y) ∨ (i ≠ j ∧ ρ[j]? = some y) := fun {j y} e => by
    by_cases hj : i = j
    · subst hj
      by_cases hi : i < ρ.length
      · rw [List.getElem?_set_self hi] at e
        exact .inl ⟨rfl, hi, by simpa using e⟩
      · rw [List.getElem?_eq_none (by rw [List.length_set]; omega)] at e
        cases e
    · rw [List.getElem?_set_ne hj] at e
      exact .inr ⟨hj, e⟩
  refine ⟨S.ex, fun j B e => ?_, fun j m e => ?_, fun j k y z q e1 e2 m1 m2 h1 h2 => ?_, by rw [List.length_set, List.length_set, hl], fun j B e => ?_⟩
  · rcases at_ e with ⟨_, _, rfl⟩ | ⟨hj, e⟩
    · rcases hx with ⟨_, _, z, _⟩ | ⟨_, z, _⟩ <;> cases z
    · obtain ⟨u, h1, h2⟩ := S.fr j B e
      exact ⟨u, by rw [List.getElem?_set_ne hj]; exact h1, h2⟩
  · rcases at_ e with ⟨rfl, hi, rfl⟩ | ⟨hj, e⟩
    · rcases hx with ⟨l, xs, z, rfl, h⟩ | ⟨_, z, _⟩
      · have z : m = l := by simpa using z
        subst z
        exact ⟨p, xs, List.getElem?_set_self (by omega), hF, h0, hH, h⟩
      · cases z
    · obtain ⟨p', xs', h1, h2⟩ := S.own j m e
      exact ⟨p', xs', by rw [List.getElem?_set_ne hj]; exact h1, h2⟩
  · rcases at_ e1 with ⟨rfl, hi, rfl⟩ | ⟨hj, e1⟩
    · rcases at_ e2 with ⟨rfl, _, _⟩ | ⟨hk, e2⟩
      · rfl
      · exfalso
        rw [List.getElem?_set_self (by omega)] at h1
        have h1 : p = q := by simpa using h1
        rw [List.getElem?_set_ne hk] at h2
        rcases hn k z q e2 m2 h2 with w | w
        · exact w h1.symm
        · exact hk w.symm
    · rw [List.getElem?_set_ne hj] at h1
      rcases at_ e2 with ⟨rfl, hi, rfl⟩ | ⟨hk, e2⟩
      · exfalso
        rw [List.getElem?_set_self (by omega)] at h2
        have h2 : p = q := by simpa using h2
        rcases hn j y q e1 m1 h1 with w | w
        · exact w h2.symm
        · exact hj w.symm
      · rw [List.getElem?_set_ne hk] at h2
        exact S.sep j k y z q e1 e2 m1 m2 h1 h2
  · rcases at_ e with ⟨rfl, hi, rfl⟩ | ⟨hj, e⟩
    · rcases hx with ⟨_, _, z, _⟩ | ⟨B', z, h⟩
      · cases z
      · have z : B = B' := by simpa using z
        subst z
        exact ⟨p, o, List.getElem?_set_self (by omega), hF, h0, hH, h⟩
    · obtain ⟨p', o', h1, h2⟩ := S.ow j B e
      exact ⟨p', o', by rw [List.getElem?_set_ne hj]; exact h1, h2⟩
theorem Sat.setN {H0 F H : Hp} {σ : L2.St} {ρ : List En} (S : Sat H0 F σ H ρ) {i : Nat} {p : Addr} {xs : List V} {l : List As} (h0 : H0 p = none) (hF : F p = none) (hH : H p = some (.lst xs)) (h : AllV F xs l) (hn : ∀ j y q, ρ[j]? = some y → y.Mn → σ[j]? = some (some (.ref q)) → q ≠ p ∨ j = i) :
    Sat H0 F (σ.set i (some (.ref p))) H (ρ.set i (.own l)) := S.setM h0 hF hH (.inl ⟨l, xs, rfl, rfl, h⟩) hn
/-- a new object is no one's -/
theorem Sat.newAt {H0 F H : Hp} {σ : L2.St} {ρ : List En} (S : Sat H0 F σ H ρ) {p : Addr} (n : H p = none) (i : Nat) : ∀ (j : Nat) (y : En) (q : Addr), ρ[j]? = some y → y.Mn → σ[j]? = some (some (.ref q)) → q ≠ p ∨ j = i := fun j y q e m h => .inl fun z => by
  cases y with
  | no => exact m.elim
  | fr A => exact m.elim
  | own l =>
    obtain ⟨p', xs', h1, _, _, h4, _⟩ := S.own j l e
    rw [h1] at h
    have h : p' = q := by simpa using h
    rw [h, z, n] at h4
    cases h4
  | ow B =>
    obtain ⟨p', o', h1, _, _, h4, _⟩ := S.ow j B e
    rw [h1] at h
    have h : p' = q := by simpa using h
    rw [h, z, n] at h4
    cases h4
end Lk

set_option Elab.async false
set_option linter.all false
set_option maxRecDepth 100000
set_option maxHeartbeats 4000000
namespace Lk
open PySem PySem.Calls L2
section
variable {X : Cx} {e a b c : Expr} {es : List Expr} {ρ : List En} {A B C : As} {l m : List As} {pos : Pos} {st : Stmt} {sts s1 s2 : List Stmt} {Nx Mid : List En → Prop} {W : Wn}

/-! ### blocks and statements -/
theorem ba_nil (h : Nx ρ) : BA X [] ρ Nx W := pss_imp pss_nil fun D σ H ⟨F0, H0, F, g, S, k, _⟩ => k ρ σ H F h g S
theorem ba_cons (h : SA X st ρ (fun ρ' => BA X sts ρ' Nx W) W) : BA X (st :: sts) ρ Nx W := by
  have hu : PSs X sts (fun D σ H => ∃ ρ', BA X sts ρ' Nx W ∧ sA ρ' Nx W D σ H) := ⟨fun pins s σ H D I ⟨ρ', hb, q⟩ => hb.run pins s σ H D I q⟩
  exact pss_imp (pss_cons h hu) fun D σ H ⟨F0, H0, F, g, S, k, r⟩ => ⟨F0, H0, F, g, S, fun ρ' σ' H' F' hm g' S' => ⟨ρ', hm, F0, H0, F', g', S', k, r⟩, r⟩
theorem ba_one (h : SA X st ρ Nx W) : BA X [st] ρ Nx W := pss_one h
theorem ba_le {ρ' : List En} (h : BA X sts ρ' Nx W) (le : Le ρ' ρ) : BA X sts ρ Nx W := pss_imp h fun D σ H ⟨F0, H0, F, g, S, k⟩ => ⟨F0, H0, F, g, S.le le, k⟩
theorem sa_le {ρ' : List En} (h : SA X st ρ' Nx W) (le : Le ρ' ρ) : SA X st ρ Nx W := ps_imp h fun D σ H ⟨F0, H0, F, g, S, k⟩ => ⟨F0, H0, F, g, S.le le, k⟩
theorem ba_nx (h : BA X sts ρ Mid W) (i : ∀ ρ', Mid ρ' → Nx ρ') : BA X sts ρ Nx W := pss_imp h fun D σ H ⟨F0, H0, F, g, S, k, r⟩ => ⟨F0, H0, F, g, S, fun ρ' σ' H' F' q => k ρ' σ' H' F' (i ρ' q), r⟩
theorem sa_nx (h : SA X st ρ Mid W) (i : ∀ ρ', Mid ρ' → Nx ρ') : SA X st ρ Nx W := ps_imp h fun D σ H ⟨F0, H0, F, g, S, k, r⟩ => ⟨F0, H0, F, g, S, fun ρ' σ' H' F' q => k ρ' σ' H' F' (i ρ' q), r⟩
/-- what is said with a letter is opened -/
theorem sat_ex {H0 F H : Hp} {σ : L2.St} {ι : Type} {pre : ι → Prop} {f : ι → As} {i : Nat} (S : Sat H0 F σ H ρ) (hi : ρ[i]? = some (En.fr (exA pre f))) : ∃ x, pre x ∧ Sat H0 F σ H (ρ.set i (.fr (f x))) := by
  obtain ⟨v, h1, x, hp, h2⟩ := S.fr i _ hi
  refine ⟨x, hp, ?_⟩
  have T := S.set (i := i) (v := v) (A := f x) h2
  have e : σ.set i (some v) = σ := by
    obtain ⟨hl, hq⟩ := List.getElem?_eq_some_iff.mp h1
    rw [← hq]
    exact List.set_getElem_self hl
  rw [e] at T
  exact T
theorem ba_ex {ι : Type} {pre : ι → Prop} {f : ι → As} {i : Nat} (hi : ρ[i]? = some (En.fr (exA pre f))) (h : ∀ x, pre x → BA X sts (ρ.set i (.fr (f x))) Nx W) : BA X sts ρ Nx W := by
  refine ⟨fun pins s σ H D I ⟨F0, H0, F, g, S, k⟩ => ?_⟩
  obtain ⟨x, hp, T⟩ := sat_ex S hi
  exact (h x hp).run pins s σ H D I ⟨F0, H0, F, g, T, k⟩
/-- a list of one's own is let go -/
theorem sat_free {H0 F0 F H : Hp} {σ : L2.St} {i : Nat} (g : Gr F0 H0 F H) (S : Sat H0 F σ H ρ) (hi : ρ[i]? = some (En.own l)) : ∃ F', Gr F0 H0 F' H ∧ Sat H0 F' σ H (ρ.set i (.fr (lstA l))) := by
  obtain ⟨p, xs, h1, h2, h3, h4, h5⟩ := S.own i l hi
  have g' : Gr F0 H0 (upd F p (.lst xs)) H := g.take h3 h2 h4
  have hi' : i < ρ.length := (List.getElem?_eq_some_iff.mp hi).1
  have at_ : ∀ {j : Nat} {y : En}, (ρ.set i (.fr (lstA l)))[j]? = some y → y.Mn → i ≠ j ∧ ρ[j]? = some y := fun {j y} e m => by
    by_cases hj : i = j
    · subst hj
      rw [List.getElem?_set_self hi'] at e
      have e : En.fr (lstA l) = y := by simpa using e
      rw [← e] at m
      exact m.elim
    · rw [List.getElem?_set_ne hj] at e
      exact ⟨hj, e⟩
  refine ⟨upd F p (.lst xs), g', ⟨g'.i, fun j B e => ?_, fun j m e => ?_, fun j k y z q e1 e2 m1 m2 q1 q2 => ?_, by rw [List.length_set]; exact S.len, fun j B e => ?_⟩⟩
  · by_cases hj : i = j
    · subst hj
      rw [List.getElem?_set_self hi'] at e
      have e : lstA l = B := by simpa using e
      subst e
      exact ⟨_, h1, p, xs, rfl, upd_same, h5.mono (Ex.new h2)⟩
    · rw [List.getElem?_set_ne hj] at e
      obtain ⟨v, e1, e2⟩ := S.fr j B e
      exact ⟨v, e1, B.mono (Ex.new h2) e2⟩
  · obtain ⟨hj, e⟩ := at_ e True.intro
    obtain ⟨q, ys, e1, e2, e3, e4, e5⟩ := S.own j m e
    have nq : q ≠ p := fun z => hj (S.sep i j _ _ p hi e True.intro True.intro h1 (z ▸ e1))
    exact ⟨q, ys, e1, by rw [upd_ne nq]; exact e2, e3, e4, e5.mono (Ex.new h2)⟩
  · obtain ⟨n1, e1⟩ := at_ e1 m1
    obtain ⟨n2, e2⟩ := at_ e2 m2
    exact S.sep j k y z q e1 e2 m1 m2 q1 q2
  · obtain ⟨hj, e⟩ := at_ e True.intro
    obtain ⟨q, o, e1, e2, e3, e4, e5⟩ := S.ow j B e
    have nq : q ≠ p := fun z => hj (S.sep i j _ _ p hi e True.intro True.intro h1 (z ▸ e1))
    exact ⟨q, o, e1, by rw [upd_ne nq]; exact e2, e3, e4, B.mono (Ex.new h2) e5⟩
theorem ba_free {i : Nat} (hi : ρ[i]? = some (En.own l)) (h : BA X sts (ρ.set i (.fr (lstA l))) Nx W) : BA X sts ρ Nx W := by
  refine ⟨fun pins s σ H D I ⟨F0, H0, F, g, S, k⟩ => ?_⟩
  obtain ⟨F', g', T⟩ := sat_free g S hi
  exact h.run pins s σ H D I ⟨F0, H0, F', g', T, k⟩
theorem sa_free {i : Nat} (hi : ρ[i]? = some (En.own l)) (h : SA X st (ρ.set i (.fr (lstA l))) Nx W) : SA X st ρ Nx W := by
  refine ⟨fun pins s σ H D I ⟨F0, H0, F, g, S, k⟩ => ?_⟩
  obtain ⟨F', g', T⟩ := sat_free g S hi
  exact h.run pins s σ H D I ⟨F0, H0, F', g', T, k⟩
/-- name = e -/
theorem sa_set (i : Nat) {x : Str} {pos' : Pos} (hN : X.N.Nodup) (he : EA X e ρ A) (k : Nx (ρ.set i (.fr A))) (hi : X.N[i]? = some x := by rfl) (hx : Loc X.env.scope x := by first | exact .inl rfl | exact .inr rfl) (hs : swapsWith e (some (.Name x pos')) pos.line X.env = pure false := by rfl)
    (hf : X.fn x = true ∨ X.env.scope.names.lookup x = some .local := by first | exact .inl rfl | exact .inr rfl | assumption) : SA X (.Assign [.Name x pos'] e pos) ρ Nx W :=
  ps_imp (ps_set hN hi hx he hs hf) fun D σ H ⟨F0, H0, F, g, S, q, _⟩ => ⟨H0, F, S, fun v H' F' g' hv => q _ _ H' F' k (g.trans g') ((S.gr g').set hv)⟩
/-- name = a new list -/
theorem sa_setN (i : Nat) {x : Str} {pos' : Pos} (hN : X.N.Nodup) (he : EN X e ρ l) (k : Nx (ρ.set i (.own l))) (hi : X.N[i]? = some x := by rfl) (hx : Loc X.env.scope x := by first | exact .inl rfl | exact .inr rfl) (hs : swapsWith e (some (.Name x pos')) pos.line X.env = pure false := by rfl)
    (hf : X.fn x = true ∨ X.env.scope.names.lookup x = some .local := by first | exact .inl rfl | exact .inr rfl | assumption) : SA X (.Assign [.Name x pos'] e pos) ρ Nx W :=
  ps_imp (ps_set hN hi hx he hs hf) fun D σ H ⟨F0, H0, F, g, S, q, _⟩ => ⟨H0, F, S, fun p xs H' F' g' n1 n2 hp hv => q _ _ H' F' k (g.trans g') ((S.gr g').setN (g.h.none n1) n2 hp hv (S.newAt n1 _))⟩
theorem sa_ret (he : EA X e ρ W.R) : SA X (.Return (some e) pos) ρ Nx W := ps_imp (ps_ret he) fun D σ H ⟨F0, H0, F, g, S, _, q, _⟩ => ⟨H0, F, S, fun v H' F' g' hv => q v H' F' (g.trans g') hv⟩
theorem sa_retN (h : ∀ F, W.R.p F .non) : SA X (.Return none pos) ρ Nx W := ps_imp ps_retN fun D σ H ⟨F0, H0, F, g, S, _, q, _⟩ => q .non H F g (h F)
theorem sa_if {k : Bool} (hc : ET X c ρ k) (h1 : k = true → BA X s1 ρ Nx W) (h2 : k = false → BA X s2 ρ Nx W) : SA X (.If c s1 s2 pos) ρ Nx W := by
  have p1 : PSs X s1 (fun D σ H => k = true ∧ sA ρ Nx W D σ H) := ⟨fun pins s σ H D I ⟨z, q⟩ => (h1 z).run pins s σ H D I q⟩
  have p2 : PSs X s2 (fun D σ H => k = false ∧ sA ρ Nx W D σ H) := ⟨fun pins s σ H D I ⟨z, q⟩ => (h2 z).run pins s σ H D I q⟩
  refine ps_imp (ps_if hc p1 p2) fun D σ H ⟨F0, H0, F, g, S, q⟩ => ⟨H0, F, S, fun H1 F1 g1 => ?_⟩
  cases k with
  | true => exact ⟨rfl, F0, H0, F1, g.trans g1, S.gr g1, q⟩
  | false => exact ⟨rfl, F0, H0, F1, g.trans g1, S.gr g1, q⟩
theorem sa_expr (he : EW X e ρ A) (k : Nx ρ) (hs : swapsWith e none pos.line X.env = pure false := by rfl) : SA X (.Expr e pos) ρ Nx W :=
  ps_imp (ps_expr he hs) fun D σ H ⟨F0, H0, F, g, S, q, _⟩ => ⟨H0, F, S, fun v H' F' g' _ => q ρ σ H' F' k (g.trans g') (S.gr g')⟩
theorem sa_pass (k : Nx ρ) : SA X (.Pass pos) ρ Nx W := ps_imp ps_pass fun D σ H ⟨F0, H0, F, g, S, q, _⟩ => q ρ σ H F k g S
theorem sa_never (h : False) : SA X st ρ Nx W := h.elim
/-- a thing of one's own is written -/
theorem sat_wrM {H0 F0 F H : Hp} {σ : L2.St} {i : Nat} {p : Addr} {o' : HO} {x x' : En} (g : Gr F0 H0 F H) (S : Sat H0 F σ H ρ) (hi : ρ[i]? = some x) (hm : x.Mn) (hp : σ[i]? = some (some (V.ref p))) (hv : (∃ l ys, x' = .own l ∧ o' = .lst ys ∧ AllV F ys l) ∨ ∃ B, x' = .ow B ∧ B.p F p o') :
    Gr F0 H0 F (upd H p o') ∧ Sat H0 F σ (upd H p o') (ρ.set i x') := by
  obtain ⟨h2, h3⟩ : F p = none ∧ H0 p = none := by
    cases x with
    | no => exact hm.elim
    | fr A => exact hm.elim
    | own l =>
      obtain ⟨p', xs, h1, h2, h3, _⟩ := S.own i l hi
      rw [h1] at hp
      have e : p' = p := by simpa using hp
      rw [← e]
      exact ⟨h2, h3⟩
    | ow B =>
      obtain ⟨p', xs, h1, h2, h3, _⟩ := S.ow i B hi
      rw [h1] at hp
      have e : p' = p := by simpa using hp
      rw [← e]
      exact ⟨h2, h3⟩
  have x1 : Ex F (upd H p o') := fun a o z => by
    rw [upd_ne (ne_of_none z h2)]
    exact S.ex a o z
  have x2 : Ex H0 (upd H p o') := fun a o z => by
    rw [upd_ne (ne_of_none z h3)]
    exact g.h a o z
  have hi' : i < ρ.length := (List.getElem?_eq_some_iff.mp hi).1
  have xm : x'.Mn := by rcases hv with ⟨_, _, rfl, _⟩ | ⟨_, rfl, _⟩ <;> exact True.intro
  have at_ : ∀ {j : Nat} {y : En}, (ρ.set i x')[j]? = some y → (i = j ∧ x' = y) ∨ (i ≠ j ∧ ρ[j]? = some y) := fun {j y} e => by
    by_cases hj : i = j
    · subst hj
      rw [List.getElem?_set_self hi'] at e
      exact .inl ⟨rfl, by simpa using e⟩
    · rw [List.getElem?_set_ne hj] at e
      exact .inr ⟨hj, e⟩
  refine ⟨⟨g.f, x2, x1, g.n⟩, ⟨x1, fun j B e => ?_, fun j m' e => ?_, fun j k m1 n1 q e1 e2 y1 y2 q1 q2 => ?_, by rw [List.length_set]; exact S.len, fun j B e => ?_⟩⟩
  · rcases at_ e with ⟨_, rfl⟩ | ⟨_, e⟩
    · exact xm.elim
    · exact S.fr j B e
  · rcases at_ e with ⟨rfl, rfl⟩ | ⟨hj, e⟩
    · rcases hv with ⟨l, ys, z, rfl, h⟩ | ⟨_, z, _⟩
      · have z : m' = l := by simpa using z
        subst z
        exact ⟨p, ys, hp, h2, h3, upd_same, h⟩
      · cases z
    · obtain ⟨q, zs, e1, e2, e3, e4, e5⟩ := S.own j m' e
      have nq : q ≠ p := fun z => hj (S.sep i j _ _ p hi e hm True.intro hp (z ▸ e1))
      exact ⟨q, zs, e1, e2, e3, by rw [upd_ne nq]; exact e4, e5⟩
  · have back : ∀ {j : Nat} {y : En}, (ρ.set i x')[j]? = some y → y.Mn → ∃ z, ρ[j]? = some z ∧ z.Mn := fun {j y} e m => by
      rcases at_ e with ⟨rfl, _⟩ | ⟨_, e⟩
      · exact ⟨x, hi, hm⟩
      · exact ⟨y, e, m⟩
    obtain ⟨a1, z1, w1⟩ := back e1 y1
    obtain ⟨a2, z2, w2⟩ := back e2 y2
    exact S.sep j k a1 a2 q z1 z2 w1 w2 q1 q2
  · rcases at_ e with ⟨rfl, rfl⟩ | ⟨hj, e⟩
    · rcases hv with ⟨_, _, z, _⟩ | ⟨B', z, h⟩
      · cases z
      · have z : B = B' := by simpa using z
        subst z
        exact ⟨p, o', hp, h2, h3, upd_same, h⟩
    · obtain ⟨q, o, e1, e2, e3, e4, e5⟩ := S.ow j B e
      have nq : q ≠ p := fun z => hj (S.sep i j _ _ p hi e hm True.intro hp (z ▸ e1))
      exact ⟨q, o, e1, e2, e3, by rw [upd_ne nq]; exact e4, e5⟩
theorem sat_wr {H0 F0 F H : Hp} {σ : L2.St} {i : Nat} {p : Addr} {ys : List V} (g : Gr F0 H0 F H) (S : Sat H0 F σ H ρ) (hi : ρ[i]? = some (En.own l)) (hp : σ[i]? = some (some (V.ref p))) (hv : AllV F ys m) :
    Gr F0 H0 F (upd H p (.lst ys)) ∧ Sat H0 F σ (upd H p (.lst ys)) (ρ.set i (.own m)) := sat_wrM g S hi True.intro hp (.inl ⟨m, ys, rfl, rfl, hv⟩)
/-- x.append(e), x a list of one's own: hb by pe_bm .. (pv i) (pa_cons _ pa_nil) -/
theorem sa_app (i : Nat) (hr : ρ[i]? = some (En.own l)) (hb : PE X e (tBM X.K "list" rAppend (tVar i) (tCons (tA ρ A) tNil))) (hz : l.length < sizeLine) (k : Nx (ρ.set i (.own (l ++ [A])))) (hsw : swapsWith e none pos.line X.env = pure false := by rfl) :
    SA X (.Expr e pos) ρ Nx W := by
  refine ps_imp (ps_expr hb hsw) fun D σ H ⟨F0, H0, F, g, S, q, _⟩ => ?_
  obtain ⟨p, xs, h1, h2, h3, h4, h5⟩ := S.own i l hr
  refine ⟨_, h1, .inl ⟨rfl, _, SqL.of h4⟩, H0, F, S, fun v H' F' g' hv' => ?_⟩
  have g2 := g.trans g'
  refine ⟨p, xs, v, rfl, rfl, g'.h p _ h4, by rw [h5.length]; exact hz, ?_⟩
  obtain ⟨g3, S3⟩ := sat_wr g2 (S.gr g') hr h1 ((h5.mono g'.f).snoc hv')
  exact q _ σ _ F' k g3 S3

/-! ### calls -/
def spP (l : List As) (A : As) : Sp := fun vs H Q _ => ∃ F, Ex F H ∧ AllV F vs l ∧ ∀ v H' F', Gr F H F' H' → A.p F' v → Q v H'
def spX {ι : Type} (pre : ι → Prop) (l : ι → List As) (A : ι → As) : Sp := fun vs H Q E => ∃ i, pre i ∧ spP (l i) (A i) vs H Q E
/-- a def of the module that keeps a promise -/
structure Df (P : Program) (w : World) (K : PySem.W.Frag) (mg : Str → Option Value) (base : Heap) (k : Nat) (x : Str) (ps : List Str) (sp : Sp) : Prop where
  ex : ∃ f fd, FnOk P w K mg base CX0 k f fd ps sp ∧ mg x = some (.ref f) ∧ PySem.W.keepIn K (.ref f) = true ∧ Binds K fd ps []
theorem Df.mono {P : Program} {w : World} {K : PySem.W.Frag} {mg : Str → Option Value} {base : Heap} {j k : Nat} {x : Str} {ps : List Str} {sp : Sp} (D : Df P w K mg base j x ps sp) (h : j ≤ k) : Df P w K mg base k x ps sp :=
  let ⟨f, fd, h1, h2⟩ := D.ex
  ⟨f, fd, h1.mono h, h2⟩
theorem ea_call {k : Nat} {x : Str} {ps : List Str} {ι : Type} {pre : ι → Prop} {l : ι → List As} {A : ι → As} {p : Pos} (D : Df X.prog X.w X.K X.mg X.base k x ps (spX pre l A)) (hr : Room k X.A) (i : ι) (hp : pre i) (ha : EAs X (e :: es) ρ (l i)) (hg : Gl X x := by rfl)
    (hdb : (x == ("__debug__" : Str)) = false := by decide) (he : starEach (e :: es) X.env = (false, eval e X.env) :: starEach es X.env := by rfl) (hpl : (backTo pos (starEach es X.env)).any (·.1) = false := by rfl) : EA X (.Call (.Name x p) (e :: es) [] pos) ρ (A i) := by
  obtain ⟨f, fd, G, hm, hk, hb⟩ := D.ex
  refine pe_imp (pe_call G hr hg hm hk hb .nil pass0 ha (hdb := hdb) (he := he) (hpl := hpl)) fun σ H Q ⟨H0, F, S, q⟩ => ⟨H0, F, S, fun vs H1 F1 g1 h1 => ?_⟩
  show spX pre l A (vs ++ []) H1 Q E0
  rw [List.append_nil]
  exact ⟨i, hp, F1, g1.i, h1, fun v H' F' g hv => q v H' F' (g1.trans g) hv⟩

/-! ### loops -/
def tbL (I : Nat → List En → Prop) (l : List As) (j : Nat) (W : Wn) (Nx : List En → Prop) : TS := fun D σ H => ∃ n A ρ', l[n]? = some A ∧ I n ρ' ∧ sA (ρ'.set j (.fr A)) (fun ρ2 => ∃ ρ3, I (n + 1) ρ3 ∧ Le ρ3 ρ2) { W with B := Nx, C := fun ρ2 => ∃ ρ3, I (n + 1) ρ3 ∧ Le ρ3 ρ2 } D σ H
def tbR (I : Nat → List En → Prop) (z : Nat) (j : Nat) (W : Wn) (Nx : List En → Prop) : TS := fun D σ H => ∃ (n : Nat) (ρ' : List En), n < z ∧ I n ρ' ∧ sA (ρ'.set j (.fr (int (n : Int)))) (fun ρ2 => ∃ ρ3, I (n + 1) ρ3 ∧ Le ρ3 ρ2) { W with B := Nx, C := fun ρ2 => ∃ ρ3, I (n + 1) ρ3 ∧ Le ρ3 ρ2 } D σ H
/-- for x in a list that stays -/
theorem sa_for (j : Nat) {x : Str} {px : Pos} {it : Expr} (I : Nat → List En → Prop) (hp : PassesOwn (model X.prog X.w) X.A X.env X.xe) (hcalm : X.calm = true) (hN : X.N.Nodup) (hi : EA X it ρ (lstA l)) (h0 : ∃ ρ0, I 0 ρ0 ∧ Le ρ0 ρ)
    (hs : ∀ n A ρ', l[n]? = some A → I n ρ' → BA X sts (ρ'.set j (.fr A)) (fun ρ2 => ∃ ρ3, I (n + 1) ρ3 ∧ Le ρ3 ρ2) { W with B := Nx, C := fun ρ2 => ∃ ρ3, I (n + 1) ρ3 ∧ Le ρ3 ρ2 })
    (hd : ∀ ρ', I l.length ρ' → Nx ρ') (hj : X.N[j]? = some x := by rfl) (hx : Loc X.env.scope x := by first | exact .inl rfl | exact .inr rfl) (hf : X.fn x = true ∨ X.env.scope.names.lookup x = some .local := by first | exact .inl rfl | exact .inr rfl | assumption)
    (hfo : ∀ z, foldedSetIterable it X.env z = pure z := by intro _; rfl) :
    SA X (.For (.Name x px) it sts [] pos) ρ Nx W := by
  have hb : PSs X sts (tbL I l j W Nx) := ⟨fun pins s σ H D I' ⟨n, A, ρ', h1, h2, q⟩ => (hs n A ρ' h1 h2).run pins s σ H D I' q⟩
  refine ps_imp (ps_for hp hcalm (pi_list hi) (pg_name hN hj hx hf) hb hfo) fun D σ H ⟨F0, H0, F, g, S, q1, q2, q3, q4, q5⟩ => ?_
  refine ⟨H0, F, S, fun v H1 F1 g1 ⟨a, xs, ev, ha, hall⟩ => ⟨a, ev, ⟨xs, SqL.of (g1.i a _ ha)⟩, ?_⟩⟩
  have gA := g.trans g1
  refine for_list (K := X.K) (a := a) (xs := xs) (g := gName j) (tb := tbL I l j W Nx) (D := D) (fun n σ' H' => ∃ ρ' F', I n ρ' ∧ Gr F0 H0 F' H' ∧ Ex F1 F' ∧ Sat H0 F' σ' H' ρ') ?_ (fun n σ' H' _ ⟨ρ', F', _, g', x', _⟩ => SqL.of (g'.i a _ (x' a _ ha))) ?_ ?_
  · obtain ⟨ρ0, i0, le⟩ := h0
    exact ⟨ρ0, F1, i0, gA, Ex.refl F1, (S.gr g1).le le⟩
  · rintro n y σ' H' hy ⟨ρ', F', hI, g', x', S'⟩
    have hn : n < l.length := by
      have z := (List.getElem?_eq_some_iff.mp hy).1
      rw [hall.length] at z
      exact z
    obtain ⟨u, hu, hA⟩ := hall.get (List.getElem?_eq_getElem hn)
    rw [hy] at hu
    have e : y = u := by simpa using hu
    subst e
    have fin : ∀ ρ2 σ2 H2 F2, (∃ ρ3, I (n + 1) ρ3 ∧ Le ρ3 ρ2) → Gr F0 H0 F2 H2 → Ex F' F2 → Sat H0 F2 σ2 H2 ρ2 → ∃ ρ' F', I (n + 1) ρ' ∧ Gr F0 H0 F' H2 ∧ Ex F1 F' ∧ Sat H0 F' σ2 H2 ρ' := fun ρ2 σ2 H2 F2 ⟨ρ3, i3, le⟩ g2 x2 S2 => ⟨ρ3, F2, i3, g2, x'.trans x2, S2.le le⟩
    -- the body, from F'
    refine ⟨n, l[n], ρ', List.getElem?_eq_getElem hn, hI, F', H0, F', ?_, S'.set (l[n].mono x' hA), ?_, ?_, ?_, ?_, ?_⟩
    · exact ⟨Ex.refl F', g'.h, g'.i, fun a o z1 z2 => z2⟩
    · intro ρ2 σ2 H2 F2 hm g2 S2
      exact fin ρ2 σ2 H2 F2 hm ⟨g'.f.trans g2.f, g2.h, g2.i, fun a o z1 z2 => g2.n a o z1 (g'.n a o z1 z2)⟩ g2.f S2
    · intro v H2 F2 g2 hv
      exact q2 v H2 F2 ⟨g'.f.trans g2.f, g2.h, g2.i, fun a o z1 z2 => g2.n a o z1 (g'.n a o z1 z2)⟩ hv
    · intro ρ2 σ2 H2 F2 hm g2 S2
      exact q1 ρ2 σ2 H2 F2 hm ⟨g'.f.trans g2.f, g2.h, g2.i, fun a o z1 z2 => g2.n a o z1 (g'.n a o z1 z2)⟩ S2
    · intro ρ2 σ2 H2 F2 hm g2 S2
      exact fin ρ2 σ2 H2 F2 hm ⟨g'.f.trans g2.f, g2.h, g2.i, fun a o z1 z2 => g2.n a o z1 (g'.n a o z1 z2)⟩ g2.f S2
    · intro cls d ρ2 σ2 H2 F2 he g2 S2
      exact q5 cls d ρ2 σ2 H2 F2 he ⟨g'.f.trans g2.f, g2.h, g2.i, fun a o z1 z2 => g2.n a o z1 (g'.n a o z1 z2)⟩ S2
  · rintro σ' H' ⟨ρ', F', hI, g', x', S'⟩
    rw [hall.length] at hI
    exact q1 ρ' σ' H' F' (hd ρ' hI) g' S'
/-- for k in range(n) -/
theorem sa_forR (j : Nat) {x : Str} {px p1 : Pos} {it : Expr} {z : Int} (I : Nat → List En → Prop) (hp : PassesOwn (model X.prog X.w) X.A X.env X.xe) (hcalm : X.calm = true) (hN : X.N.Nodup) (hm : X.mg "range" = none) (hi : EW X it ρ (int z)) (hz : -(2 ^ 62) ≤ z ∧ z < 2 ^ 62) (h0 : ∃ ρ0, I 0 ρ0 ∧ Le ρ0 ρ)
    (hs : ∀ (n : Nat) ρ', n < z.toNat → I n ρ' → BA X sts (ρ'.set j (.fr (int (n : Int)))) (fun ρ2 => ∃ ρ3, I (n + 1) ρ3 ∧ Le ρ3 ρ2) { W with B := Nx, C := fun ρ2 => ∃ ρ3, I (n + 1) ρ3 ∧ Le ρ3 ρ2 })
    (hd : ∀ ρ', I z.toNat ρ' → Nx ρ') (hj : X.N[j]? = some x := by rfl) (hx : Loc X.env.scope x := by first | exact .inl rfl | exact .inr rfl) (hf : X.fn x = true ∨ X.env.scope.names.lookup x = some .local := by first | exact .inl rfl | exact .inr rfl | assumption)
    (hg : Gl X "range" := by rfl) (hse : starEach [it] X.env = [(false, eval it X.env)] := by rfl) (hfo : ∀ z, foldedSetIterable (.Call (.Name "range" p1) [it] [] pos) X.env z = pure z := by intro _; rfl) {pos' : Pos} :
    SA X (.For (.Name x px) (.Call (.Name "range" p1) [it] [] pos) sts [] pos') ρ Nx W := by
  have hb : PSs X sts (tbR I z.toNat j W Nx) := ⟨fun pins s σ H D I' ⟨n, ρ', h1, h2, q⟩ => (hs n ρ' h1 h2).run pins s σ H D I' q⟩
  refine ps_imp (ps_for hp hcalm (pi_range1 hg hm (pa_cons hi pa_nil hse) hse) (pg_name hN hj hx hf) hb hfo) fun D σ H ⟨F0, H0, F, g, S, q1, q2, q3, q4, q5⟩ => ?_
  refine ⟨H0, F, S, fun v H1 F1 g1 ev => ?_⟩
  have ev : v = .int z := ev
  subst ev
  refine ⟨z, rfl, hz.1, hz.2, ?_⟩
  have gA := g.trans g1
  refine for_range (lo := 0) (n := z.toNat) (g := gName j) (tb := tbR I z.toNat j W Nx) (D := D) (fun n σ' H' => ∃ ρ' F', I n ρ' ∧ Gr F0 H0 F' H' ∧ Sat H0 F' σ' H' ρ') ?_ ?_ ?_
  · obtain ⟨ρ0, i0, le⟩ := h0
    exact ⟨ρ0, F1, i0, gA, (S.gr g1).le le⟩
  · rintro n σ' H' hn ⟨ρ', F', hI, g', S'⟩
    have e0 : (0 : Int) + (n : Int) = (n : Int) := Int.zero_add _
    show tbR I z.toNat j W Nx _ (σ'.set j (some (.int ((0 : Int) + (n : Int))))) H'
    rw [e0]
    refine ⟨n, ρ', hn, hI, F0, H0, F', g', S'.set rfl, ?_, q2, q1, ?_, q5⟩
    · intro ρ2 σ2 H2 F2 ⟨ρ3, i3, le⟩ g2 S2
      exact ⟨ρ3, F2, i3, g2, S2.le le⟩
    · intro ρ2 σ2 H2 F2 ⟨ρ3, i3, le⟩ g2 S2
      exact ⟨ρ3, F2, i3, g2, S2.le le⟩
  · rintro σ' H' ⟨ρ', F', hI, g', S'⟩
    exact q1 ρ' σ' H' F' (hd ρ' hI) g' S'
end

/-! ### a def -/
def entry (N : List Str) (l : List As) : List En := l.map En.fr ++ List.replicate (N.length - l.length) En.no
theorem sat_start {N ps : List Str} {vs : List V} {F H : Hp} {l : List As} (e : Ex F H) (h : AllV F vs l) : Sat H F (L2.start N vs) H (entry N l) := by
  have hl := h.length
  have nm : ∀ {i : Nat} {y : En}, (entry N l)[i]? = some y → ¬ y.Mn := fun {i y} ei m => by
    unfold entry at ei
    rcases List.mem_append.mp (List.mem_of_getElem? ei) with z | z
    · obtain ⟨A, _, rfl⟩ := List.mem_map.mp z
      exact m
    · rw [(List.mem_replicate.mp z).2] at m
      exact m
  refine ⟨e, fun i A ei => ?_, fun i m ei => (nm ei True.intro).elim, fun i j m n p ei _ m1 => (nm ei m1).elim, ?_, fun i B ei => (nm ei True.intro).elim⟩
  · by_cases hi : i < l.length
    · unfold entry at ei
      rw [List.getElem?_append_left (by simpa using hi), List.getElem?_map] at ei
      cases q : l[i]? with
      | none =>
        rw [q] at ei
        cases ei
      | some B =>
        rw [q] at ei
        have e2 : B = A := by simpa using ei
        subst e2
        obtain ⟨v, h1, h2⟩ := h.get q
        refine ⟨v, ?_, h2⟩
        unfold L2.start
        rw [List.getElem?_append_left (by simpa [hl] using hi), List.getElem?_map, h1]
        rfl
    · unfold entry at ei
      rw [List.getElem?_append_right (by simpa using Nat.le_of_not_lt hi)] at ei
      have z := List.mem_replicate.mp (List.mem_of_getElem? ei)
      cases z.2
  · unfold entry L2.start
    simp [hl]
theorem fn_ok {P : Program} {w : World} {K : PySem.W.Frag} {mg : Str → Option Value} {base : Heap} {x qual : Str} {st : Stmt} {f : Addr} {fd : FuncData} {N ps : List Str} {k : Nat} {ι : Type} {pre : ι → Prop} {l : ι → List As} {A : ι → As} (F : Fun K x qual st f fd) (S : FnScope N ps (defScope st)) (hl : ∀ i, pre i → (l i).length = ps.length)
    (hb : ∀ (i : ι) (cdv : Value) (B : Around) (outer : List Env) (s : Shared) (H : Hp) (E : XK), pre i → Room k (B.deeper (PyProof.Rows.envOfC qual (defScope st) s.heap.objs.size f cdv)) →
      BA (cxOf CX0 P w K mg base N qual (defScope st) f cdv B outer s H E).nox (defBody st) (entry N (l i)) (fun _ => ∀ F, (A i).p F .non) { R := A i }) : FnOk P w K mg base CX0 (k + 1) f fd ps (spX pre l A) := by
  refine F.ok S (fun vs H Q E h => ?_) (fun cdv B outer s H vs Q E hr h => ?_)
  · obtain ⟨i, hp, F, e, hv, _⟩ := h
    rw [hv.length, hl i hp]
  · obtain ⟨i, hp, F, e, hv, q⟩ := h
    refine ⟨_, hb i cdv B outer s H E hp hr, F, H, F, .refl e, sat_start (ps := ps) e hv, ?_, ?_, ?_, ?_, ?_⟩
    · intro ρ' σ' H' F' hn g' S'
      exact q .non H' F' g' (hn F')
    · intro v H' F' g' hv
      exact q v H' F' g' hv
    · intro _ _ _ _ z
      exact z.elim
    · intro _ _ _ _ z
      exact z.elim
    · intro _ _ _ _ _ _ z
      exact z.elim
end Lk

set_option Elab.async false
set_option linter.all false
set_option maxRecDepth 100000
set_option maxHeartbeats 4000000
namespace Lk
open PySem PySem.Calls L2
/-! ### comprehensions -/
def wipeE (ρ : List En) : List Nat → List En
  | [] => ρ
  | v :: vs => (wipeE ρ vs).set v .no
theorem wipeE_length (ρ : List En) : ∀ vs, (wipeE ρ vs).length = ρ.length
  | [] => rfl
  | v :: vs => by unfold wipeE; rw [List.length_set, wipeE_length ρ vs]
theorem wipeE_get {ρ : List En} {i : Nat} {x : En} (hx : x ≠ .no) : ∀ {vs : List Nat}, (wipeE ρ vs)[i]? = some x → ρ[i]? = some x ∧ i ∉ vs
  | [], h => ⟨h, by simp⟩
  | v :: vs, h => by
    unfold wipeE at h
    by_cases hi : v = i
    · subst hi
      by_cases hv : v < (wipeE ρ vs).length
      · rw [List.getElem?_set_self hv] at h
        exact absurd (Option.some.inj h).symm hx
      · rw [List.getElem?_eq_none (by simpa using hv)] at h; cases h
    · rw [List.getElem?_set_ne hi] at h
      obtain ⟨h1, h2⟩ := wipeE_get hx h
      exact ⟨h1, by simp only [List.mem_cons, not_or]; exact ⟨fun e => hi e.symm, h2⟩⟩
theorem wipe_get {σ : L2.St} {i : Nat} : ∀ {vs : List Nat}, i ∉ vs → (wipe σ vs)[i]? = σ[i]?
  | [], _ => rfl
  | v :: vs, h => by
    unfold wipe
    have h1 : v ≠ i := fun e => h (e ▸ List.mem_cons_self)
    rw [List.getElem?_set_ne h1]
    exact wipe_get fun z => h (List.mem_cons_of_mem _ z)
theorem Sat.wipe {H0 F H : Hp} {σ : L2.St} {ρ : List En} (S : Sat H0 F σ H ρ) (vs : List Nat) : Sat H0 F (L2.wipe σ vs) H (wipeE ρ vs) := by
  have mn : ∀ {i : Nat} {y : En}, (wipeE ρ vs)[i]? = some y → y.Mn → ρ[i]? = some y ∧ i ∉ vs := fun {i y} e m => wipeE_get (fun z => by rw [z] at m; exact m) e
  refine ⟨S.ex, fun i A e => ?_, fun i l e => ?_, fun i j y z p e1 e2 m1 m2 h1 h2 => ?_, by rw [wipeE_length, wipe_length]; exact S.len, fun i B e => ?_⟩
  · obtain ⟨h1, h2⟩ := wipeE_get (x := En.fr A) (fun z => by cases z) e
    rw [wipe_get h2]
    exact S.fr i A h1
  · obtain ⟨h1, h2⟩ := mn e True.intro
    rw [wipe_get h2]
    exact S.own i l h1
  · obtain ⟨a1, a2⟩ := mn e1 m1
    obtain ⟨b1, b2⟩ := mn e2 m2
    rw [wipe_get a2] at h1
    rw [wipe_get b2] at h2
    exact S.sep i j y z p a1 b1 m1 m2 h1 h2
  · obtain ⟨h1, h2⟩ := mn e True.intro
    rw [wipe_get h2]
    exact S.ow i B h1
theorem wipe_set {σ : L2.St} {j : Nat} {x : Option V} : ∀ {vs : List Nat}, j ∈ vs → L2.wipe ((L2.wipe σ vs).set j x) vs = L2.wipe σ vs := by
  have idem : ∀ (vs : List Nat) (τ : L2.St) (i : Nat), i ∈ vs → (L2.wipe τ vs)[i]? = if i < τ.length then some none else none := by
    intro vs
    induction vs with
    | nil => intro τ i h; simp at h
    | cons v vs ih =>
      intro τ i h
      unfold L2.wipe
      by_cases e : v = i
      · subst e
        rw [List.getElem?_set]
        simp [wipe_length]
      · rw [List.getElem?_set_ne e]
        exact ih τ i ((List.mem_cons.mp h).resolve_left fun z => e z.symm)
  intro vs hj
  refine List.ext_getElem? fun i => ?_
  by_cases hi : i ∈ vs
  · rw [idem vs _ i hi, idem vs _ i hi, List.length_set, wipe_length]
  · rw [wipe_get hi, List.getElem?_set_ne (fun z => hi (by rw [← z]; exact hj))]
section
variable {α : Type}
/-- the test and the element of a comprehension over data -/
def tTc (ρ : α → List En) (l : List α) (p : α → Bool) : TT := fun σ H Q => ∃ a, a ∈ l ∧ tTs (ρ a) (p a) σ H Q
def tEc (ρ : α → List En) (l : List α) (p : α → Bool) (g : α → As) : TE := fun σ H Q => ∃ a, a ∈ l ∧ p a = true ∧ tA (ρ a) (g a) σ H Q
theorem pts_c {X : Cx} {ifs : List Expr} {ρ : α → List En} {l : List α} {p : α → Bool} (h : ∀ a ∈ l, PTs X ifs (tTs (ρ a) (p a))) : PTs X ifs (tTc ρ l p) := ⟨fun pins s σ H Q I ⟨a, ha, q⟩ => (h a ha).run pins s σ H Q I q⟩
theorem pe_c {X : Cx} {e : Expr} {ρ : α → List En} {l : List α} {p : α → Bool} {g : α → As} (h : ∀ a ∈ l, p a = true → EA X e (ρ a) (g a)) : PE X e (tEc ρ l p g) := ⟨fun pins s σ H Q I ⟨a, ha, hp, q⟩ => (h a ha hp).run pins s σ H Q I q⟩
theorem pts_yes {X : Cx} {ρ : List En} : PTs X [] (tTs ρ true) := ⟨fun pins s σ H Q I ⟨H0, F, S, k⟩ => pts_nil.run pins s σ H Q I (k H F (.refl S.ex))⟩
/-- the state of the walk through a comprehension: the list so far at D -/
structure Lcs (F1 H1 : Hp) (D : Addr) (l : List α) (p : α → Bool) (g : α → As) (i : Nat) (H' : Hp) : Prop where
  ex : ∃ F' acc, Gr F1 H1 F' H' ∧ F' D = none ∧ H' D = some (.lst acc) ∧ AllV F' acc (((l.take i).filter p).map g)
theorem lcs_turn {F1 H1 : Hp} {D : Addr} {l : List α} {p : α → Bool} {g : α → As} {i : Nat} {H' H0 H00 F00 : Hp} {σ : L2.St} {j : Nat} {ρ : List En} {enc : α → As} {x : V} {vs : List Nat} {a : α} (hj : j ∈ vs) (ha : l[i]? = some a) (hz : l.length < sizeLine)
    (S : Sat H0 F1 σ H1 ρ) (hx : (enc a).p F1 x) (L : Lcs F1 H1 D l p g i H') (hD : H1 D = none) :
    gName j x (L2.wipe σ vs) H' fun σ2 H2 => L2.wipe σ2 vs = L2.wipe σ vs ∧ tTc (fun a => (wipeE ρ vs).set j (.fr (enc a))) l p σ2 H2 fun b H3 =>
      if b = true then tEc (fun a => (wipeE ρ vs).set j (.fr (enc a))) l p g σ2 H3 fun y H4 => ∃ acc, H4 D = some (.lst acc) ∧ acc.length < sizeLine ∧ Lcs F1 H1 D l p g (i + 1) (upd H4 D (.lst (acc ++ [y]))) else Lcs F1 H1 D l p g (i + 1) H3 := by
  obtain ⟨F', acc, G, fD, hDl, hall⟩ := L.ex
  have hi : i < l.length := (List.getElem?_eq_some_iff.mp ha).1
  have mem : a ∈ l := List.mem_of_getElem? ha
  have tk : l.take (i + 1) = l.take i ++ [a] := by
    rw [List.take_add_one, ha]
    rfl
  refine ⟨wipe_set hj, a, mem, H0, F', ((S.gr G).wipe vs).set ((enc a).mono G.f hx), fun H3 F3 g3 => ?_⟩
  have GD : Gr F1 H1 F3 H3 := G.trans g3
  have f3 : F3 D = none := g3.n D _ hDl fD
  have h3 : H3 D = some (.lst acc) := g3.h D _ hDl
  cases hp : p a with
  | false =>
    refine ⟨F3, acc, GD, f3, h3, ?_⟩
    rw [tk, List.filter_append, List.filter_cons, hp]
    simpa using hall.mono g3.f
  | true =>
    refine ⟨a, mem, hp, H0, F3, ((S.gr GD).wipe vs).set ((enc a).mono GD.f hx), fun y H4 F4 g4 hy => ⟨acc, g4.h D _ h3, ?_, ?_⟩⟩
    · rw [hall.length, List.length_map]
      have q := List.length_filter_le p (l.take i)
      rw [List.length_take] at q
      omega
    · have f4 : F4 D = none := g4.n D _ h3 f3
      have GE := GD.trans g4
      refine ⟨F4, acc ++ [y], ⟨GE.f, fun b o z => ?_, fun b o z => ?_, GE.n⟩, f4, upd_same, ?_⟩
      · rw [upd_ne (ne_of_none z hD)]
        exact GE.h b o z
      · rw [upd_ne (ne_of_none z f4)]
        exact GE.i b o z
      · rw [tk, List.filter_append, List.map_append]
        have e : (List.filter p [a]).map g = [g a] := by simp [hp]
        rw [e]
        exact (hall.mono (g3.f.trans g4.f)).snoc hy
theorem tlc_list {K : PySem.W.Frag} {σ : L2.St} {H : Hp} {Q : VK} {ρ : List En} {l : List α} {enc : α → As} {p : α → Bool} {g : α → As} {vs : List Nat} {j : Nat} (hj : j ∈ vs) (hz : l.length < sizeLine) (h : tN ρ ((l.filter p).map g) σ H Q) :
    tLc (iList K (tL ρ (l.map enc))) (gName j) (tTc (fun a => (wipeE ρ vs).set j (.fr (enc a))) l p) (tEc (fun a => (wipeE ρ vs).set j (.fr (enc a))) l p g) vs σ H Q := by
  obtain ⟨H0, F, S, k⟩ := h
  refine ⟨H0, F, S, fun a xs H1 F1 g1 h1 h2 => ⟨a, rfl, ⟨xs, SqL.of h1⟩, fun D hD => ?_⟩⟩
  have hlen : xs.length = l.length := by rw [h2.length, List.length_map]
  refine lc_list (K := K) (a := a) (xs := xs) (fun i H' => Lcs F1 H1 D l p g i H') ⟨F1, [], .newH g1.i hD, g1.i.none hD, upd_same, by simp [AllV]⟩ (fun i H' _ L => ?_) (fun i x H' hx L => ?_) (fun H' L => ?_)
  · obtain ⟨F', acc, G, _⟩ := L.ex
    exact SqL.of (G.h a _ h1)
  · have hi : i < l.length := by
      have z := (List.getElem?_eq_some_iff.mp hx).1
      omega
    have ha : l[i]? = some l[i] := List.getElem?_eq_getElem hi
    obtain ⟨u, hu, hA⟩ := h2.get (i := i) (A := enc l[i]) (by rw [List.getElem?_map, ha]; rfl)
    rw [hx] at hu
    have e : x = u := by simpa using hu
    subst e
    exact lcs_turn (H00 := H) (F00 := F) hj ha hz (S.gr g1) hA L hD
  · rw [hlen] at L
    obtain ⟨F', acc, G, fD, hDl, hall⟩ := L.ex
    rw [List.take_length] at hall
    exact k D acc H' F' (g1.trans G) (g1.h.none hD) fD hDl hall
theorem tlc_range {σ : L2.St} {H : Hp} {Q : VK} {ρ : List En} {z : Int} {p : Nat → Bool} {g : Nat → As} {vs : List Nat} {j : Nat} (hj : j ∈ vs) (h1 : -(2 ^ 62) ≤ z ∧ z < 2 ^ 24) (h : tN ρ (((List.range z.toNat).filter p).map g) σ H Q) :
    tLc (iRng1 (tCons (tW ρ (int z)) tNil)) (gName j) (tTc (fun a => (wipeE ρ vs).set j (.fr (int (a : Nat)))) (List.range z.toNat) p) (tEc (fun a => (wipeE ρ vs).set j (.fr (int (a : Nat)))) (List.range z.toNat) p g) vs σ H Q := by
  obtain ⟨H0, F, S, k⟩ := h
  refine ⟨H0, F, S, fun v H1 F1 g1 hv => ?_⟩
  have hv : v = .int z := hv
  subst hv
  refine ⟨z, rfl, h1.1, by omega, fun D hD => ?_⟩
  have hz : (List.range z.toNat).length < sizeLine := by
    rw [List.length_range, sizeLine_eq]
    omega
  refine lc_range (lo := 0) (n := z.toNat) (fun i H' => Lcs F1 H1 D (List.range z.toNat) p g i H') ⟨F1, [], .newH g1.i hD, g1.i.none hD, upd_same, by simp [AllV]⟩ (fun i H' hi L => ?_) (fun H' L => ?_)
  · have e0 : (0 : Int) + (i : Int) = (i : Int) := Int.zero_add _
    rw [e0]
    exact lcs_turn (enc := fun a : Nat => int (a : Int)) (H00 := H) (F00 := F) hj (by rw [List.getElem?_range hi]) hz (S.gr g1) rfl L hD
  · obtain ⟨F', acc, G, fD, hDl, hall⟩ := L.ex
    rw [List.take_of_length_le (by rw [List.length_range]; exact Nat.le_refl _)] at hall
    exact k D acc H' F' (g1.trans G) (g1.h.none hD) fD hDl hall
end
section
variable {α : Type} {X : Cx} {ρ : List En} {pos spos : Pos} {elt it : Expr} {ifs : List Expr} {scope : Scope} {Nx : List En → Prop} {W : Wn}
/-- [elt for x in it if ..] over data, own: the comprehension's names, j x's slot -/
theorem en_lc {own : List (Str × Nat)} (j : Nat) {x : Str} {px : Pos} {l : List α} {enc : α → As} {p : α → Bool} {g : α → As} (hc : X.calm = true) (hN : X.N.Nodup) (hi : EL X it ρ (l.map enc)) (hz : l.length < sizeLine) (ok : BlkOk X.N X.env.scope scope own)
    (hg : ∀ (s : Shared) (H : Hp) (C : Addr) (cl : List (Str × Addr)) (fp : List Addr), PG (X.blk s H scope (compEnvC scope cl C X.env) fp) (.Name x px) (gName j))
    (ht : ∀ (s : Shared) (H : Hp) (C : Addr) (cl : List (Str × Addr)) (fp : List Addr), ∀ a ∈ l, PTs (X.blk s H scope (compEnvC scope cl C X.env) fp) ifs (tTs ((wipeE ρ (own.map (·.2))).set j (.fr (enc a))) (p a)))
    (he : ∀ (s : Shared) (H : Hp) (C : Addr) (cl : List (Str × Addr)) (fp : List Addr), ∀ a ∈ l, p a = true → EA (X.blk s H scope (compEnvC scope cl C X.env) fp) elt ((wipeE ρ (own.map (·.2))).set j (.fr (enc a))) (g a))
    (hj : j ∈ own.map (·.2) := by decide) (hs : ∀ z, foldedSetIterable it X.env z = pure z := by intro _; rfl) :
    EN X (.ListComp elt [⟨.Name x px, it, ifs, 0⟩] scope pos) ρ ((l.filter p).map g) :=
  pe_imp (pe_lc (own := own) hc hN (pi_list hi) ok hg (fun s H C cl fp => pts_c (ht s H C cl fp)) (fun s H C cl fp => pe_c (he s H C cl fp)) hs) fun σ H Q h => tlc_list hj hz h
theorem sa_setLc {own : List (Str × Nat)} (i j : Nat) {x y : Str} {px py : Pos} {l : List α} {enc : α → As} {p : α → Bool} {g : α → As} (hc : X.calm = true) (hN : X.N.Nodup) (hi : EL X it ρ (l.map enc)) (hz : l.length < sizeLine) (ok : BlkOk X.N X.env.scope scope own)
    (hg : ∀ (s : Shared) (H : Hp) (C : Addr) (cl : List (Str × Addr)) (fp : List Addr), PG (X.blk s H scope (compEnvC scope cl C X.env) fp) (.Name x px) (gName j))
    (ht : ∀ (s : Shared) (H : Hp) (C : Addr) (cl : List (Str × Addr)) (fp : List Addr), ∀ a ∈ l, PTs (X.blk s H scope (compEnvC scope cl C X.env) fp) ifs (tTs ((wipeE ρ (own.map (·.2))).set j (.fr (enc a))) (p a)))
    (he : ∀ (s : Shared) (H : Hp) (C : Addr) (cl : List (Str × Addr)) (fp : List Addr), ∀ a ∈ l, p a = true → EA (X.blk s H scope (compEnvC scope cl C X.env) fp) elt ((wipeE ρ (own.map (·.2))).set j (.fr (enc a))) (g a))
    (k : Nx (ρ.set i (.own ((l.filter p).map g)))) (hy : X.N[i]? = some y := by rfl) (hyl : X.env.scope.names.lookup y = some .local := by rfl)
    (hsw : swapsWith (.ListComp elt [⟨.Name x px, it, ifs, 0⟩] scope pos) (some (.Name y py)) spos.line X.env = pure true := by exact sw_true rfl rfl rfl (by decide +kernel))
    (hj : j ∈ own.map (·.2) := by decide) (hs : ∀ z, foldedSetIterable it X.env z = pure z := by intro _; rfl) :
    SA X (.Assign [.Name y py] (.ListComp elt [⟨.Name x px, it, ifs, 0⟩] scope pos) spos) ρ Nx W :=
  ps_imp (ps_setLc (own := own) (i := i) hc hN hy hyl hsw (pi_list hi) ok hg (fun s H C cl fp => pts_c (ht s H C cl fp)) (fun s H C cl fp => pe_c (he s H C cl fp)) hs) fun D σ H ⟨F0, H0, F, g0, S, q, _⟩ => tlc_list hj hz ⟨H0, F, S, fun p' xs H' F' g' n1 n2 hp hv => q _ _ H' F' k (g0.trans g') ((S.gr g').setN (g0.h.none n1) n2 hp hv (S.newAt n1 _))⟩
theorem en_lcR {own : List (Str × Nat)} (j : Nat) {x : Str} {px p1 p2 : Pos} {z : Int} {p : Nat → Bool} {g : Nat → As} (hc : X.calm = true) (hN : X.N.Nodup) (hm : X.mg "range" = none) (hi : EW X it ρ (int z)) (hz : -(2 ^ 62) ≤ z ∧ z < 2 ^ 24) (ok : BlkOk X.N X.env.scope scope own)
    (hg : ∀ (s : Shared) (H : Hp) (C : Addr) (cl : List (Str × Addr)) (fp : List Addr), PG (X.blk s H scope (compEnvC scope cl C X.env) fp) (.Name x px) (gName j))
    (ht : ∀ (s : Shared) (H : Hp) (C : Addr) (cl : List (Str × Addr)) (fp : List Addr), ∀ a ∈ List.range z.toNat, PTs (X.blk s H scope (compEnvC scope cl C X.env) fp) ifs (tTs ((wipeE ρ (own.map (·.2))).set j (.fr (int (a : Nat)))) (p a)))
    (he : ∀ (s : Shared) (H : Hp) (C : Addr) (cl : List (Str × Addr)) (fp : List Addr), ∀ a ∈ List.range z.toNat, p a = true → EA (X.blk s H scope (compEnvC scope cl C X.env) fp) elt ((wipeE ρ (own.map (·.2))).set j (.fr (int (a : Nat)))) (g a))
    (hgr : Gl X "range" := by rfl) (hse : starEach [it] X.env = [(false, eval it X.env)] := by rfl) (hj : j ∈ own.map (·.2) := by decide) (hs : ∀ z, foldedSetIterable (.Call (.Name "range" p1) [it] [] p2) X.env z = pure z := by intro _; rfl) :
    EN X (.ListComp elt [⟨.Name x px, .Call (.Name "range" p1) [it] [] p2, ifs, 0⟩] scope pos) ρ (((List.range z.toNat).filter p).map g) :=
  pe_imp (pe_lc (own := own) hc hN (pi_range1 hgr hm (pa_cons hi pa_nil hse) hse) ok hg (fun s H C cl fp => pts_c (ht s H C cl fp)) (fun s H C cl fp => pe_c (he s H C cl fp)) hs) fun σ H Q h => tlc_range hj hz h
theorem sa_setLcR {own : List (Str × Nat)} (i j : Nat) {x y : Str} {px py p1 p2 : Pos} {z : Int} {p : Nat → Bool} {g : Nat → As} (hc : X.calm = true) (hN : X.N.Nodup) (hm : X.mg "range" = none) (hi : EW X it ρ (int z)) (hz : -(2 ^ 62) ≤ z ∧ z < 2 ^ 24) (ok : BlkOk X.N X.env.scope scope own)
    (hg : ∀ (s : Shared) (H : Hp) (C : Addr) (cl : List (Str × Addr)) (fp : List Addr), PG (X.blk s H scope (compEnvC scope cl C X.env) fp) (.Name x px) (gName j))
    (ht : ∀ (s : Shared) (H : Hp) (C : Addr) (cl : List (Str × Addr)) (fp : List Addr), ∀ a ∈ List.range z.toNat, PTs (X.blk s H scope (compEnvC scope cl C X.env) fp) ifs (tTs ((wipeE ρ (own.map (·.2))).set j (.fr (int (a : Nat)))) (p a)))
    (he : ∀ (s : Shared) (H : Hp) (C : Addr) (cl : List (Str × Addr)) (fp : List Addr), ∀ a ∈ List.range z.toNat, p a = true → EA (X.blk s H scope (compEnvC scope cl C X.env) fp) elt ((wipeE ρ (own.map (·.2))).set j (.fr (int (a : Nat)))) (g a))
    (k : Nx (ρ.set i (.own (((List.range z.toNat).filter p).map g)))) (hy : X.N[i]? = some y := by rfl) (hyl : X.env.scope.names.lookup y = some .local := by rfl)
    (hsw : swapsWith (.ListComp elt [⟨.Name x px, .Call (.Name "range" p1) [it] [] p2, ifs, 0⟩] scope pos) (some (.Name y py)) spos.line X.env = pure true := by exact sw_true rfl rfl rfl (by decide +kernel))
    (hgr : Gl X "range" := by rfl) (hse : starEach [it] X.env = [(false, eval it X.env)] := by rfl) (hj : j ∈ own.map (·.2) := by decide) (hs : ∀ z, foldedSetIterable (.Call (.Name "range" p1) [it] [] p2) X.env z = pure z := by intro _; rfl) :
    SA X (.Assign [.Name y py] (.ListComp elt [⟨.Name x px, .Call (.Name "range" p1) [it] [] p2, ifs, 0⟩] scope pos) spos) ρ Nx W :=
  ps_imp (ps_setLc (own := own) (i := i) hc hN hy hyl hsw (pi_range1 hgr hm (pa_cons hi pa_nil hse) hse) ok hg (fun s H C cl fp => pts_c (ht s H C cl fp)) (fun s H C cl fp => pe_c (he s H C cl fp)) hs) fun D σ H ⟨F0, H0, F, g0, S, q, _⟩ => tlc_range hj hz ⟨H0, F, S, fun p' xs H' F' g' n1 n2 hp hv => q _ _ H' F' k (g0.trans g') ((S.gr g').setN (g0.h.none n1) n2 hp hv (S.newAt n1 _))⟩
end
end Lk

set_option Elab.async false
set_option linter.all false
set_option maxRecDepth 100000
set_option maxHeartbeats 4000000
namespace Lk
open PySem PySem.Calls L2
section
variable {X : Cx} {e a b c : Expr} {es : List Expr} {ρ : List En} {A B C : As} {l m : List As} {pos : Pos}
/-- a call of a built-in type with one value -/
theorem ea_ty1 {T : String} {r : List V → Hp → VK → Prop} {x : Str} {p : Pos} (hc : CallR X (.type T) r) (ha : EW X a ρ A) {v : V} (hr : ∀ u H Q, A.p H u → Q v H → r [u] H Q) (hm : X.mg x = none) (hv : bootBuiltins x = some (.type T)) (hg : Gl X x := by rfl)
    (hn : x ≠ "__name__" := by decide) (hdb : (x == ("__debug__" : Str)) = false := by decide) (hs : starEach [a] X.env = (false, eval a X.env) :: starEach [] X.env := by rfl) (hpl : (backTo pos (starEach [] X.env)).any (·.1) = false := by rfl) : EA X (.Call (.Name x p) [a] [] pos) ρ (sc v) :=
  pe_imp (pe_callTy hc hg hm hv (pa_cons ha pa_nil hs) hn hdb (he := hs) (hpl := hpl)) fun σ H Q ⟨H0, F, S, k⟩ => ⟨H0, F, S, fun u H1 F1 g1 h1 => hr u H1 Q h1 (k v H1 F1 g1 rfl)⟩
theorem ea_bi1 {T : String} {r : List V → Hp → VK → Prop} {x : Str} {p : Pos} (hc : CallR X (.builtin T) r) (ha : EW X a ρ A) {v : V} (hr : ∀ u H Q, A.p H u → Q v H → r [u] H Q) (hm : X.mg x = none) (hv : bootBuiltins x = some (.builtin T)) (hg : Gl X x := by rfl)
    (hn : x ≠ "__name__" := by decide) (hdb : (x == ("__debug__" : Str)) = false := by decide) (hs : starEach [a] X.env = (false, eval a X.env) :: starEach [] X.env := by rfl) (hpl : (backTo pos (starEach [] X.env)).any (·.1) = false := by rfl) : EA X (.Call (.Name x p) [a] [] pos) ρ (sc v) :=
  pe_imp (pe_callB hc hg hm hv (pa_cons ha pa_nil hs) hn hdb (he := hs) (hpl := hpl)) fun σ H Q ⟨H0, F, S, k⟩ => ⟨H0, F, S, fun u H1 F1 g1 h1 => hr u H1 Q h1 (k v H1 F1 g1 rfl)⟩
theorem bo_int : bootBuiltins ("int" : Str) = some (.type "int") := by decide +kernel
theorem bo_len : bootBuiltins ("len" : Str) = some (.builtin "len") := by decide +kernel
theorem bo_list : bootBuiltins ("list" : Str) = some (.type "list") := by decide +kernel
theorem bo_tuple : bootBuiltins ("tuple" : Str) = some (.type "tuple") := by decide +kernel
theorem bo_any : bootBuiltins ("any" : Str) = some (.builtin "any") := by decide +kernel
theorem bo_all : bootBuiltins ("all" : Str) = some (.builtin "all") := by decide +kernel
theorem bo_isi : bootBuiltins ("isinstance" : Str) = some (.builtin "isinstance") := by decide +kernel
theorem ea_int1 {i : Int} {p : Pos} (ha : EW X a ρ (int i)) (hm : X.mg "int" = none) (hg : Gl X "int" := by rfl) (hs : starEach [a] X.env = (false, eval a X.env) :: starEach [] X.env := by rfl) (hpl : (backTo pos (starEach [] X.env)).any (·.1) = false := by rfl) : EA X (.Call (.Name "int" p) [a] [] pos) ρ (int i) :=
  ea_ty1 call_int1 ha (fun u H Q h q => .inl ⟨i, by rw [show u = V.int i from h], q⟩) hm bo_int hg (hs := hs) (hpl := hpl)
theorem ea_lenScr {ns : List Int} {p : Pos} (ha : EW X a ρ (scr X.K ns)) (hm : X.mg "len" = none) (hg : Gl X "len" := by rfl) (hs : starEach [a] X.env = (false, eval a X.env) :: starEach [] X.env := by rfl) (hpl : (backTo pos (starEach [] X.env)).any (·.1) = false := by rfl) : EA X (.Call (.Name "len" p) [a] [] pos) ρ (int (ns.length : Int)) :=
  ea_bi1 call_len_seq ha (fun u H Q ⟨q, e, h⟩ k => ⟨q, _, by rw [e], .inl h, by rw [List.length_map]; exact k⟩) hm bo_len hg (hs := hs) (hpl := hpl)
theorem ea_lenL {p : Pos} (ha : EL X a ρ l) (hm : X.mg "len" = none) (hg : Gl X "len" := by rfl) (hs : starEach [a] X.env = (false, eval a X.env) :: starEach [] X.env := by rfl) (hpl : (backTo pos (starEach [] X.env)).any (·.1) = false := by rfl) : EA X (.Call (.Name "len" p) [a] [] pos) ρ (int (l.length : Int)) :=
  ea_len ha hg hm bo_len (hs := hs) (hpl := hpl)
theorem ea_lenTp {p : Pos} (ha : EA X a ρ (tupA l)) (hm : X.mg "len" = none) (hg : Gl X "len" := by rfl) (hs : starEach [a] X.env = (false, eval a X.env) :: starEach [] X.env := by rfl) (hpl : (backTo pos (starEach [] X.env)).any (·.1) = false := by rfl) : EA X (.Call (.Name "len" p) [a] [] pos) ρ (int (l.length : Int)) :=
  ea_lenT ha hg hm bo_len (hs := hs) (hpl := hpl)
theorem ea_lenS {s : Str} {p : Pos} (ha : EW X a ρ (str s)) (hz : s.length ≤ sizeLine) (hm : X.mg "len" = none) (hg : Gl X "len" := by rfl) (hs : starEach [a] X.env = (false, eval a X.env) :: starEach [] X.env := by rfl) (hpl : (backTo pos (starEach [] X.env)).any (·.1) = false := by rfl) : EA X (.Call (.Name "len" p) [a] [] pos) ρ (int (s.length : Int)) :=
  ea_bi1 call_len_str ha (fun u H Q h k => ⟨s, by rw [show u = V.str s from h], hz, k⟩) hm bo_len hg (hs := hs) (hpl := hpl)
theorem ea_ixScr {ns : List Int} {j : Nat} {z : Int} (ha : EW X a ρ (scr X.K ns)) (hb : EW X b ρ (int (j : Int))) (hj : ns[j]? = some z) (hs : PlainIx b := by exact fun _ _ => rfl) : EA X (.Subscript a b pos) ρ (int z) :=
  pe_imp (pe_ix ix_list ha hb hs) fun σ H Q ⟨H0, F, S, k⟩ => ⟨H0, F, S, fun x H1 F1 g1 ⟨p, e1, h1⟩ => ⟨H0, F1, S.gr g1, fun y H2 F2 g2 h3 => by
    have h3 : y = .int (j : Int) := h3
    subst h3
    subst e1
    exact ⟨p, _, (j : Int), V.int z, rfl, rfl, g2.h.sql h1, atI_nat (by rw [List.getElem?_map, hj]; rfl), k _ H2 F2 (g1.trans g2) rfl⟩⟩⟩
/-- list(xs), list(t) -/
theorem en_listL {p : Pos} (ha : EL X a ρ l) (hm : X.mg "list" = none) (hg : Gl X "list" := by rfl) (hs : starEach [a] X.env = (false, eval a X.env) :: starEach [] X.env := by rfl) (hpl : (backTo pos (starEach [] X.env)).any (·.1) = false := by rfl) : EN X (.Call (.Name "list" p) [a] [] pos) ρ l :=
  pe_imp (pe_callTy call_list_of hg hm bo_list (pa_cons ha pa_nil hs) (he := hs) (hpl := hpl)) fun σ H Q ⟨H0, F, S, k⟩ => ⟨H0, F, S, fun x xs H1 F1 g1 h1 h2 => ⟨x, xs, rfl, .inl (SqL.of h1), fun q hq =>
    k q xs _ F1 (g1.trans (.newH g1.i hq)) (g1.h.none hq) (g1.i.none hq) upd_same h2⟩⟩
theorem en_listT {p : Pos} (ha : EA X a ρ (tupA l)) (hm : X.mg "list" = none) (hg : Gl X "list" := by rfl) (hs : starEach [a] X.env = (false, eval a X.env) :: starEach [] X.env := by rfl) (hpl : (backTo pos (starEach [] X.env)).any (·.1) = false := by rfl) : EN X (.Call (.Name "list" p) [a] [] pos) ρ l :=
  pe_imp (pe_callTy call_list_of hg hm bo_list (pa_cons ha pa_nil hs) (he := hs) (hpl := hpl)) fun σ H Q ⟨H0, F, S, k⟩ => ⟨H0, F, S, fun v H1 F1 g1 ⟨x, xs, e1, h1, h2⟩ => ⟨x, xs, by rw [e1], .inr (SqT.of (g1.i x _ h1)), fun q hq =>
    k q xs _ F1 (g1.trans (.newH g1.i hq)) (g1.h.none hq) (g1.i.none hq) upd_same h2⟩⟩
/-- tuple(xs) -/
theorem ea_tupleL {p : Pos} (ha : EL X a ρ l) (hm : X.mg "tuple" = none) (hg : Gl X "tuple" := by rfl) (hs : starEach [a] X.env = (false, eval a X.env) :: starEach [] X.env := by rfl) (hpl : (backTo pos (starEach [] X.env)).any (·.1) = false := by rfl) : EA X (.Call (.Name "tuple" p) [a] [] pos) ρ (tupA l) :=
  pe_imp (pe_callTy call_tuple_of hg hm bo_tuple (pa_cons ha pa_nil hs) (he := hs) (hpl := hpl)) fun σ H Q ⟨H0, F, S, k⟩ => ⟨H0, F, S, fun x xs H1 F1 g1 h1 h2 => ⟨x, xs, rfl, .inl ⟨SqL.of h1, fun q hq =>
    k _ _ _ (g1.trans (.new g1.i hq)) ⟨q, xs, rfl, upd_same, h2.mono (Ex.new (g1.i.none hq))⟩⟩⟩⟩
/-- all([..]), any([..]) of bools -/
theorem ea_any {bs : List Bool} {p : Pos} (ha : EL X a ρ (bs.map bl)) (hc : X.calm = true) (hm : X.mg "any" = none) (hg : Gl X "any" := by rfl) (hs : starEach [a] X.env = (false, eval a X.env) :: starEach [] X.env := by rfl) (hpl : (backTo pos (starEach [] X.env)).any (·.1) = false := by rfl) : EA X (.Call (.Name "any" p) [a] [] pos) ρ (bl (bs.any id)) :=
  pe_imp (pe_callB (cr_any hc) hg hm bo_any (pa_cons ha pa_nil hs) (he := hs) (hpl := hpl)) fun σ H Q ⟨H0, F, S, k⟩ => ⟨H0, F, S, fun x xs H1 F1 g1 h1 h2 => by
    have e : xs = bs.map V.bl := AllV.scs (F := F1) (by rw [List.map_map]; exact h2)
    subst e
    exact ⟨x, bs, rfl, SqL.of h1, k _ H1 F1 g1 rfl⟩⟩
theorem ea_all {bs : List Bool} {p : Pos} (ha : EL X a ρ (bs.map bl)) (hc : X.calm = true) (hm : X.mg "all" = none) (hg : Gl X "all" := by rfl) (hs : starEach [a] X.env = (false, eval a X.env) :: starEach [] X.env := by rfl) (hpl : (backTo pos (starEach [] X.env)).any (·.1) = false := by rfl) : EA X (.Call (.Name "all" p) [a] [] pos) ρ (bl (bs.all id)) :=
  pe_imp (pe_callB (cr_all hc) hg hm bo_all (pa_cons ha pa_nil hs) (he := hs) (hpl := hpl)) fun σ H Q ⟨H0, F, S, k⟩ => ⟨H0, F, S, fun x xs H1 F1 g1 h1 h2 => by
    have e : xs = bs.map V.bl := AllV.scs (F := F1) (by rw [List.map_map]; exact h2)
    subst e
    exact ⟨x, bs, rfl, SqL.of h1, k _ H1 F1 g1 rfl⟩⟩
/-- slices: xs[:k], xs[k:] of lists, tuples -/
def tO (ρ : List En) (o : Option Int) : TO := fun σ H Q => ∃ H0 F, Sat H0 F σ H ρ ∧ ∀ H' F', Gr F H F' H' → Q o H'
abbrev EO (X : Cx) (e : Option Expr) (ρ : List En) (o : Option Int) : Prop := PO X e (tO ρ o)
theorem po_imp {o : Option Expr} {t t' : TO} (h : PO X o t) (i : ∀ σ H Q, t' σ H Q → t σ H Q) : PO X o t' := ⟨fun pins s σ H Q I q => h.run pins s σ H Q I (i σ H Q q)⟩
theorem eo_none : EO X none ρ none := po_imp po_none fun σ H Q ⟨H0, F, S, k⟩ => k H F (.refl S.ex)
theorem eo_some {i : Int} (h : EW X e ρ (int i)) : EO X (some e) ρ (some i) := po_imp (po_some h) fun σ H Q ⟨H0, F, S, k⟩ => ⟨H0, F, S, fun v H1 F1 g1 h1 => ⟨i, h1, k H1 F1 g1⟩⟩
def cutA (l : List As) (lo hi : Option Int) : List As := (l.drop (HT.sIx l.length 0 lo)).take (HT.sIx l.length l.length hi - HT.sIx l.length 0 lo)
theorem en_slL {lo hi : Option Expr} {i j : Option Int} {p2 : Pos} (ha : EL X a ρ l) (h1 : EO X lo ρ i) (h2 : EO X hi ρ j) : EN X (.Subscript a (.Slice lo hi none p2) pos) ρ (cutA l i j) :=
  pe_imp (pe_slice sl_list ha h1 h2) fun σ H Q ⟨H0, F, S, k⟩ => ⟨H0, F, S, fun x xs H1 F1 g1 q1 q2 => ⟨H0, F1, S.gr g1, fun H2 F2 g2 => ⟨H0, F2, (S.gr g1).gr g2, fun H3 F3 g3 => by
    have g := (g1.trans g2).trans g3
    refine ⟨x, xs, rfl, SqL.of (g3.h x _ (g2.h x _ q1)), fun p hp => k p _ _ F3 (g.trans (.newH g.i hp)) (g.h.none hp) (g.i.none hp) upd_same ?_⟩
    have q3 := q2.mono (g2.f.trans g3.f)
    unfold cutV cutA
    rw [q3.length]
    exact (q3.drop _).take _⟩⟩⟩
theorem ea_slT {lo hi : Option Expr} {i j : Option Int} {p2 : Pos} (ha : EA X a ρ (tupA l)) (h1 : EO X lo ρ i) (h2 : EO X hi ρ j) (hne : ¬ (HT.sIx l.length 0 i = 0 ∧ HT.sIx l.length l.length j = l.length)) : EA X (.Subscript a (.Slice lo hi none p2) pos) ρ (tupA (cutA l i j)) :=
  pe_imp (pe_slice sl_tup ha h1 h2) fun σ H Q ⟨H0, F, S, k⟩ => ⟨H0, F, S, fun v H1 F1 g1 ⟨x, xs, ev, q1, q2⟩ => ⟨H0, F1, S.gr g1, fun H2 F2 g2 => ⟨H0, F2, (S.gr g1).gr g2, fun H3 F3 g3 => by
    have g := (g1.trans g2).trans g3
    refine ⟨x, xs, ev, SqT.of (g3.h x _ (g2.h x _ (g1.i x _ q1))), by rw [q2.length]; exact hne, fun p hp => k _ _ _ (g.trans (.new g.i hp)) ⟨p, _, rfl, upd_same, ?_⟩⟩
    have q3 := (q2.mono (g2.f.trans g3.f)).mono (Ex.new (o := .tup (cutV xs i j)) (g.i.none hp))
    unfold cutV cutA at *
    rw [q3.length] at *
    exact (q3.drop _).take _⟩⟩⟩
/-- sep.join(xs) -/
theorem ea_join {s : Str} {zs : List Str} {apos cpos : Pos} {hb : PE X e (tBM X.K "str" (fun x xs H Q => ∃ a p, ∃ ys : List Str, x = .str a ∧ xs = [.ref p] ∧ (SqL X.K H p (ys.map V.str) ∨ SqT X.K H p (ys.map V.str)) ∧ (ys.map (·.length)).sum + ys.length * a.length ≤ 16777216 ∧ Q (.str (Txt.join a ys)) H) (tW ρ (str s)) (tCons (tL ρ (zs.map str)) tNil))}
    (hz : (zs.map (·.length)).sum + zs.length * s.length ≤ 16777216) : EA X e ρ (str (Txt.join s zs)) :=
  pe_imp hb fun σ H Q ⟨H0, F, S, k⟩ => ⟨H0, F, S, fun v H1 F1 g1 h1 => by
    have h1 : v = .str s := h1
    subst h1
    refine ⟨?_, H0, F1, S.gr g1, fun x xs H2 F2 g2 q1 q2 => ?_⟩
    · first | exact .inl ⟨_, rfl⟩ | exact .inr (.inl ⟨_, rfl⟩) | exact ⟨_, rfl⟩ | trivial | rfl
    · have e : xs = zs.map V.str := AllV.scs (F := F2) (by rw [List.map_map]; exact q2)
      subst e
      exact ⟨s, x, zs, rfl, rfl, .inl (SqL.of q1), hz, k _ H2 F2 (g1.trans g2) rfl⟩⟩
end
end Lk

set_option Elab.async false
set_option linter.all false
set_option maxRecDepth 100000
set_option maxHeartbeats 4000000
namespace Lk
open PySem PySem.Calls L2
section
variable {X : Cx} {e a b c : Expr} {es : List Expr} {ρ : List En} {A B C : As} {l m : List As} {pos : Pos}
theorem pe_app (i : Nat) {x : Str} {px apos cpos : Pos} (he : EA X e ρ A) (hN : X.N[i]? = some x := by rfl) (hv : Vis X.env.scope x := by first | exact Or.inl rfl | exact Or.inr (Or.inl rfl) | exact Or.inr (Or.inr rfl)) (hd : (x == ("__debug__" : Str)) = false := by decide) (hcd : (x == ("__classdict__" : Str)) = false := by decide)
    (hbase : attributeBase (.Name x px) "append" X.env (eval (.Name x px) X.env) = eval (.Name x px) X.env := by rfl)
    (hfew : ((backTo cpos (starEach [e] X.env)).all (fun x => !x.1) && (backToKw cpos (keywordEach [] X.env)).all (fun x => x.1.isSome) && decide ([e].length + ([] : List Keyword).length + (if ([] : List Keyword).isEmpty then 0 else 1) < 30)) = true := by rfl)
    (hline : (apos.endLine == cpos.line) = true := by rfl) (hs : starEach [e] X.env = (false, eval e X.env) :: starEach [] X.env := by rfl) (hplain : (backTo cpos (starEach [] X.env)).any (·.1) = false := by rfl) :
    PE X (.Call (.Attribute (.Name x px) "append" apos) [e] [] cpos) (tBM X.K "list" rAppend (tVar i) (tCons (tA ρ A) tNil)) :=
  pe_bm PySem.F.plainAttrs_list PySem.F.slot_list_append PySem.F.type_list_append mt_append (pe_var hN hv hd hcd) (pa_cons he pa_nil hs) hbase hfew hline hs hplain
/-- ''.join(xs) -/
theorem ea_joinL {s : Str} {zs : List Str} {apos : Pos} (ho : EW X a ρ (str s)) (he : EL X b ρ (zs.map str)) (hz : (zs.map (·.length)).sum + zs.length * s.length ≤ 16777216) (hs : starEach [b] X.env = [(false, eval b X.env)] := by rfl) (hbase : attributeBase a "join" X.env (eval a X.env) = eval a X.env := by rfl)
    (hline : (apos.endLine == pos.line) = true := by rfl) : EA X (.Call (.Attribute a "join" apos) [b] [] pos) ρ (str (Txt.join s zs)) :=
  pe_imp (pe_join ho he hs hbase hline) fun σ H Q ⟨H0, F, S, k⟩ => ⟨H0, F, S, fun v H1 F1 g1 h1 => by
    have h1 : v = .str s := h1
    subst h1
    refine ⟨⟨s, rfl⟩, H0, F1, S.gr g1, fun x xs H2 F2 g2 q1 q2 => ?_⟩
    have e : xs = zs.map V.str := AllV.scs (F := F2) (by rw [List.map_map]; exact q2)
    subst e
    exact ⟨s, x, zs, rfl, rfl, .inl (SqL.of q1), hz, k _ H2 F2 (g1.trans g2) rfl⟩⟩
theorem el_is (h : EL X e ρ l) (i : l = m) : EL X e ρ m := i ▸ h
theorem en_is (h : EN X e ρ l) (i : l = m) : EN X e ρ m := i ▸ h
theorem eas_is (h : EAs X es ρ l) (i : l = m) : EAs X es ρ m := i ▸ h
theorem ea_rng {z : Int} (lo hi : Int) (h : EA X e ρ (int z)) (b : lo ≤ z ∧ z < hi) : EA X e ρ (exA (fun m => lo ≤ m ∧ m < hi) int) := ea_imp h fun F v hv => ⟨z, b, hv⟩
end
/-- a call whose value is known beforehand -/
theorem ea_callB {X : Cx} {e : Expr} {es : List Expr} {ρ : List En} {pos : Pos} {k : Nat} {x : Str} {ps : List Str} {ι : Type} {pre : ι → Prop} {l : ι → List As} {A : ι → As} {B : As} {p : Pos} (D : Df X.prog X.w X.K X.mg X.base k x ps (spX pre l A)) (hr : Room k X.A) (i : ι) (hp : pre i) (hA : A i = B) (ha : EAs X (e :: es) ρ (l i)) (hg : Gl X x := by rfl)
    (hdb : (x == ("__debug__" : Str)) = false := by decide) (he : starEach (e :: es) X.env = (false, eval e X.env) :: starEach es X.env := by rfl) (hpl : (backTo pos (starEach es X.env)).any (·.1) = false := by rfl) : EA X (.Call (.Name x p) (e :: es) [] pos) ρ B :=
  hA ▸ ea_call D hr i hp ha hg hdb he hpl
theorem mD {P : Program} {w : World} {K : PySem.W.Frag} {mg : Str → Option Value} {base : Heap} {f : Addr} {fd : FuncData} {sp : Sp} {k : Nat} {x : Str} {ps : List Str} {qual : Str} {st : Stmt} (F : Fun K x qual st f fd) (hm : mg x = some (.ref f)) (hb : Binds K fd ps []) (G : FnOk P w K mg base CX0 k f fd ps sp) : Df P w K mg base k x ps sp := ⟨f, fd, G, hm, F.kp, hb⟩

theorem flt_true {α : Type} (l : List α) : l.filter (fun _ => true) = l := List.filter_eq_self.mpr fun _ _ => rfl
/-! ### texts by their signs -/
def S (l : List Nat) : Str := ⟨l.toArray⟩
theorem S_inj {l m : List Nat} (h : S l = S m) : l = m := by
  have e : l.toArray = m.toArray := congrArg Str.cps h
  simpa using e
theorem S_len (l : List Nat) : (S l).length = l.length := by
  show l.toArray.size = l.length
  simp
theorem S_app (l m : List Nat) : S l ++ S m = S (l ++ m) := by
  show Str.mk (l.toArray ++ m.toArray) = Str.mk (l ++ m).toArray
  simp
theorem S_of (s : Str) : S s.cps.toList = s := by
  cases s
  simp [S]
def ascii (c : Nat) : Bool := c < 128
def alnum (c : Nat) : Bool := (48 ≤ c && c ≤ 57) || (65 ≤ c && c ≤ 90) || (97 ≤ c && c ≤ 122)
/-- a note -/
def Note (s : Str) : Prop := ∃ l : List Nat, s = S l ∧ 1 ≤ l.length ∧ l.length ≤ 8 ∧ ∀ c ∈ l, alnum c = true
end Lk

set_option Elab.async false
set_option linter.all false
set_option maxRecDepth 100000
set_option maxHeartbeats 4000000
namespace Lk
open PySem PySem.Calls L2
section
variable {X : Cx} {e a b c : Expr} {es : List Expr} {ρ : List En} {A B C : As} {l m : List As} {pos p1 : Pos} {Nx : List En → Prop} {W : Wn}
theorem map_at {α : Type} {f : α → As} {l : List α} {i : Nat} {d : α} (h : i < l.length) : (l.map f)[i]? = some (f (l.getD i d)) := by
  rw [List.getElem?_map, List.getD_eq_getElem?_getD, List.getElem?_eq_getElem h]
  rfl
/-- [1, 2, ..][i] -/
theorem ea_tbl {tb : List Int} {i : Int} (h : EAs X es ρ (tb.map int)) (hb : EW X b ρ (int i)) (h0 : 0 ≤ i) (h1 : i < (tb.length : Int)) (hz : tb.length ≤ sizeLine) (hs : PlainIx b := by exact fun _ _ => rfl) : EA X (.Subscript (.List es p1) b pos) ρ (int (tb.getD i.toNat 0)) :=
  ea_ixL (en_l (en_lst h (by rw [List.length_map]; exact hz))) hb (Int.toNat_of_nonneg h0).symm (map_at (by omega)) hs
/-- a number that lies from 0 to n -/
abbrev natA (n : Nat) : As := exA (fun m : Nat => m ≤ n) (fun m => int (m : Int))
theorem ea_nat {z : Int} (n : Nat) (h : EA X e ρ (int z)) (h0 : 0 ≤ z) (h1 : z ≤ (n : Int)) : EA X e ρ (natA n) := ea_imp h fun F v hv => ⟨z.toNat, by omega, by
  show (int ((z.toNat : Nat) : Int)).p F v
  rw [Int.toNat_of_nonneg h0]
  exact hv⟩
theorem tb_mem {tb : List Int} {i : Nat} (h : i < tb.length) : tb.getD i 0 ∈ tb := by
  rw [List.getD_eq_getElem?_getD, List.getElem?_eq_getElem h]
  exact List.getElem_mem h
theorem cutA_take {n : Nat} : cutA l none (some (n : Int)) = l.take n := by
  unfold cutA
  rw [HT.sIx_none, show HT.sIx l.length l.length (some (n : Int)) = min n l.length from HT.sIx_nat l.length l.length n]
  simp
theorem cutA_drop {n : Nat} : cutA l (some (n : Int)) none = l.drop n := by
  unfold cutA
  rw [HT.sIx_none, show HT.sIx l.length 0 (some (n : Int)) = min n l.length from HT.sIx_nat l.length 0 n]
  by_cases h : n ≤ l.length
  · rw [Nat.min_eq_left h, List.take_of_length_le (by rw [List.length_drop]; exact Nat.le_refl _)]
  · rw [Nat.min_eq_right (by omega), List.drop_of_length_le (Nat.le_refl _), List.drop_of_length_le (by omega)]
    simp
/-- xs.pop(i) as a statement -/
theorem sa_popAt (i : Nat) {x : Str} {px apos cpos : Pos} {z : Int} {j : Nat} (hr : ρ[i]? = some (En.own l)) (he : EW X e ρ (int z)) (hz : z = (j : Int)) (hj : j < l.length) (hl : l.length ≤ 1000000) (k : Nx (ρ.set i (.own (l.eraseIdx j)))) (hN : X.N[i]? = some x := by rfl) (hv : Vis X.env.scope x := by first | exact Or.inl rfl | exact Or.inr (Or.inl rfl) | exact Or.inr (Or.inr rfl)) (hd : (x == ("__debug__" : Str)) = false := by decide) (hcd : (x == ("__classdict__" : Str)) = false := by decide)
    (hbase : attributeBase (.Name x px) "pop" X.env (eval (.Name x px) X.env) = eval (.Name x px) X.env := by rfl)
    (hfew : ((backTo cpos (starEach [e] X.env)).all (fun x => !x.1) && (backToKw cpos (keywordEach [] X.env)).all (fun x => x.1.isSome) && decide ([e].length + ([] : List Keyword).length + (if ([] : List Keyword).isEmpty then 0 else 1) < 30)) = true := by rfl)
    (hline : (apos.endLine == cpos.line) = true := by rfl) (hs : starEach [e] X.env = (false, eval e X.env) :: starEach [] X.env := by rfl) (hplain : (backTo cpos (starEach [] X.env)).any (·.1) = false := by rfl)
    (hsw : swapsWith (.Call (.Attribute (.Name x px) "pop" apos) [e] [] cpos) none pos.line X.env = pure false := by rfl) :
    SA X (.Expr (.Call (.Attribute (.Name x px) "pop" apos) [e] [] cpos) pos) ρ Nx W := by
  refine ps_imp (ps_expr (pe_bm PySem.F.plainAttrs_list PySem.F.slot_list_pop PySem.F.type_list_pop mt_popAt (pe_var hN hv hd hcd) (pa_cons he pa_nil hs) hbase hfew hline hs hplain) hsw) fun D σ H ⟨F0, H0, F, g, S, q, _⟩ => ?_
  obtain ⟨p, xs, h1, h2, h3, h4, h5⟩ := S.own i l hr
  refine ⟨_, h1, .inl ⟨rfl, _, SqL.of h4⟩, H0, F, S, fun v H' F' g' hv' => ?_⟩
  have hv' : v = .int z := hv'
  subst hv'
  have hlen := h5.length
  have hjx : j < xs.length := by omega
  refine ⟨p, xs, z, j, xs[j], rfl, rfl, g'.h p _ h4, by omega, by omega, ?_, List.getElem?_eq_getElem hjx, ?_⟩
  · rw [hz]
    unfold seqIndex?
    simp
    omega
  · obtain ⟨g3, S3⟩ := sat_wr (g.trans g') (S.gr g') hr h1 ((h5.mono g'.f).eraseIdx j)
    exact q _ σ _ F' k g3 S3
/-- out.append(left.pop(e)) -/
theorem sa_appPop (i i' : Nat) {x y : Str} {px py apos cpos apos2 cpos2 : Pos} {z : Int} {j : Nat} (hne : i ≠ i') (hr : ρ[i]? = some (En.own l)) (hr' : ρ[i']? = some (En.own m)) (he : EW X e ρ (int z)) (hz : z = (j : Int)) (hj : m[j]? = some A) (hl : m.length ≤ 1000000) (hl2 : l.length < sizeLine) (k : Nx ((ρ.set i' (.own (m.eraseIdx j))).set i (.own (l ++ [A])))) (hN : X.N[i]? = some x := by rfl) (hv : Vis X.env.scope x := by first | exact Or.inl rfl | exact Or.inr (Or.inl rfl) | exact Or.inr (Or.inr rfl)) (hd : (x == ("__debug__" : Str)) = false := by decide) (hcd : (x == ("__classdict__" : Str)) = false := by decide)
    (hN2 : X.N[i']? = some y := by rfl) (hv2 : Vis X.env.scope y := by first | exact Or.inl rfl | exact Or.inr (Or.inl rfl) | exact Or.inr (Or.inr rfl)) (hd2 : (y == ("__debug__" : Str)) = false := by decide) (hcd2 : (y == ("__classdict__" : Str)) = false := by decide)
    (hbase : attributeBase (.Name y py) "pop" X.env (eval (.Name y py) X.env) = eval (.Name y py) X.env := by rfl)
    (hfew : ((backTo cpos2 (starEach [e] X.env)).all (fun x => !x.1) && (backToKw cpos2 (keywordEach [] X.env)).all (fun x => x.1.isSome) && decide ([e].length + ([] : List Keyword).length + (if ([] : List Keyword).isEmpty then 0 else 1) < 30)) = true := by rfl)
    (hline : (apos2.endLine == cpos2.line) = true := by rfl) (hs : starEach [e] X.env = (false, eval e X.env) :: starEach [] X.env := by rfl) (hplain : (backTo cpos2 (starEach [] X.env)).any (·.1) = false := by rfl)
    (hbase1 : attributeBase (.Name x px) "append" X.env (eval (.Name x px) X.env) = eval (.Name x px) X.env := by rfl)
    (hfew1 : ((backTo cpos (starEach [.Call (.Attribute (.Name y py) "pop" apos2) [e] [] cpos2] X.env)).all (fun x => !x.1) && (backToKw cpos (keywordEach [] X.env)).all (fun x => x.1.isSome) && decide ([Expr.Call (.Attribute (.Name y py) "pop" apos2) [e] [] cpos2].length + ([] : List Keyword).length + (if ([] : List Keyword).isEmpty then 0 else 1) < 30)) = true := by rfl)
    (hline1 : (apos.endLine == cpos.line) = true := by rfl) (hs1 : starEach [.Call (.Attribute (.Name y py) "pop" apos2) [e] [] cpos2] X.env = (false, eval (.Call (.Attribute (.Name y py) "pop" apos2) [e] [] cpos2) X.env) :: starEach [] X.env := by rfl) (hplain1 : (backTo cpos (starEach [] X.env)).any (·.1) = false := by rfl)
    (hsw : swapsWith (.Call (.Attribute (.Name x px) "append" apos) [.Call (.Attribute (.Name y py) "pop" apos2) [e] [] cpos2] [] cpos) none pos.line X.env = pure false := by rfl) :
    SA X (.Expr (.Call (.Attribute (.Name x px) "append" apos) [.Call (.Attribute (.Name y py) "pop" apos2) [e] [] cpos2] [] cpos) pos) ρ Nx W := by
  refine ps_imp (ps_expr (pe_bm PySem.F.plainAttrs_list PySem.F.slot_list_append PySem.F.type_list_append mt_append (pe_var (i := i) hN hv hd hcd)
    (pa_cons (pe_bm PySem.F.plainAttrs_list PySem.F.slot_list_pop PySem.F.type_list_pop mt_popAt (pe_var (i := i') hN2 hv2 hd2 hcd2) (pa_cons he pa_nil hs) hbase hfew hline hs hplain) pa_nil hs1) hbase1 hfew1 hline1 hs1 hplain1) hsw) fun D σ H ⟨F0, H0, F, g, S, q, _⟩ => ?_
  obtain ⟨p, xs, h1, h2, h3, h4, h5⟩ := S.own i l hr
  obtain ⟨p', ys, h1', h2', h3', h4', h5'⟩ := S.own i' m hr'
  refine ⟨_, h1, .inl ⟨rfl, _, SqL.of h4⟩, _, h1', .inl ⟨rfl, _, SqL.of h4'⟩, H0, F, S, fun v H' F' g' hv' => ?_⟩
  have hv' : v = .int z := hv'
  subst hv'
  obtain ⟨u, hu, hA⟩ := h5'.get hj
  have hjm : j < m.length := (List.getElem?_eq_some_iff.mp hj).1
  have hlen := h5'.length
  refine ⟨p', ys, z, j, u, rfl, rfl, g'.h p' _ h4', by omega, by omega, ?_, hu, ?_⟩
  · rw [hz]
    unfold seqIndex?
    simp
    omega
  · obtain ⟨g3, S3⟩ := sat_wr (g.trans g') (S.gr g') hr' h1' ((h5'.mono g'.f).eraseIdx j)
    have np : p ≠ p' := fun z' => hne (S.sep i i' _ _ p hr hr' True.intro True.intro h1 (by rw [z']; exact h1'))
    have hr2 : (ρ.set i' (.own (m.eraseIdx j)))[i]? = some (En.own l) := by rw [List.getElem?_set_ne (Ne.symm hne)]; exact hr
    refine ⟨p, xs, u, rfl, rfl, by rw [upd_ne np]; exact g'.h p _ h4, by rw [h5.length]; exact hl2, ?_⟩
    obtain ⟨g4, S4⟩ := sat_wr g3 S3 hr2 h1 ((h5.mono g'.f).snoc (A.mono g'.f hA))
    exact q _ σ _ F' k g4 S4
end
end Lk

set_option Elab.async false
set_option linter.all false
set_option maxRecDepth 100000
set_option maxHeartbeats 4000000
namespace Lk
open PySem PySem.Calls L2
/-! ### data, for == and in -/
def Dat (K : PySem.W.Frag) (A : As) (d : PyData) : Prop := ∀ H v, A.p H v → Dp K H v d
theorem dat_non {K} : Dat K non .none := fun H v h => by
  have h : v = .non := h
  subst h
  exact .non
theorem dat_int {K} (i : Int) : Dat K (int i) (.int i) := fun H v h => by
  have h : v = .int i := h
  subst h
  exact .int i
theorem dat_str {K} (s : Str) : Dat K (str s) (.str s) := fun H v h => by
  have h : v = .str s := h
  subst h
  exact .str s
theorem dat_bl {K} (b : Bool) : Dat K (bl b) (.bool b) := fun H v h => by
  have h : v = .bl b := h
  subst h
  exact .bl b
theorem dpAll {K : PySem.W.Frag} {H : Hp} {α : Type} {f : α → As} {g : α → PyData} (hf : ∀ a, Dat K (f a) (g a)) : ∀ {xs : List V} {l : List α}, AllV H xs (l.map f) → DpAll K H xs (l.map g)
  | [], [], _ => .nil
  | _ :: _, a :: l, h => .cons (hf a _ _ h.1) (dpAll hf h.2)
  | [], _ :: _, h => h.elim
  | _ :: _, [], h => h.elim
theorem dat_lst {K : PySem.W.Frag} {α : Type} {f : α → As} {g : α → PyData} (hf : ∀ a, Dat K (f a) (g a)) (l : List α) : Dat K (lstA (l.map f)) (.list (l.map g)) := fun H v ⟨a, xs, e, h1, h2⟩ => by
  subst e
  exact .lst (SqL.of h1) (dpAll hf h2)
theorem dat_tup {K : PySem.W.Frag} {α : Type} {f : α → As} {g : α → PyData} (hf : ∀ a, Dat K (f a) (g a)) (l : List α) : Dat K (tupA (l.map f)) (.tuple (l.map g)) := fun H v ⟨a, xs, e, h1, h2⟩ => by
  subst e
  exact .tup (SqT.of h1) (dpAll hf h2)
theorem eqvAll_map {α : Type} [DecidableEq α] {g : α → PyData} (he : ∀ x y, PyData.eqv (g x) (g y) = decide (x = y)) : ∀ l m : List α, PyData.eqvAll (l.map g) (m.map g) = decide (l = m)
  | [], [] => by simp [PyData.eqvAll]
  | [], _ :: _ => by simp [PyData.eqvAll]
  | _ :: _, [] => by simp [PyData.eqvAll]
  | a :: l, b :: m => by
    rw [List.map_cons, List.map_cons, PyData.eqvAll, he, eqvAll_map he l m, Bool.eq_iff_iff]
    simp
theorem canAll_map {α : Type} {g : α → PyData} : ∀ l : List α, (∀ a ∈ l, (g a).canLay0 = true) → PyData.canLayAll0 (l.map g) = true
  | [], _ => by simp [PyData.canLayAll0]
  | a :: l, h => by
    have e := canAll_map l fun b hb => h b (List.mem_cons_of_mem _ hb)
    have e1 := h a List.mem_cons_self
    rw [List.map_cons]
    simp only [PyData.canLayAll0, Bool.and_eq_true]
    exact ⟨e1, e⟩
theorem depthAll_map {α : Type} {g : α → PyData} {n : Nat} : ∀ l : List α, (∀ a, (g a).depth ≤ n) → PyData.depthAll (l.map g) ≤ n
  | [], _ => by simp [PyData.depthAll]
  | a :: l, h => by
    have e := depthAll_map l h
    have e2 := h a
    rw [List.map_cons]
    simp only [PyData.depthAll]
    omega
/-- f's values are data that == tells apart -/
structure Enc (K : PySem.W.Frag) {α : Type} [DecidableEq α] (n : Nat) (f : α → As) (ok : α → Prop) : Prop where
  ex : ∃ g : α → PyData, (∀ a, Dat K (f a) (g a)) ∧ (∀ x y, PyData.eqv (g x) (g y) = decide (x = y)) ∧ (∀ a, (g a).depth ≤ n) ∧ ∀ a, ok a → (g a).canLay0 = true
def okS (s : Str) : Prop := PyData.strOk s = true
def okL {α : Type} (ok : α → Prop) (l : List α) : Prop := ∀ a ∈ l, ok a
theorem enc_str {K} : Enc K 0 str okS := ⟨fun s => .str s, dat_str, fun x y => by simp [PyData.eqv, Bool.beq_eq_decide_eq], fun a => by simp [PyData.depth], fun a h => by simp only [PyData.canLay0]; exact h⟩
theorem enc_int {K} : Enc K 0 int (fun _ => True) := ⟨fun s => .int s, dat_int, fun x y => by simp [PyData.eqv, Bool.beq_eq_decide_eq], fun a => by simp [PyData.depth], fun a _ => by simp [PyData.canLay0]⟩
theorem enc_bl {K} : Enc K 0 bl (fun _ => True) := ⟨fun s => .bool s, dat_bl, fun x y => by simp [PyData.eqv, Bool.beq_eq_decide_eq], fun a => by simp [PyData.depth], fun a _ => by simp [PyData.canLay0]⟩
theorem enc_lst {K : PySem.W.Frag} {α : Type} [DecidableEq α] {n : Nat} {f : α → As} {ok : α → Prop} (h : Enc K n f ok) : Enc K (n + 1) (fun l : List α => lstA (l.map f)) (okL ok) := by
  obtain ⟨g, h1, h2, h3, h4⟩ := h.ex
  refine ⟨fun l => .list (l.map g), fun l => dat_lst h1 l, fun l m => by rw [PyData.eqv]; exact eqvAll_map h2 l m, fun l => ?_, fun l hl => ?_⟩
  · have q := depthAll_map (n := n) l fun a => h3 a
    simp only [PyData.depth]
    omega
  · simp only [PyData.canLay0]
    exact canAll_map l fun a ha => h4 a (hl a ha)
theorem enc_tup {K : PySem.W.Frag} {α : Type} [DecidableEq α] {n : Nat} {f : α → As} {ok : α → Prop} (h : Enc K n f ok) : Enc K (n + 1) (fun l : List α => tupA (l.map f)) (okL ok) := by
  obtain ⟨g, h1, h2, h3, h4⟩ := h.ex
  refine ⟨fun l => .tuple (l.map g), fun l => dat_tup h1 l, fun l m => by rw [PyData.eqv]; exact eqvAll_map h2 l m, fun l => ?_, fun l hl => ?_⟩
  · have q := depthAll_map (n := n) l fun a => h3 a
    simp only [PyData.depth]
    omega
  · simp only [PyData.canLay0]
    exact canAll_map l fun a ha => h4 a (hl a ha)
/-- through an injective reading -/
theorem enc_of {K : PySem.W.Frag} {α β : Type} [DecidableEq α] [DecidableEq β] {n : Nat} {f : α → As} {ok : α → Prop} (h : Enc K n f ok) (r : β → α) (inj : ∀ x y, r x = r y → x = y) : Enc K n (fun b => f (r b)) (fun b => ok (r b)) := by
  obtain ⟨g, h1, h2, h3, h4⟩ := h.ex
  refine ⟨fun b => g (r b), fun b => h1 (r b), fun x y => ?_, fun b => h3 (r b), fun b hb => h4 (r b) hb⟩
  show PyData.eqv (g (r x)) (g (r y)) = decide (x = y)
  rw [h2, Bool.eq_iff_iff]
  simp only [decide_eq_true_eq]
  exact ⟨inj x y, fun e => by rw [e]⟩
theorem shaped_of {d : PyData} (h1 : d.canLay0 = true) (h2 : d.depth ≤ 64) : SeqAt.shaped d = true := by
  show (d.canLay0 && decide (d.depth ≤ 64)) = true
  rw [Bool.and_eq_true]
  exact ⟨h1, decide_eq_true h2⟩
section
variable {X : Cx} {α : Type} [DecidableEq α] {n k : Nat} {f : α → As} {ok : α → Prop}
theorem dec_irr {p : Prop} (i j : Decidable p) : @decide p i = @decide p j := by rw [Subsingleton.elim i j]
theorem cm_eqD {a b : α} {i : Decidable (a = b)} (hr : Room k X.A) (h : Enc X.K n f ok) (ha : ok a) (hb : ok b) (hn : n ≤ 60 := by decide) : Cm X .Eq (f a) (f b) (decide (a = b)) := by
  obtain ⟨g, h1, h2, h3, h4⟩ := h.ex
  refine ⟨_, op_eqD (by have := hr.un; omega), fun x y H Q p q z => ⟨g a, g b, h1 a H x p, h1 b H y q, shaped_of (h4 a ha) (by have := h3 a; omega), shaped_of (h4 b hb) (by have := h3 b; omega), ?_⟩⟩
  rw [h2, dec_irr _ i]
  exact z
theorem cm_neD {a b : α} {i : Decidable (a = b)} (hr : Room k X.A) (h : Enc X.K n f ok) (ha : ok a) (hb : ok b) (hn : n ≤ 60 := by decide) : Cm X .NotEq (f a) (f b) (!decide (a = b)) := by
  obtain ⟨g, h1, h2, h3, h4⟩ := h.ex
  refine ⟨_, op_neD (by have := hr.un; omega), fun x y H Q p q z => ⟨g a, g b, h1 a H x p, h1 b H y q, shaped_of (h4 a ha) (by have := h3 a; omega), shaped_of (h4 b hb) (by have := h3 b; omega), ?_⟩⟩
  rw [h2, dec_irr _ i]
  exact z
theorem any_eqv {g : α → PyData} (h2 : ∀ x y, PyData.eqv (g x) (g y) = decide (x = y)) (a : α) (l : List α) : ((l.map g).any fun z => PyData.eqv z (g a)) = decide (a ∈ l) := by
  rw [Bool.eq_iff_iff, List.any_eq_true]
  simp only [decide_eq_true_eq, List.mem_map]
  constructor
  · rintro ⟨z, ⟨b, hb, rfl⟩, hz⟩
    rw [h2] at hz
    have e : b = a := of_decide_eq_true hz
    rw [← e]
    exact hb
  · intro h
    exact ⟨g a, ⟨a, h, rfl⟩, by rw [h2]; exact decide_eq_true rfl⟩
theorem cm_inD {a : α} {l : List α} {i : Decidable (a ∈ l)} (hr : Room k X.A) (h : Enc X.K n f ok) (ha : ok a) (hl : okL ok l) (hn : n ≤ 60 := by decide) : Cm X .In (f a) (lstA (l.map f)) (decide (a ∈ l)) := by
  obtain ⟨g, h1, h2, h3, h4⟩ := h.ex
  refine ⟨_, op_inD (by have := hr.un; omega), fun x y H Q p q z => ⟨g a, l.map g, h1 a H x p, dat_lst h1 l H y q, shaped_of (h4 a ha) (by have := h3 a; omega), ?_, ?_⟩⟩
  · refine shaped_of (by simp only [PyData.canLay0]; exact canAll_map l fun a ha => h4 a (hl a ha)) ?_
    have q := depthAll_map (n := n) l fun a => h3 a
    simp only [PyData.depth]
    omega
  · rw [any_eqv h2, dec_irr _ i]
    exact z
theorem cm_notinD {a : α} {l : List α} {i : Decidable (a ∈ l)} (hr : Room k X.A) (h : Enc X.K n f ok) (ha : ok a) (hl : okL ok l) (hn : n ≤ 60 := by decide) : Cm X .NotIn (f a) (lstA (l.map f)) (!decide (a ∈ l)) := by
  obtain ⟨g, h1, h2, h3, h4⟩ := h.ex
  refine ⟨_, op_notInD (by have := hr.un; omega), fun x y H Q p q z => ⟨g a, l.map g, h1 a H x p, dat_lst h1 l H y q, shaped_of (h4 a ha) (by have := h3 a; omega), ?_, ?_⟩⟩
  · refine shaped_of (by simp only [PyData.canLay0]; exact canAll_map l fun a ha => h4 a (hl a ha)) ?_
    have q := depthAll_map (n := n) l fun a => h3 a
    simp only [PyData.depth]
    omega
  · rw [any_eqv h2, dec_irr _ i]
    exact z
theorem cm_eq {a b : α} (hr : Room k X.A) (h : Enc X.K n f ok) (ha : ok a) (hb : ok b) (hn : n ≤ 60 := by decide) : Cm X .Eq (f a) (f b) (decide (a = b)) := cm_eqD hr h ha hb hn
theorem cm_ne {a b : α} (hr : Room k X.A) (h : Enc X.K n f ok) (ha : ok a) (hb : ok b) (hn : n ≤ 60 := by decide) : Cm X .NotEq (f a) (f b) (!decide (a = b)) := cm_neD hr h ha hb hn
theorem cm_in {a : α} {l : List α} (hr : Room k X.A) (h : Enc X.K n f ok) (ha : ok a) (hl : okL ok l) (hn : n ≤ 60 := by decide) : Cm X .In (f a) (lstA (l.map f)) (decide (a ∈ l)) := cm_inD hr h ha hl hn
theorem cm_notin {a : α} {l : List α} (hr : Room k X.A) (h : Enc X.K n f ok) (ha : ok a) (hl : okL ok l) (hn : n ≤ 60 := by decide) : Cm X .NotIn (f a) (lstA (l.map f)) (!decide (a ∈ l)) := cm_notinD hr h ha hl hn
end
theorem pigeon {α : Type} [DecidableEq α] : ∀ {l m : List α}, l.Nodup → (∀ a ∈ l, a ∈ m) → l.length ≤ m.length
  | [], m, _, _ => Nat.zero_le _
  | a :: l, m, h, s => by
    obtain ⟨h1, h2⟩ := List.nodup_cons.mp h
    have ha := s a List.mem_cons_self
    have k := pigeon (l := l) (m := m.erase a) h2 fun b hb => (List.mem_erase_of_ne (fun e => h1 (by rw [← e]; exact hb))).mpr (s b (List.mem_cons_of_mem _ hb))
    rw [List.length_erase_of_mem ha] at k
    have := List.length_pos_of_mem ha
    rw [List.length_cons]
    omega
end Lk

set_option Elab.async false
set_option linter.all false
set_option maxRecDepth 100000
set_option maxHeartbeats 4000000
namespace Lk
open PySem PySem.Calls L2
/-! ### objects, dicts -/
def insA (C : Addr) (fs : List (Str × As)) : As := ⟨fun F v => ∃ a dx vs, v = .ref a ∧ F a = some (.ins C dx ((fs.map Prod.fst).zip vs)) ∧ AllV F vs (fs.map Prod.snd), fun e ⟨a, dx, vs, h1, h2, h3⟩ => ⟨a, dx, vs, h1, e a _ h2, h3.mono e⟩⟩
def dkA (l : List (Str × As)) : As := ⟨fun F v => ∃ a vs, v = .ref a ∧ F a = some (.dK ((l.map fun x => (Sum.inr x.1 : Key)).zip vs)) ∧ AllV F vs (l.map Prod.snd), fun e ⟨a, vs, h1, h2, h3⟩ => ⟨a, vs, h1, e a _ h2, h3.mono e⟩⟩
def kT (k : List Str) : List Key := k.map Sum.inr
def dtA (l : List (List Str × As)) : As := ⟨fun F v => ∃ a vs, v = .ref a ∧ F a = some (.dT ((l.map fun x => kT x.1).zip vs)) ∧ AllV F vs (l.map Prod.snd), fun e ⟨a, vs, h1, h2, h3⟩ => ⟨a, vs, h1, e a _ h2, h3.mono e⟩⟩
theorem kT_inj {a b : List Str} (h : kT a = kT b) : a = b := by
  unfold kT at h
  exact (List.map_inj_right (fun x y e => by simpa using e)).mp h
theorem kT_kV (k : List Str) : (kT k).map kV = k.map V.str := by
  unfold kT
  rw [List.map_map]
  rfl
/-- a field's place -/
theorem zip_lookup {F : Hp} {f : Str} {A : As} : ∀ {fs : List (Str × As)} {vs : List V}, AllV F vs (fs.map Prod.snd) → fs.lookup f = some A → ∃ v, ((fs.map Prod.fst).zip vs).lookup f = some v ∧ A.p F v
  | [], _, _, h => by simp at h
  | (g, B) :: fs, v :: vs, h, e => by
    rw [List.map_cons, List.zip_cons_cons]
    by_cases hf : f = g
    · subst hf
      have e : B = A := by simpa [List.lookup] using e
      subst e
      exact ⟨v, by simp [List.lookup], h.1⟩
    · have hb : (f == g) = false := by simpa using hf
      rw [List.lookup, hb] at e
      obtain ⟨u, h1, h2⟩ := zip_lookup (fs := fs) (vs := vs) h.2 e
      exact ⟨u, by rw [List.lookup, hb]; exact h1, h2⟩
  | _ :: _, [], h, _ => h.elim
theorem zip_nolook {F : Hp} {f : Str} : ∀ {fs : List (Str × As)} {vs : List V}, AllV F vs (fs.map Prod.snd) → fs.lookup f = none → ((fs.map Prod.fst).zip vs).lookup f = none
  | [], _, _, _ => by simp
  | (g, B) :: fs, v :: vs, h, e => by
    rw [List.map_cons, List.zip_cons_cons]
    by_cases hf : f = g
    · subst hf
      simp [List.lookup] at e
    · have hb : (f == g) = false := by simpa using hf
      rw [List.lookup, hb] at e
      rw [List.lookup, hb]
      exact zip_nolook (fs := fs) (vs := vs) h.2 e
  | _ :: _, [], h, _ => h.elim
/-- a key's place: κ the keys of the model, r how they are laid -/
theorem valV_zip {κ μ : Type} [DecidableEq κ] [BEq μ] [LawfulBEq μ] {r : μ → κ} (inj : ∀ x y, r x = r y → x = y) {F : Hp} {k : μ} {A : As} : ∀ {l : List (μ × As)} {vs : List V}, AllV F vs (l.map Prod.snd) → l.lookup k = some A → ∃ v, valV ((l.map fun x => r x.1).zip vs) (r k) = some v ∧ A.p F v
  | [], _, _, h => by simp at h
  | (g, B) :: l, v :: vs, h, e => by
    rw [List.map_cons, List.zip_cons_cons]
    by_cases hf : k = g
    · subst hf
      have e : B = A := by simpa [List.lookup] using e
      subst e
      exact ⟨v, valV_pos rfl, h.1⟩
    · have hb : (k == g) = false := by simpa using hf
      rw [List.lookup, hb] at e
      obtain ⟨u, h1, h2⟩ := valV_zip inj (l := l) (vs := vs) h.2 e
      exact ⟨u, by rw [valV_neg fun z => hf (inj _ _ z).symm]; exact h1, h2⟩
  | _ :: _, [], h, _ => h.elim
theorem valV_nozip {κ μ : Type} [DecidableEq κ] [BEq μ] [LawfulBEq μ] {r : μ → κ} (inj : ∀ x y, r x = r y → x = y) {F : Hp} {k : μ} : ∀ {l : List (μ × As)} {vs : List V}, AllV F vs (l.map Prod.snd) → l.lookup k = none → valV ((l.map fun x => r x.1).zip vs) (r k) = none
  | [], _, _, _ => by simp [valV]
  | (g, B) :: l, v :: vs, h, e => by
    rw [List.map_cons, List.zip_cons_cons]
    by_cases hf : k = g
    · subst hf
      simp [List.lookup] at e
    · have hb : (k == g) = false := by simpa using hf
      rw [List.lookup, hb] at e
      rw [valV_neg fun z => hf (inj _ _ z).symm]
      exact valV_nozip inj (l := l) (vs := vs) h.2 e
  | _ :: _, [], h, _ => h.elim
theorem inr_inj (x y : Str) (h : (Sum.inr x : Key) = Sum.inr y) : x = y := by simpa using h
theorem dget_k {H : Hp} {F : Hp} {a : Addr} {l : List (Str × As)} {vs : List V} (k : Str) (e : Ex F H) (h : F a = some (.dK ((l.map fun x => (Sum.inr x.1 : Key)).zip vs))) : DGet H a (.str k) (valV ((l.map fun x => (Sum.inr x.1 : Key)).zip vs) (Sum.inr k)) := DGet.k (k := Sum.inr k) (e a _ h)
theorem dget_t {H : Hp} {F : Hp} {a b : Addr} {l : List (List Str × As)} {vs : List V} {k : List Str} (e : Ex F H) (h : F a = some (.dT ((l.map fun x => kT x.1).zip vs))) (hb : H b = some (.tup (k.map V.str))) : DGet H a (.ref b) (valV ((l.map fun x => kT x.1).zip vs) (kT k)) := DGet.t (e a _ h) (by rw [kT_kV]; exact hb)
theorem strs_at {F : Hp} {k : List Str} {v : V} (h : (tupA (k.map str)).p F v) : ∃ b, v = .ref b ∧ F b = some (.tup (k.map V.str)) := by
  obtain ⟨b, xs, e, h1, h2⟩ := h
  have e2 : xs = k.map V.str := AllV.scs (F := F) (by rw [List.map_map]; exact h2)
  exact ⟨b, e, by rw [h1, e2]⟩
theorem strs_of {F : Hp} {k : List Str} {b : Addr} (h : F b = some (.tup (k.map V.str))) : (tupA (k.map str)).p F (.ref b) := ⟨b, _, rfl, h, by
  have q := AllV.of_scs (F := F) (cs := k.map V.str)
  rw [List.map_map] at q
  exact q⟩
theorem lsts_at {F : Hp} {k : List Str} {v : V} (h : (lstA (k.map str)).p F v) : ∃ b, v = .ref b ∧ F b = some (.lst (k.map V.str)) := by
  obtain ⟨b, xs, e, h1, h2⟩ := h
  have e2 : xs = k.map V.str := AllV.scs (F := F) (by rw [List.map_map]; exact h2)
  exact ⟨b, e, by rw [h1, e2]⟩
theorem lsts_of {F : Hp} {k : List Str} {b : Addr} (h : F b = some (.lst (k.map V.str))) : (lstA (k.map str)).p F (.ref b) := ⟨b, _, rfl, h, by
  have q := AllV.of_scs (F := F) (cs := k.map V.str)
  rw [List.map_map] at q
  exact q⟩
section
variable {X : Cx} {e a b c o i : Expr} {es : List Expr} {ρ : List En} {A B : As} {pos apos : Pos} {k : Nat}
/-- e.f -/
theorem ea_fld {C : Addr} {fs : List (Str × As)} {f : Str} (he : EA X e ρ (insA C fs)) (hC : Cls X.K C) (hn : NoAttr X.K C f) (hf : fs.lookup f = some A) (hb : attributeBase e f X.env (eval e X.env) = eval e X.env := by rfl) : EA X (.Attribute e f pos) ρ A :=
  pe_imp (pe_fld he hb) fun σ H Q ⟨H0, F, S, q⟩ => ⟨H0, F, S, fun v H1 F1 g1 ⟨p, dx, vs, ev, h1, h2⟩ => by
    obtain ⟨u, hu, hA⟩ := zip_lookup h2 hf
    exact ⟨p, C, dx, _, u, ev, g1.i p _ h1, hC, hn, hu, q u H1 F1 g1 hA⟩⟩
/-- d[k] -/
theorem ea_getK {l : List (Str × As)} {s : Str} (hr : Room k X.A) (ho : EA X o ρ (dkA l)) (hi : EW X i ρ (str s)) (hl : l.lookup s = some A) (hs : NoSl i := by exact fun _ _ => rfl) : EA X (.Subscript o i pos) ρ A :=
  pe_imp (pe_dget (hu_of hr) ho hi hs) fun σ H Q ⟨H0, F, S, q⟩ => ⟨H0, F, S, fun v H1 F1 g1 ⟨p, vs, ev, h1, h2⟩ => ⟨H0, F1, S.gr g1, fun y H2 F2 g2 hy => by
    have hy : y = .str s := hy
    subst hy
    obtain ⟨u, hu, hA⟩ := valV_zip (r := (Sum.inr : Str → Key)) inr_inj (h2.mono g2.f) hl
    exact ⟨p, u, ev, hu ▸ dget_k (F := F2) s g2.i (g2.f p _ h1), q u H2 F2 (g1.trans g2) hA⟩⟩⟩
theorem ea_getT {l : List (List Str × As)} {s : List Str} (hr : Room k X.A) (ho : EA X o ρ (dtA l)) (hi : EA X i ρ (tupA (s.map str))) (hl : l.lookup s = some A) (hs : NoSl i := by exact fun _ _ => rfl) : EA X (.Subscript o i pos) ρ A :=
  pe_imp (pe_dget (hu_of hr) ho hi hs) fun σ H Q ⟨H0, F, S, q⟩ => ⟨H0, F, S, fun v H1 F1 g1 ⟨p, vs, ev, h1, h2⟩ => ⟨H0, F1, S.gr g1, fun y H2 F2 g2 hy => by
    obtain ⟨b, rfl, hb⟩ := strs_at hy
    obtain ⟨u, hu, hA⟩ := valV_zip (r := kT) (fun _ _ => kT_inj) (h2.mono g2.f) hl
    exact ⟨p, u, ev, hu ▸ dget_t (F := F2) g2.i (g2.f p _ h1) (g2.i b _ hb), q u H2 F2 (g1.trans g2) hA⟩⟩⟩
/-- k in d, k not in d -/
theorem et_inK {l : List (Str × As)} {s : Str} (hr : Room k X.A) (hi : EW X i ρ (str s)) (ho : EA X o ρ (dkA l)) (hm : behindInMarks .In o = false) : ET X (.Compare i [.In] [o] pos) ρ (l.lookup s).isSome :=
  pt_imp (pt_cmp (pc_din (hu_of hr) hi ho) hm) fun σ H Q ⟨H0, F, S, q⟩ => ⟨H0, F, S, fun y H1 F1 g1 hy => ⟨H0, F1, S.gr g1, fun v H2 F2 g2 ⟨p, vs, ev, h1, h2⟩ => by
    have hy : y = .str s := hy
    subst hy
    refine ⟨p, _, ev, dget_k (F := F2) s g2.i h1, ?_⟩
    have z : (valV ((l.map fun x => (Sum.inr x.1 : Key)).zip vs) (Sum.inr s)).isSome = (l.lookup s).isSome := by
      cases hl : l.lookup s with
      | none =>
        rw [valV_nozip (r := (Sum.inr : Str → Key)) inr_inj h2 hl]
        rfl
      | some A =>
        obtain ⟨u, hu, _⟩ := valV_zip (r := (Sum.inr : Str → Key)) inr_inj h2 hl
        rw [hu]; rfl
    rw [z]
    exact ⟨_, rfl, q H2 F2 (g1.trans g2)⟩⟩⟩
theorem et_notinK {l : List (Str × As)} {s : Str} (hr : Room k X.A) (hi : EW X i ρ (str s)) (ho : EA X o ρ (dkA l)) (hm : behindInMarks .NotIn o = false) : ET X (.Compare i [.NotIn] [o] pos) ρ (!(l.lookup s).isSome) :=
  pt_imp (pt_cmp (pc_dnotin (hu_of hr) hi ho) hm) fun σ H Q ⟨H0, F, S, q⟩ => ⟨H0, F, S, fun y H1 F1 g1 hy => ⟨H0, F1, S.gr g1, fun v H2 F2 g2 ⟨p, vs, ev, h1, h2⟩ => by
    have hy : y = .str s := hy
    subst hy
    refine ⟨p, _, ev, dget_k (F := F2) s g2.i h1, ?_⟩
    have z : (valV ((l.map fun x => (Sum.inr x.1 : Key)).zip vs) (Sum.inr s)).isSome = (l.lookup s).isSome := by
      cases hl : l.lookup s with
      | none =>
        rw [valV_nozip (r := (Sum.inr : Str → Key)) inr_inj h2 hl]
        rfl
      | some A =>
        obtain ⟨u, hu, _⟩ := valV_zip (r := (Sum.inr : Str → Key)) inr_inj h2 hl
        rw [hu]; rfl
    rw [z]
    exact ⟨_, rfl, q H2 F2 (g1.trans g2)⟩⟩⟩
theorem et_notinT {l : List (List Str × As)} {s : List Str} (hr : Room k X.A) (hi : EA X i ρ (tupA (s.map str))) (ho : EA X o ρ (dtA l)) (hm : behindInMarks .NotIn o = false) : ET X (.Compare i [.NotIn] [o] pos) ρ (!(l.lookup s).isSome) :=
  pt_imp (pt_cmp (pc_dnotin (hu_of hr) hi ho) hm) fun σ H Q ⟨H0, F, S, q⟩ => ⟨H0, F, S, fun y H1 F1 g1 hy => ⟨H0, F1, S.gr g1, fun v H2 F2 g2 ⟨p, vs, ev, h1, h2⟩ => by
    obtain ⟨b, rfl, hb⟩ := strs_at hy
    refine ⟨p, _, ev, dget_t (F := F2) g2.i h1 (g2.h b _ (g1.i b _ hb)), ?_⟩
    have z : (valV ((l.map fun x => kT x.1).zip vs) (kT s)).isSome = (l.lookup s).isSome := by
      cases hl : l.lookup s with
      | none =>
        rw [valV_nozip (r := kT) (fun _ _ => kT_inj) h2 hl]
        rfl
      | some A =>
        obtain ⟨u, hu, _⟩ := valV_zip (r := kT) (fun _ _ => kT_inj) h2 hl
        rw [hu]; rfl
    rw [z]
    exact ⟨_, rfl, q H2 F2 (g1.trans g2)⟩⟩⟩
/-- a <= b <= c -/
theorem ea_chainLe {x y z : Int} (ha : EW X a ρ (int x)) (hb : EW X b ρ (int y)) (hc : EW X c ρ (int z)) (hm : lastMarks [.LtE, .LtE] [b, c] = false) : EA X (.Compare a [.LtE, .LtE] [b, c] pos) ρ (bl (decide (x ≤ y) && decide (y ≤ z))) :=
  pe_imp (pe_chain op_le op_le ha hb hc hm) fun σ H Q ⟨H0, F, S, q⟩ => ⟨H0, F, S, fun v H1 F1 g1 h1 => ⟨H0, F1, S.gr g1, fun u H2 F2 g2 h2 => by
    have h1 : v = .int x := h1
    have h2 : u = .int y := h2
    subst h1 h2
    refine ⟨x, y, rfl, rfl, _, rfl, ?_⟩
    have g := g1.trans g2
    by_cases hxy : x ≤ y
    · rw [if_pos (decide_eq_true hxy)]
      refine ⟨H0, F2, (S.gr g1).gr g2, fun t H3 F3 g3 h3 => ?_⟩
      have h3 : t = .int z := h3
      subst h3
      refine ⟨y, z, rfl, rfl, q _ H3 F3 (g.trans g3) ?_⟩
      show V.bl _ = V.bl _
      rw [decide_eq_true hxy, Bool.true_and]
    · rw [if_neg (by simpa using hxy)]
      refine q _ H2 F2 g ?_
      show V.bl _ = V.bl _
      rw [decide_eq_false hxy, Bool.false_and]⟩⟩
theorem ea_isascii {s : Str} (he : EW X e ρ (str s)) (hbase : attributeBase e "isascii" X.env (eval e X.env) = eval e X.env := by rfl) (hline : (apos.endLine == pos.line) = true := by rfl) : EA X (.Call (.Attribute e "isascii" apos) [] [] pos) ρ (bl (Txt.isascii s)) :=
  pe_imp (pe_bm0 PySem.F.plainAttrs_str PySem.F.slot_str_isascii PySem.F.type_str_isascii mt_isascii he hbase hline) fun σ H Q ⟨H0, F, S, q⟩ => ⟨H0, F, S, fun v H1 F1 g1 h1 => by
    have h1 : v = .str s := h1
    subst h1
    exact ⟨by first | exact .inl ⟨_, rfl⟩ | exact .inr (.inl ⟨_, rfl⟩) | exact ⟨_, rfl⟩ | trivial | rfl, s, rfl, rfl, trivial, q _ H1 F1 g1 rfl⟩⟩
theorem ea_isalnum {s : Str} (he : EW X e ρ (str s)) (hbase : attributeBase e "isalnum" X.env (eval e X.env) = eval e X.env := by rfl) (hline : (apos.endLine == pos.line) = true := by rfl) : EA X (.Call (.Attribute e "isalnum" apos) [] [] pos) ρ (bl (Txt.isalnum s)) :=
  pe_imp (pe_bm0 PySem.F.plainAttrs_str PySem.F.slot_str_isalnum PySem.F.type_str_isalnum mt_isalnum he hbase hline) fun σ H Q ⟨H0, F, S, q⟩ => ⟨H0, F, S, fun v H1 F1 g1 h1 => by
    have h1 : v = .str s := h1
    subst h1
    exact ⟨by first | exact .inl ⟨_, rfl⟩ | exact .inr (.inl ⟨_, rfl⟩) | exact ⟨_, rfl⟩ | trivial | rfl, s, rfl, rfl, trivial, q _ H1 F1 g1 rfl⟩⟩
end
end Lk

set_option Elab.async false
set_option linter.all false
set_option maxRecDepth 100000
set_option maxHeartbeats 4000000
namespace Lk
open PySem PySem.Calls L2 PySem.Spec PyProof.Rows

/-! ### methods of a class -/
structure Mf (P : Program) (w : World) (K : PySem.W.Frag) (mg : Str → Option Value) (base : Heap) (k : Nat) (C : Addr) (m : Str) (ps : List Str) (sp : Sp) : Prop where
  ex : ∃ f fd, FnOk P w K mg base CX0 k f fd ps sp ∧ Meth K C m f ∧ Binds K fd ps []
theorem Mf.mono {P : Program} {w : World} {K : PySem.W.Frag} {mg : Str → Option Value} {base : Heap} {j k : Nat} {C : Addr} {x : Str} {ps : List Str} {sp : Sp} (D : Mf P w K mg base j C x ps sp) (h : j ≤ k) : Mf P w K mg base k C x ps sp :=
  let ⟨f, fd, h1, h2⟩ := D.ex
  ⟨f, fd, h1.mono h, h2⟩
structure Pf (P : Program) (w : World) (K : PySem.W.Frag) (mg : Str → Option Value) (base : Heap) (k : Nat) (C : Addr) (m : Str) (sp : Sp) : Prop where
  ex : ∃ p g fd, FnOk P w K mg base CX0 k g fd ["self"] sp ∧ PropOf K C m p g ∧ Binds K fd ["self"] []
structure Mk1 (P : Program) (w : World) (K : PySem.W.Frag) (mg : Str → Option Value) (base : Heap) (k : Nat) (C : Addr) (x : Str) (ps : List Str) (sp : Sp) : Prop where
  ex : ∃ f fd, FnOk P w K mg base CX0 k f fd ps sp ∧ Mk K C f ∧ Binds K fd ps [] ∧ mg x = some (.ref C)
/-- what a constructor promises: H1 the heap before -/
def spMk {ι : Type} (C : Addr) (pre : ι → Prop) (l : ι → List As) (A : ι → As) : Sp := fun vs H Q _ => ∃ i, pre i ∧ ∃ (H1 F : Hp) (p dx : Addr) (as : List V), vs = .ref p :: as ∧ H = upd (upd H1 dx (.own p)) p (.ins C dx []) ∧ H1 p = none ∧ H1 dx = none ∧ dx ≠ p ∧ Ex F H1 ∧ AllV F as (l i) ∧
  ∀ H' F', Gr F H1 F' H' → (A i).p F' (.ref p) → Q .non H'
section
variable {X : Cx} {e a b c o : Expr} {es : List Expr} {ρ : List En} {A B : As} {pos apos p1 : Pos} {k : Nat} {ι : Type} {pre : ι → Prop} {l : ι → List As} {AA : ι → As} {ps : List Str} {C : Addr} {m x : Str} {fs : List (Str × As)} {la : List As}
theorem ea_meth {pl : Sem Bool} (D : Mf X.prog X.w X.K X.mg X.base k C m ps (spX pre l AA)) (hr : Room k X.A) (hC : Cls X.K C) (i : ι) (hp : pre i) (ho : EA X o ρ (insA C fs)) (hm : fs.lookup m = none) (ha : EAs X (e :: es) ρ la) (hl : l i = insA C fs :: la)
    (he : starEach (e :: es) X.env = (false, eval e X.env) :: starEach es X.env := by rfl) (hpl : (backTo pos (starEach es X.env)).any (·.1) = false := by rfl)
    (hev : eval (.Call (.Attribute o m apos) (e :: es) [] pos) X.env = (do
      let ov ← eval o X.env
      standAt apos.atName
      let (f, first) ← holding [ov] (getMethod ov m pl)
      callWith pos f first (backTo pos (starEach (e :: es) X.env)) (backToKw pos (keywordEach [] X.env))) := by rfl) : EA X (.Call (.Attribute o m apos) (e :: es) [] pos) ρ (AA i) := by
  obtain ⟨f, fd, G, hM, hb⟩ := D.ex
  refine pe_imp (pe_meth ho hC hM G hr hb .nil pass0 ha he hpl hev) fun σ H Q ⟨H0, F, S, q⟩ => ⟨H0, F, S, fun v H1 F1 g1 ⟨p, dx, vs, ev, h1, h2⟩ => ⟨p, dx, _, ev, g1.i p _ h1, zip_nolook h2 hm, H0, F1, S.gr g1, fun us H2 F2 g2 hu => ?_⟩⟩
  show spX pre l AA (v :: (us ++ [])) H2 Q E0
  rw [List.append_nil]
  refine ⟨i, hp, F2, g2.i, ?_, fun v H' F' g hv => q v H' F' ((g1.trans g2).trans g) hv⟩
  rw [hl]
  exact ⟨(insA C fs).mono g2.f ⟨p, dx, vs, ev, h1, h2⟩, hu⟩
theorem ea_prop (D : Pf X.prog X.w X.K X.mg X.base k C m (spX pre l AA)) (hr : Room (k + 1) X.A) (hC : Cls X.K C) (i : ι) (hp : pre i) (ho : EA X o ρ (insA C fs)) (hl : l i = [insA C fs])
    (hab : attributeBase o m X.env (eval o X.env) = eval o X.env := by rfl) : EA X (.Attribute o m pos) ρ (AA i) := by
  obtain ⟨p, g, fd, G, hP, hb⟩ := D.ex
  refine pe_imp (pe_prop ho hC hP G hr hb .nil pass0 hab) fun σ H Q ⟨H0, F, S, q⟩ => ⟨H0, F, S, fun v H1 F1 g1 ⟨p, dx, vs, ev, h1, h2⟩ => ⟨p, dx, _, ev, g1.i p _ h1, i, hp, F1, g1.i, ?_, fun v H' F' g hv => q v H' F' (g1.trans g) hv⟩⟩
  rw [hl]
  exact ⟨⟨p, dx, vs, rfl, h1, h2⟩, trivial⟩
theorem ea_propB (D : Pf X.prog X.w X.K X.mg X.base k C m (spX pre l AA)) (hr : Room (k + 1) X.A) (hC : Cls X.K C) (i : ι) (hp : pre i) (hA : AA i = A) (ho : EA X o ρ (insA C fs)) (hl : l i = [insA C fs])
    (hab : attributeBase o m X.env (eval o X.env) = eval o X.env := by rfl) : EA X (.Attribute o m pos) ρ A := hA ▸ ea_prop D hr hC i hp ho hl hab
theorem ea_methB {pl : Sem Bool} (D : Mf X.prog X.w X.K X.mg X.base k C m ps (spX pre l AA)) (hr : Room k X.A) (hC : Cls X.K C) (i : ι) (hp : pre i) (hA : AA i = A) (ho : EA X o ρ (insA C fs)) (hm : fs.lookup m = none) (ha : EAs X (e :: es) ρ la) (hl : l i = insA C fs :: la)
    (he : starEach (e :: es) X.env = (false, eval e X.env) :: starEach es X.env := by rfl) (hpl : (backTo pos (starEach es X.env)).any (·.1) = false := by rfl)
    (hev : eval (.Call (.Attribute o m apos) (e :: es) [] pos) X.env = (do
      let ov ← eval o X.env
      standAt apos.atName
      let (f, first) ← holding [ov] (getMethod ov m pl)
      callWith pos f first (backTo pos (starEach (e :: es) X.env)) (backToKw pos (keywordEach [] X.env))) := by rfl) : EA X (.Call (.Attribute o m apos) (e :: es) [] pos) ρ A := hA ▸ ea_meth D hr hC i hp ho hm ha hl he hpl hev
theorem make_end {i : ι} {C : Addr} {F H1 H : Hp} {σ : L2.St} {Q : VK} {as : List V} (hp : pre i) (e : Ex F H1) (ha : AllV F as (l i)) (q : ∀ v H' F', Gr F H1 F' H' → (AA i).p F' v → Q v H') :
    ∀ x dx, H1 x = none → H1 dx = none → dx ≠ x → spMk C pre l AA (.ref x :: (as ++ [])) (upd (upd H1 dx (.own x)) x (.ins C dx [])) (fun v H2 => v = .non ∧ Q (.ref x) H2) E0 := fun x dx hx hdx hne =>
  ⟨i, hp, H1, F, x, dx, as, by rw [List.append_nil], rfl, hx, hdx, hne, e, ha, fun H' F' g hA => ⟨rfl, q _ H' F' g hA⟩⟩
theorem ea_make (D : Mk1 X.prog X.w X.K X.mg X.base k C x ps (spMk C pre l AA)) (hr : Room (k + 1) X.A) (i : ι) (hp : pre i) (ha : EAs X (e :: es) ρ (l i)) (hg : Gl X x := by rfl)
    (hdb : (x == ("__debug__" : Str)) = false := by decide) (he : starEach (e :: es) X.env = (false, eval e X.env) :: starEach es X.env := by rfl) (hpl : (backTo pos (starEach es X.env)).any (·.1) = false := by rfl) : EA X (.Call (.Name x p1) (e :: es) [] pos) ρ (AA i) := by
  obtain ⟨f, fd, G, hM, hb, hm⟩ := D.ex
  exact pe_imp (pe_make hM G hr hg hm hb .nil pass0 ha hdb he hpl) fun σ H Q ⟨H0, F, S, q⟩ => ⟨H0, F, S, fun us H1 F1 g1 hu => make_end (H := H) (σ := σ) hp g1.i hu fun v H' F' g hv => q v H' F' (g1.trans g) hv⟩
theorem ea_make0 (D : Mk1 X.prog X.w X.K X.mg X.base k C x ps (spMk C pre l AA)) (hr : Room (k + 1) X.A) (i : ι) (hp : pre i) (hl : l i = []) (hg : Gl X x := by rfl)
    (hdb : (x == ("__debug__" : Str)) = false := by decide) : EA X (.Call (.Name x p1) [] [] pos) ρ (AA i) := by
  obtain ⟨f, fd, G, hM, hb, hm⟩ := D.ex
  exact pe_imp (pe_make0 hM G hr hg hm hb .nil pass0 hdb) fun σ H Q ⟨H0, F, S, q⟩ => make_end (as := []) (H := H) (σ := σ) hp S.ex (by rw [hl]; trivial) q
theorem ea_makeB (D : Mk1 X.prog X.w X.K X.mg X.base k C x ps (spMk C pre l AA)) (hr : Room (k + 1) X.A) (i : ι) (hp : pre i) (hA : AA i = A) (ha : EAs X (e :: es) ρ (l i)) (hg : Gl X x := by rfl)
    (hdb : (x == ("__debug__" : Str)) = false := by decide) (he : starEach (e :: es) X.env = (false, eval e X.env) :: starEach es X.env := by rfl) (hpl : (backTo pos (starEach es X.env)).any (·.1) = false := by rfl) : EA X (.Call (.Name x p1) (e :: es) [] pos) ρ A := hA ▸ ea_make D hr i hp ha hg hdb he hpl
theorem ea_make0B (D : Mk1 X.prog X.w X.K X.mg X.base k C x ps (spMk C pre l AA)) (hr : Room (k + 1) X.A) (i : ι) (hp : pre i) (hA : AA i = A) (hl : l i = []) (hg : Gl X x := by rfl)
    (hdb : (x == ("__debug__" : Str)) = false := by decide) : EA X (.Call (.Name x p1) [] [] pos) ρ A := hA ▸ ea_make0 D hr i hp hl hg hdb
/-! ### in, by an own __contains__ -/
theorem op_inO {CX : CXT} {f : Addr} {fd : FuncData} {sp : Sp} {E : XK} (G : FnOk X.prog X.w X.K X.mg X.base CX k f fd ps sp) (hr : Room k X.A) (hs : PySem.W.findIn X.K (.ref C) "__contains__" = some (some (.ref f))) (hf : PySem.W.isFn X.K (.ref f) = true) (hb : Binds X.K fd ps []) (hx : Passes CX X E) :
    OpR X (compareOp .In) (fun x y H Q => ∃ a dx fs, y = .ref a ∧ H a = some (.ins C dx fs) ∧ sp [.ref a, x] H (fun v H' => ∃ b, v = .bl b ∧ Q (.bl b) H') E) := by
  intro pins s σ H x y v u Q I rx ry hq
  obtain ⟨a, dx, fs, rfl, ha, hsp⟩ := hq
  cases ry
  obtain ⟨mA, J, _⟩ := ins_get I.hok ha
  obtain ⟨od, J, _⟩ := J.look
  obtain ⟨m, hF⟩ := I.fr
  refine PySem.W.in_K hF I.ok.mod.kin J hs hf ?_
  have hl := G.len _ _ _ _ hsp
  have r2 : Vals [V.ref a, x] [Value.ref a, v] := .cons rfl (.cons rx .nil)
  refine wpAny_call (codeAny_mono (G.run X.A X.stack s H ⟨[.ref a, v], []⟩ [.ref a, v] [.ref a, x] _ E hr I.env0 (by
    have := hb s [.ref a, v] I.kIn (by simpa using hl)
    simpa using this) r2 hsp) fun r s' hq => ?_)
  cases r with
  | error e => exact hx pins σ H s e s' I hq
  | ok fl =>
    cases fl with
    | ret w =>
      obtain ⟨z, H', I', rz, b, ez, q⟩ := I.after hq
      subst ez
      cases rz
      exact wpAny_truthy_bool ⟨.bl b, H', I', rfl, q⟩
    | next => exact False.elim hq
    | brk => exact False.elim hq
    | cont => exact False.elim hq
theorem op_notinO {CX : CXT} {f : Addr} {fd : FuncData} {sp : Sp} {E : XK} (G : FnOk X.prog X.w X.K X.mg X.base CX k f fd ps sp) (hr : Room k X.A) (hs : PySem.W.findIn X.K (.ref C) "__contains__" = some (some (.ref f))) (hf : PySem.W.isFn X.K (.ref f) = true) (hb : Binds X.K fd ps []) (hx : Passes CX X E) :
    OpR X (compareOp .NotIn) (fun x y H Q => ∃ a dx fs, y = .ref a ∧ H a = some (.ins C dx fs) ∧ sp [.ref a, x] H (fun v H' => ∃ b, v = .bl b ∧ Q (.bl (!b)) H') E) := by
  intro pins s σ H x y v u Q I rx ry hq
  obtain ⟨a, dx, fs, rfl, ha, hsp⟩ := hq
  cases ry
  obtain ⟨mA, J, _⟩ := ins_get I.hok ha
  obtain ⟨od, J, _⟩ := J.look
  obtain ⟨m, hF⟩ := I.fr
  refine PySem.W.notIn_K hF I.ok.mod.kin J hs hf ?_
  have hl := G.len _ _ _ _ hsp
  have r2 : Vals [V.ref a, x] [Value.ref a, v] := .cons rfl (.cons rx .nil)
  refine wpAny_call (codeAny_mono (G.run X.A X.stack s H ⟨[.ref a, v], []⟩ [.ref a, v] [.ref a, x] _ E hr I.env0 (by
    have := hb s [.ref a, v] I.kIn (by simpa using hl)
    simpa using this) r2 hsp) fun r s' hq => ?_)
  cases r with
  | error e => exact hx pins σ H s e s' I hq
  | ok fl =>
    cases fl with
    | ret w =>
      obtain ⟨z, H', I', rz, b, ez, q⟩ := I.after hq
      subst ez
      cases rz
      exact wpAny_truthy_bool ⟨.bl (!b), H', I', rfl, q⟩
    | next => exact False.elim hq
    | brk => exact False.elim hq
    | cont => exact False.elim hq
theorem et_inO {bb : Bool} (D : Mf X.prog X.w X.K X.mg X.base k C "__contains__" ps (spX pre l AA)) (hr : Room k X.A) (i : ι) (hp : pre i) (ha : EA X a ρ A) (ho : EA X o ρ (insA C fs)) (hl : l i = [insA C fs, A]) (hA : AA i = bl bb) (hm : behindInMarks .In o = false) : ET X (.Compare a [.In] [o] pos) ρ bb := by
  obtain ⟨f, fd, G, hM, hb⟩ := D.ex
  refine pt_imp (pt_cmpR (op_inO G hr hM.at_ hM.fn hb pass0) ha ho hm) fun σ H Q ⟨H0, F, S, q⟩ => ⟨H0, F, S, fun x H1 F1 g1 h1 => ⟨H0, F1, S.gr g1, fun y H2 F2 g2 ⟨p, dx, vs, ev, z1, z2⟩ => ⟨p, dx, _, ev, g2.i p _ z1, i, hp, F2, g2.i, ?_, fun v H' F' g hv => ?_⟩⟩⟩
  · rw [hl]
    exact ⟨⟨p, dx, vs, rfl, z1, z2⟩, A.mono g2.f h1, trivial⟩
  · rw [hA] at hv
    exact ⟨bb, hv, bb, rfl, q H' F' ((g1.trans g2).trans g)⟩
theorem et_notinO {bb : Bool} (D : Mf X.prog X.w X.K X.mg X.base k C "__contains__" ps (spX pre l AA)) (hr : Room k X.A) (i : ι) (hp : pre i) (ha : EA X a ρ A) (ho : EA X o ρ (insA C fs)) (hl : l i = [insA C fs, A]) (hA : AA i = bl bb) (hm : behindInMarks .NotIn o = false) : ET X (.Compare a [.NotIn] [o] pos) ρ (!bb) := by
  obtain ⟨f, fd, G, hM, hb⟩ := D.ex
  refine pt_imp (pt_cmpR (op_notinO G hr hM.at_ hM.fn hb pass0) ha ho hm) fun σ H Q ⟨H0, F, S, q⟩ => ⟨H0, F, S, fun x H1 F1 g1 h1 => ⟨H0, F1, S.gr g1, fun y H2 F2 g2 ⟨p, dx, vs, ev, z1, z2⟩ => ⟨p, dx, _, ev, g2.i p _ z1, i, hp, F2, g2.i, ?_, fun v H' F' g hv => ?_⟩⟩⟩
  · rw [hl]
    exact ⟨⟨p, dx, vs, rfl, z1, z2⟩, A.mono g2.f h1, trivial⟩
  · rw [hA] at hv
    exact ⟨bb, hv, !bb, rfl, q H' F' ((g1.trans g2).trans g)⟩
theorem ea_inO {bb : Bool} (D : Mf X.prog X.w X.K X.mg X.base k C "__contains__" ps (spX pre l AA)) (hr : Room k X.A) (i : ι) (hp : pre i) (ha : EA X a ρ A) (ho : EA X o ρ (insA C fs)) (hl : l i = [insA C fs, A]) (hA : AA i = bl bb) (hm : behindInMarks .In o = false) : EA X (.Compare a [.In] [o] pos) ρ (bl bb) := by
  obtain ⟨f, fd, G, hM, hb⟩ := D.ex
  refine pe_imp (pe_cmpR (op_inO G hr hM.at_ hM.fn hb pass0) ha ho hm) fun σ H Q ⟨H0, F, S, q⟩ => ⟨H0, F, S, fun x H1 F1 g1 h1 => ⟨H0, F1, S.gr g1, fun y H2 F2 g2 ⟨p, dx, vs, ev, z1, z2⟩ => ⟨p, dx, _, ev, g2.i p _ z1, i, hp, F2, g2.i, ?_, fun v H' F' g hv => ?_⟩⟩⟩
  · rw [hl]
    exact ⟨⟨p, dx, vs, rfl, z1, z2⟩, A.mono g2.f h1, trivial⟩
  · rw [hA] at hv
    exact ⟨bb, hv, q _ H' F' ((g1.trans g2).trans g) rfl⟩
/-- ( .., *t, ..) -/
theorem eas_star (he : EA X e ρ (tupA la)) (hr : EAs X es ρ lb) {sp : Pos} (hs : starEach (.Starred e sp :: es) X.env = (true, eval e X.env) :: starEach es X.env := by rfl) : EAs X (.Starred e sp :: es) ρ (la ++ lb) :=
  pa_imp (StX.pa_star he hr hs) fun σ H Q ⟨H0, F, S, q⟩ => ⟨H0, F, S, fun v H1 F1 g1 ⟨p, xs, ev, h1, h2⟩ => ⟨p, xs, ev, .inl (SqT.of (g1.i p _ h1)), H0, F1, S.gr g1, fun vs H2 F2 g2 hv => q _ H2 F2 (g1.trans g2) ((h2.mono g2.f).append hv)⟩⟩
end
end Lk

set_option Elab.async false
set_option linter.all false
set_option maxRecDepth 100000
set_option maxHeartbeats 4000000
namespace Lk
open PySem PySem.Calls L2
/-! ### sources that stay; comprehensions over them -/
/-- J goes over xs as long as G holds -/
def Src (J : It) (xs : List V) (G : Hp → Prop) : Prop := ∀ i H, G H → (∀ x, xs[i]? = some x → J.go i H) ∧ (i < xs.length → ∀ x H', J.yld i H x H' → H' = H ∧ xs[i]? = some x) ∧ (xs.length ≤ i → J.stop i H)
theorem it_walk {J : It} {G : Hp → Prop} {xs : List V} {Hs : Hp} {T : V → Hp → (Hp → Prop) → Prop} {Fin : Hp → Prop} (s : Src J xs G) (Pv : Nat → Hp → Prop) (h0 : Pv 0 Hs) (hl : ∀ i H, i ≤ xs.length → Pv i H → G H)
    (hs : ∀ i x H, xs[i]? = some x → Pv i H → T x H (Pv (i + 1))) (hd : ∀ H, Pv xs.length H → Fin H) :
    ∃ W : Nat → Nat → Hp → Prop, (∃ m, W 0 m Hs) ∧ ∀ i m H, W i m H → (J.stop i H ∧ Fin H) ∨ (J.go i H ∧ ∃ Nx : Hp → Prop, (∀ H', Nx H' → ∃ m', m' < m ∧ W (i + 1) m' H') ∧ ∀ x H', J.yld i H x H' → T x H' Nx) := by
  refine ⟨fun i m H => m = xs.length - i ∧ i ≤ xs.length ∧ Pv i H, ⟨xs.length, by simp, Nat.zero_le _, h0⟩, ?_⟩
  rintro i m H ⟨rfl, hi, p⟩
  obtain ⟨s1, s2, s3⟩ := s i H (hl i H hi p)
  by_cases hlt : i < xs.length
  · refine .inr ⟨s1 xs[i] (by simp [hlt]), Pv (i + 1), fun H' p' => ⟨xs.length - (i + 1), by omega, rfl, hlt, p'⟩, fun x H' y => ?_⟩
    obtain ⟨e, y2⟩ := s2 hlt x H' y
    subst e
    exact hs i x _ y2 p
  · have e : i = xs.length := by omega
    subst e
    exact .inl ⟨s3 (Nat.le_refl _), hd H p⟩
def iS (ρ : List En) (l : List As) : TI := fun σ H R => ∃ H0 F, Sat H0 F σ H ρ ∧ ∀ J G xs H1 F1, Gr F H F1 H1 → AllV F1 xs l → Src J xs G → (∀ H', Ex F1 H' → G H') → R J H1
abbrev ES (X : Cx) (tg it : Expr) (ρ : List En) (l : List As) : Prop := PI X tg it (iS ρ l)
theorem pi_imp {X : Cx} {tg it : Expr} {t t' : TI} (h : PI X tg it t) (i : ∀ σ H R, t' σ H R → t σ H R) : PI X tg it t' := ⟨fun pins s σ H R I q => h.run pins s σ H R I (i σ H R q)⟩
theorem src_l {K : PySem.W.Frag} {a : Addr} {xs : List V} : Src (Itl K a) xs (fun H => SqL K H a xs) := fun i H q => ⟨fun x hx => ⟨xs, x, q, hx⟩, fun _ x H' y => ⟨y.1, y.2 xs q⟩, fun z => ⟨xs, q, z⟩⟩
theorem src_t {K : PySem.W.Frag} {a : Addr} {xs : List V} : Src (Itt K a) xs (fun H => SqT K H a xs) := fun i H q => ⟨fun x hx => ⟨xs, x, q, hx⟩, fun _ x H' y => ⟨y.1, y.2 xs q⟩, fun z => ⟨xs, q, z⟩⟩
section
variable {X : Cx} {tg it a b c : Expr} {ρ : List En} {l : List As} {p1 p2 : Pos}
theorem es_l (h : EA X it ρ (lstA l)) : ES X tg it ρ l := pi_imp (pi_list h) fun σ H R ⟨H0, F, S, k⟩ => ⟨H0, F, S, fun v H1 F1 g1 ⟨a, xs, ev, h1, h2⟩ => ⟨a, ev, ⟨xs, SqL.of (g1.i a _ h1)⟩, k _ _ xs H1 F1 g1 h2 src_l fun H' e => SqL.of (e a _ h1)⟩⟩
theorem es_t (h : EA X it ρ (tupA l)) : ES X tg it ρ l := pi_imp (pi_tup h) fun σ H R ⟨H0, F, S, k⟩ => ⟨H0, F, S, fun v H1 F1 g1 ⟨a, xs, ev, h1, h2⟩ => ⟨a, ev, ⟨xs, SqT.of (g1.i a _ h1)⟩, k _ _ xs H1 F1 g1 h2 src_t fun H' e => SqT.of (e a _ h1)⟩⟩
theorem es_rng3 {i j d : Int} {n : Nat} (hm : X.mg "range" = none) (h : EAs X [a, b, c] ρ [int i, int j, int d]) (hc : RgC i j d n) (hg : Gl X "range" := by rfl)
    (hs : starEach [a, b, c] X.env = (false, eval a X.env) :: starEach [b, c] X.env := by rfl) (hpl : (backTo p2 (starEach [b, c] X.env)).any (·.1) = false := by rfl) : ES X tg (.Call (.Name "range" p1) [a, b, c] [] p2) ρ ((List.range n).map fun k : Nat => int (i + (k : Int) * d)) :=
  pi_imp (pi_range3 hg hm h hs hpl) fun σ H R ⟨H0, F, S, k⟩ => ⟨H0, F, S, fun vs H1 F1 g1 h1 => by
    have e : vs = [.int i, .int j, .int d] := by
      match vs, h1 with
      | [x, y, z], ⟨h1, h2, h3, _⟩ =>
        rw [show x = .int i from h1, show y = .int j from h2, show z = .int d from h3]
    refine ⟨i, j, d, n, e, hc, k _ (fun _ => True) ((List.range n).map fun k : Nat => V.int (i + (k : Int) * d)) H1 F1 g1 ?_ ?_ fun _ _ => trivial⟩
    · have q := AllV.of_scs (F := F1) (cs := (List.range n).map fun k : Nat => V.int (i + (k : Int) * d))
      rw [List.map_map] at q
      exact q
    · refine fun m H _ => ⟨fun x hx => ?_, fun hm x H' y => ?_, fun z => ?_⟩
      · have z := (List.getElem?_eq_some_iff.mp hx).1
        rw [List.length_map, List.length_range] at z
        exact z
      · rw [List.length_map, List.length_range] at hm
        refine ⟨y.1, ?_⟩
        rw [List.getElem?_map, List.getElem?_range hm, y.2]
        rfl
      · rw [List.length_map, List.length_range] at z
        exact z⟩
end
section
variable {α β : Type}
/-- one for -/
theorem tlc_src {σ : L2.St} {H : Hp} {Q : VK} {ρ : List En} {l : List α} {enc : α → As} {p : α → Bool} {g : α → As} {vs : List Nat} {j : Nat} (hj : j ∈ vs) (hz : l.length < sizeLine) (h : tN ρ ((l.filter p).map g) σ H Q) :
    tLc (iS ρ (l.map enc)) (gName j) (tTc (fun a => (wipeE ρ vs).set j (.fr (enc a))) l p) (tEc (fun a => (wipeE ρ vs).set j (.fr (enc a))) l p g) vs σ H Q := by
  obtain ⟨H0, F, S, k⟩ := h
  refine ⟨H0, F, S, fun J So xs H1 F1 g1 h2 hJ hS D hD => ?_⟩
  have hlen : xs.length = l.length := by rw [h2.length, List.length_map]
  refine it_walk (xs := xs) hJ (fun i H' => Lcs F1 H1 D l p g i H') ⟨F1, [], .newH g1.i hD, g1.i.none hD, upd_same, by simp [AllV]⟩ (fun i H' _ L => ?_) (fun i x H' hx L => ?_) (fun H' L => ?_)
  · obtain ⟨F', acc, G, _⟩ := L.ex
    exact hS H' (G.f.trans G.i)
  · have hi : i < l.length := by
      have z := (List.getElem?_eq_some_iff.mp hx).1
      omega
    have ha : l[i]? = some l[i] := List.getElem?_eq_getElem hi
    obtain ⟨u, hu, hA⟩ := h2.get (i := i) (A := enc l[i]) (by rw [List.getElem?_map, ha]; rfl)
    rw [hx] at hu
    have e : x = u := by simpa using hu
    subst e
    exact lcs_turn (H00 := H) (F00 := F) hj ha hz (S.gr g1) hA L hD
  · rw [hlen] at L
    obtain ⟨F', acc, G, fD, hDl, hall⟩ := L.ex
    rw [List.take_length] at hall
    exact k D acc H' F' (g1.trans G) (g1.h.none hD) fD hDl hall
/-- two fors -/
def iS2 (ρ : α → List En) (l : List α) (m : α → List As) : TI := fun σ H R => ∃ a, a ∈ l ∧ iS (ρ a) (m a) σ H R
def tE2 (ρ : α → β → List En) (l : List α) (m : α → List β) (g : α → β → As) : TE := fun σ H Q => ∃ a b, a ∈ l ∧ b ∈ m a ∧ tA (ρ a b) (g a b) σ H Q
def tT2 (ρ : α → β → List En) (l : List α) (m : α → List β) : TT := fun σ H Q => ∃ a b, a ∈ l ∧ b ∈ m a ∧ tTs (ρ a b) true σ H Q
def tT1 (ρ : α → List En) (l : List α) : TT := fun σ H Q => ∃ a, a ∈ l ∧ tTs (ρ a) true σ H Q
theorem flatMap_take {γ : Type} {l : List α} {f : α → List γ} {i : Nat} {a : α} (h : l[i]? = some a) : (l.take (i + 1)).flatMap f = (l.take i).flatMap f ++ f a := by
  rw [List.take_add_one, h]
  simp
theorem flatMap_le {γ : Type} {f : α → List γ} : ∀ (l : List α) (i : Nat) (a : α), l[i]? = some a → ((l.take i).flatMap f).length + (f a).length ≤ (l.flatMap f).length
  | [], _, _, h => by simp at h
  | x :: l, 0, a, h => by
    have h : x = a := by simpa using h
    subst h
    simp
  | x :: l, i + 1, a, h => by
    have q := flatMap_le (f := f) l i a (by simpa using h)
    rw [List.take_succ_cons, List.flatMap_cons, List.flatMap_cons, List.length_append, List.length_append]
    omega
theorem tlc2_src {σ : L2.St} {H : Hp} {Q : VK} {ρ : List En} {l : List α} {enc : α → As} {m : α → List β} {enc1 : α → β → As} {g : α → β → As} {vs vs1 : List Nat} {j j1 : Nat} (hj : j ∈ vs) (hj1 : j1 ∈ vs1)
    (hz : (l.flatMap fun a => (m a).map (g a)).length < sizeLine) (h : tN ρ (l.flatMap fun a => (m a).map (g a)) σ H Q) :
    tLc2 (iS ρ (l.map enc)) (gName j) (tT1 (fun a => (wipeE ρ vs).set j (.fr (enc a))) l) (iS2 (fun a => (wipeE ρ vs).set j (.fr (enc a))) l (fun a => (m a).map (enc1 a))) (gName j1)
      (tT2 (fun a b => (wipeE ((wipeE ρ vs).set j (.fr (enc a))) vs1).set j1 (.fr (enc1 a b))) l m) (tE2 (fun a b => (wipeE ((wipeE ρ vs).set j (.fr (enc a))) vs1).set j1 (.fr (enc1 a b))) l m g) vs vs1 σ H Q := by
  obtain ⟨H0, F, S, k⟩ := h
  refine ⟨H0, F, S, fun J So xs H1 F1 g1 h2 hJ hS D hD => ?_⟩
  have hlen : xs.length = l.length := by rw [h2.length, List.length_map]
  -- what is at D behind some turns: pre the values so far
  let St : List As → Hp → Prop := fun pre H' => ∃ F' acc, Gr F1 H1 F' H' ∧ F' D = none ∧ H' D = some (.lst acc) ∧ AllV F' acc pre
  refine it_walk (xs := xs) hJ (fun i H' => St ((l.take i).flatMap fun a => (m a).map (g a)) H') ⟨F1, [], .newH g1.i hD, g1.i.none hD, upd_same, by simp [AllV]⟩ (fun i H' _ L => ?_) (fun i x H' hx L => ?_) (fun H' L => ?_)
  · obtain ⟨F', acc, G, _⟩ := L
    exact hS H' (G.f.trans G.i)
  · have hi : i < l.length := by
      have z := (List.getElem?_eq_some_iff.mp hx).1
      omega
    have ha : l[i]? = some l[i] := List.getElem?_eq_getElem hi
    obtain ⟨u, hu, hA⟩ := h2.get (i := i) (A := enc l[i]) (by rw [List.getElem?_map, ha]; rfl)
    rw [hx] at hu
    have e : x = u := by simpa using hu
    subst e
    have mem : l[i] ∈ l := List.getElem_mem hi
    generalize l[i] = a at ha hA mem
    obtain ⟨F', acc, G, fD, hDl, hall⟩ := L
    have S1 := (((S.gr g1).gr G).wipe vs).set (i := j) ((enc a).mono G.f hA)
    refine ⟨wipe_set hj, a, mem, H0, F', S1, fun H3 F3 g3 => ?_⟩
    have GD := G.trans g3
    have S3 := S1.gr g3
    refine ⟨a, mem, H0, F3, S3, fun J2 So2 ys H4 F4 g4 h4 hJ2 hS2 => ?_⟩
    have GE := GD.trans g4
    have S4 := S3.gr g4
    have f4 : F4 D = none := g4.n D _ (g3.h D _ hDl) (g3.n D _ hDl fD)
    have d4 : H4 D = some (.lst acc) := g4.h D _ (g3.h D _ hDl)
    have hall4 := hall.mono (g3.f.trans g4.f)
    have hlen2 : ys.length = (m a).length := by rw [h4.length, List.length_map]
    refine it_walk (xs := ys) hJ2 (fun n H' => ∃ F5 acc, Gr F1 H1 F5 H' ∧ Ex F4 F5 ∧ F5 D = none ∧ H' D = some (.lst acc) ∧ AllV F5 acc (((l.take i).flatMap fun a => (m a).map (g a)) ++ ((m a).take n).map (g a))) ⟨F4, acc, GE, Ex.refl F4, f4, d4, by simpa using hall4⟩ (fun n H' _ ⟨F5, _, G5, x5, _⟩ => hS2 H' (x5.trans G5.i)) (fun n y H' hy L => ?_) (fun H' L => ?_)
    · obtain ⟨F5, acc5, G5, x5, f5, d5, hall5⟩ := L
      have hn : n < (m a).length := by
        have z := (List.getElem?_eq_some_iff.mp hy).1
        omega
      have hb : (m a)[n]? = some (m a)[n] := List.getElem?_eq_getElem hn
      obtain ⟨u, hu, hB⟩ := h4.get (i := n) (A := enc1 a (m a)[n]) (by rw [List.getElem?_map, hb]; rfl)
      rw [hy] at hu
      have e : y = u := by simpa using hu
      subst e
      have memb : (m a)[n] ∈ m a := List.getElem_mem hn
      generalize (m a)[n] = b at hb hB memb
      -- the frame behind the second store
      have S5 : Sat H0 F5 ((L2.wipe σ vs).set j (some x)) H' ((wipeE ρ vs).set j (.fr (enc a))) := (((S.gr g1).gr G5).wipe vs).set (i := j) ((enc a).mono (G5.f) hA)
      have S6 := (S5.wipe vs1).set (i := j1) ((enc1 a b).mono x5 hB)
      refine ⟨wipe_set hj1, a, b, mem, memb, H0, F5, S6, fun H6 F6 g6 => ?_⟩
      refine ⟨a, b, mem, memb, H0, F6, S6.gr g6, fun z H7 F7 g7 hz7 => ?_⟩
      have f6 := g6.n D _ d5 f5
      have d6 := g6.h D _ d5
      have f7 : F7 D = none := g7.n D _ d6 f6
      have d7 : H7 D = some (.lst acc5) := g7.h D _ d6
      have G7 := (G5.trans g6).trans g7
      refine ⟨acc5, d7, ?_, F7, acc5 ++ [z], ⟨G7.f, fun c o zz => ?_, fun c o zz => ?_, G7.n⟩, (x5.trans g6.f).trans g7.f, f7, upd_same, ?_⟩
      · have q := flatMap_le (f := fun a => (m a).map (g a)) l i a ha
        rw [hall5.length, List.length_append, List.length_map, List.length_take]
        rw [List.length_map] at q
        omega
      · rw [upd_ne (ne_of_none zz hD)]
        exact G7.h c o zz
      · rw [upd_ne (ne_of_none zz f7)]
        exact G7.i c o zz
      · have tk : (m a).take (n + 1) = (m a).take n ++ [b] := by
          rw [List.take_add_one, hb]
          rfl
        rw [tk, List.map_append, ← List.append_assoc]
        exact (hall5.mono (g6.f.trans g7.f)).snoc hz7
    · obtain ⟨F5, acc5, G5, x5, f5, d5, hall5⟩ := L
      rw [hlen2, List.take_length] at hall5
      refine ⟨F5, acc5, G5, f5, d5, ?_⟩
      rw [flatMap_take ha]
      exact hall5
  · rw [hlen] at L
    obtain ⟨F', acc, G, fD, hDl, hall⟩ := L
    rw [List.take_length] at hall
    exact k D acc H' F' (g1.trans G) (g1.h.none hD) fD hDl hall
end
section
variable {α β : Type} {X : Cx} {ρ : List En} {pos spos : Pos} {elt it it1 : Expr} {ifs : List Expr} {scope : Scope} {Nx : List En → Prop} {W : Wn}
theorem pts_1 {X : Cx} {ρ : α → List En} {l : List α} : PTs X [] (tT1 ρ l) := ⟨fun pins s σ H Q I ⟨a, _, H0, F, S, k⟩ => pts_nil.run pins s σ H Q I (k H F (.refl S.ex))⟩
theorem pts_2 {X : Cx} {ρ : α → β → List En} {l : List α} {m : α → List β} : PTs X [] (tT2 ρ l m) := ⟨fun pins s σ H Q I ⟨a, b, _, _, H0, F, S, k⟩ => pts_nil.run pins s σ H Q I (k H F (.refl S.ex))⟩
theorem pi_2 {X : Cx} {tg it : Expr} {ρ : α → List En} {l : List α} {m : α → List As} (h : ∀ a ∈ l, ES X tg it (ρ a) (m a)) : PI X tg it (iS2 ρ l m) := ⟨fun pins s σ H R I ⟨a, ha, q⟩ => (h a ha).run pins s σ H R I q⟩
theorem pe_2 {X : Cx} {e : Expr} {ρ : α → β → List En} {l : List α} {m : α → List β} {g : α → β → As} (h : ∀ a ∈ l, ∀ b ∈ m a, EA X e (ρ a b) (g a b)) : PE X e (tE2 ρ l m g) := ⟨fun pins s σ H Q I ⟨a, b, ha, hb, q⟩ => (h a ha b hb).run pins s σ H Q I q⟩
/-- [elt for x in a source that stays if ..] -/
theorem en_lcS {own : List (Str × Nat)} (j : Nat) {x : Str} {px : Pos} {l : List α} {enc : α → As} {p : α → Bool} {g : α → As} (hc : X.calm = true) (hN : X.N.Nodup) (hi : ES X (.Name x px) it ρ (l.map enc)) (hz : l.length < sizeLine) (ok : BlkOk X.N X.env.scope scope own)
    (hg : ∀ (s : Shared) (H : Hp) (C : Addr) (cl : List (Str × Addr)) (fp : List Addr), PG (X.blk s H scope (compEnvC scope cl C X.env) fp) (.Name x px) (gName j))
    (ht : ∀ (s : Shared) (H : Hp) (C : Addr) (cl : List (Str × Addr)) (fp : List Addr), ∀ a ∈ l, PTs (X.blk s H scope (compEnvC scope cl C X.env) fp) ifs (tTs ((wipeE ρ (own.map (·.2))).set j (.fr (enc a))) (p a)))
    (he : ∀ (s : Shared) (H : Hp) (C : Addr) (cl : List (Str × Addr)) (fp : List Addr), ∀ a ∈ l, p a = true → EA (X.blk s H scope (compEnvC scope cl C X.env) fp) elt ((wipeE ρ (own.map (·.2))).set j (.fr (enc a))) (g a))
    (hj : j ∈ own.map (·.2) := by decide) (hs : ∀ z, foldedSetIterable it X.env z = pure z := by intro _; rfl) :
    EN X (.ListComp elt [⟨.Name x px, it, ifs, 0⟩] scope pos) ρ ((l.filter p).map g) :=
  pe_imp (pe_lc (own := own) hc hN hi ok hg (fun s H C cl fp => pts_c (ht s H C cl fp)) (fun s H C cl fp => pe_c (he s H C cl fp)) hs) fun σ H Q h => tlc_src hj hz h
/-- [elt for x in .. for y in ..] -/
theorem en_lc2 {own : List (Str × Nat)} (j j1 : Nat) {x y : Str} {px py : Pos} {l : List α} {enc : α → As} {m : α → List β} {enc1 : α → β → As} {g : α → β → As} (hc : X.calm = true) (hN : X.N.Nodup) (hi : ES X (.Name x px) it ρ (l.map enc)) (hz : (l.flatMap fun a => (m a).map (g a)).length < sizeLine) (ok : BlkOk X.N X.env.scope scope own)
    (hg : ∀ (s : Shared) (H : Hp) (C : Addr) (cl : List (Str × Addr)) (fp : List Addr), PG (X.blk s H scope (compEnvC scope cl C X.env) fp) (.Name x px) (gName j))
    (hi1 : ∀ (s : Shared) (H : Hp) (C : Addr) (cl : List (Str × Addr)) (fp : List Addr), ∀ a ∈ l, ES (X.blk s H scope (compEnvC scope cl C X.env) fp) (.Name y py) it1 ((wipeE ρ (own.map (·.2))).set j (.fr (enc a))) ((m a).map (enc1 a)))
    (hg1 : ∀ (s : Shared) (H : Hp) (C : Addr) (cl : List (Str × Addr)) (fp : List Addr), PG (X.blk s H scope (compEnvC scope cl C X.env) fp) (.Name y py) (gName j1))
    (he : ∀ (s : Shared) (H : Hp) (C : Addr) (cl : List (Str × Addr)) (fp : List Addr), ∀ a ∈ l, ∀ b ∈ m a, EA (X.blk s H scope (compEnvC scope cl C X.env) fp) elt ((wipeE ((wipeE ρ (own.map (·.2))).set j (.fr (enc a))) [j1]).set j1 (.fr (enc1 a b))) (g a b))
    (hj : j ∈ own.map (·.2) := by decide) (hj1 : j1 ∈ own.map (·.2) := by decide) (hs : ∀ z, foldedSetIterable it X.env z = pure z := by intro _; rfl) (hs1 : ∀ env z, foldedSetIterable it1 env z = pure z := by intro _ _; rfl) :
    EN X (.ListComp elt [⟨.Name x px, it, [], 0⟩, ⟨.Name y py, it1, [], 0⟩] scope pos) ρ (l.flatMap fun a => (m a).map (g a)) :=
  pe_imp (pe_lc2 (own := own) (vs1 := [j1]) hc hN hi ok (fun i h => by rw [List.mem_singleton.mp h]; exact hj1) hg (fun s H C cl fp => pts_1) (fun s H C cl fp => pi_2 (hi1 s H C cl fp)) hg1 (fun s H C cl fp => pts_2) (fun s H C cl fp => pe_2 (he s H C cl fp)) hs hs1) fun σ H Q h => tlc2_src hj (List.mem_singleton.mpr rfl) hz h
theorem sa_setLc2 {own : List (Str × Nat)} (i j j1 : Nat) {x y z : Str} {px py pz : Pos} {l : List α} {enc : α → As} {m : α → List β} {enc1 : α → β → As} {g : α → β → As} (hc : X.calm = true) (hN : X.N.Nodup) (hi : ES X (.Name x px) it ρ (l.map enc)) (hz : (l.flatMap fun a => (m a).map (g a)).length < sizeLine) (ok : BlkOk X.N X.env.scope scope own)
    (hg : ∀ (s : Shared) (H : Hp) (C : Addr) (cl : List (Str × Addr)) (fp : List Addr), PG (X.blk s H scope (compEnvC scope cl C X.env) fp) (.Name x px) (gName j))
    (hi1 : ∀ (s : Shared) (H : Hp) (C : Addr) (cl : List (Str × Addr)) (fp : List Addr), ∀ a ∈ l, ES (X.blk s H scope (compEnvC scope cl C X.env) fp) (.Name y py) it1 ((wipeE ρ (own.map (·.2))).set j (.fr (enc a))) ((m a).map (enc1 a)))
    (hg1 : ∀ (s : Shared) (H : Hp) (C : Addr) (cl : List (Str × Addr)) (fp : List Addr), PG (X.blk s H scope (compEnvC scope cl C X.env) fp) (.Name y py) (gName j1))
    (he : ∀ (s : Shared) (H : Hp) (C : Addr) (cl : List (Str × Addr)) (fp : List Addr), ∀ a ∈ l, ∀ b ∈ m a, EA (X.blk s H scope (compEnvC scope cl C X.env) fp) elt ((wipeE ((wipeE ρ (own.map (·.2))).set j (.fr (enc a))) [j1]).set j1 (.fr (enc1 a b))) (g a b))
    (k : Nx (ρ.set i (.own (l.flatMap fun a => (m a).map (g a))))) (hy : X.N[i]? = some z := by rfl) (hyl : X.env.scope.names.lookup z = some .local := by rfl)
    (hsw : swapsWith (.ListComp elt [⟨.Name x px, it, [], 0⟩, ⟨.Name y py, it1, [], 0⟩] scope pos) (some (.Name z pz)) spos.line X.env = pure true := by exact sw_true rfl rfl rfl (by decide +kernel))
    (hj : j ∈ own.map (·.2) := by decide) (hj1 : j1 ∈ own.map (·.2) := by decide) (hs : ∀ z, foldedSetIterable it X.env z = pure z := by intro _; rfl) (hs1 : ∀ env z, foldedSetIterable it1 env z = pure z := by intro _ _; rfl) :
    SA X (.Assign [.Name z pz] (.ListComp elt [⟨.Name x px, it, [], 0⟩, ⟨.Name y py, it1, [], 0⟩] scope pos) spos) ρ Nx W :=
  ps_imp (ps_setLc2 (own := own) (vs1 := [j1]) (i := i) hc hN hy hyl hsw hi ok (fun i h => by rw [List.mem_singleton.mp h]; exact hj1) hg (fun s H C cl fp => pts_1) (fun s H C cl fp => pi_2 (hi1 s H C cl fp)) hg1 (fun s H C cl fp => pts_2) (fun s H C cl fp => pe_2 (he s H C cl fp)) hs hs1) fun D σ H ⟨F0, H0, F, g0, S, q, _⟩ => tlc2_src hj (List.mem_singleton.mpr rfl) hz ⟨H0, F, S, fun p' xs H' F' g' n1 n2 hp hv => q _ _ H' F' k (g0.trans g') ((S.gr g').setN (g0.h.none n1) n2 hp hv (S.newAt n1 _))⟩
theorem sa_setLcS {own : List (Str × Nat)} (i j : Nat) {x y : Str} {px py : Pos} {l : List α} {enc : α → As} {p : α → Bool} {g : α → As} (hc : X.calm = true) (hN : X.N.Nodup) (hi : ES X (.Name x px) it ρ (l.map enc)) (hz : l.length < sizeLine) (ok : BlkOk X.N X.env.scope scope own)
    (hg : ∀ (s : Shared) (H : Hp) (C : Addr) (cl : List (Str × Addr)) (fp : List Addr), PG (X.blk s H scope (compEnvC scope cl C X.env) fp) (.Name x px) (gName j))
    (ht : ∀ (s : Shared) (H : Hp) (C : Addr) (cl : List (Str × Addr)) (fp : List Addr), ∀ a ∈ l, PTs (X.blk s H scope (compEnvC scope cl C X.env) fp) ifs (tTs ((wipeE ρ (own.map (·.2))).set j (.fr (enc a))) (p a)))
    (he : ∀ (s : Shared) (H : Hp) (C : Addr) (cl : List (Str × Addr)) (fp : List Addr), ∀ a ∈ l, p a = true → EA (X.blk s H scope (compEnvC scope cl C X.env) fp) elt ((wipeE ρ (own.map (·.2))).set j (.fr (enc a))) (g a))
    (k : Nx (ρ.set i (.own ((l.filter p).map g)))) (hy : X.N[i]? = some y := by rfl) (hyl : X.env.scope.names.lookup y = some .local := by rfl)
    (hsw : swapsWith (.ListComp elt [⟨.Name x px, it, ifs, 0⟩] scope pos) (some (.Name y py)) spos.line X.env = pure true := by exact sw_true rfl rfl rfl (by decide +kernel))
    (hj : j ∈ own.map (·.2) := by decide) (hs : ∀ z, foldedSetIterable it X.env z = pure z := by intro _; rfl) :
    SA X (.Assign [.Name y py] (.ListComp elt [⟨.Name x px, it, ifs, 0⟩] scope pos) spos) ρ Nx W :=
  ps_imp (ps_setLc (own := own) (i := i) hc hN hy hyl hsw hi ok hg (fun s H C cl fp => pts_c (ht s H C cl fp)) (fun s H C cl fp => pe_c (he s H C cl fp)) hs) fun D σ H ⟨F0, H0, F, g0, S, q, _⟩ => tlc_src hj hz ⟨H0, F, S, fun p' xs H' F' g' n1 n2 hp hv => q _ _ H' F' k (g0.trans g') ((S.gr g').setN (g0.h.none n1) n2 hp hv (S.newAt n1 _))⟩
theorem flt_all {α : Type} (l : List α) : l.filter (fun _ => true) = l := List.filter_eq_self.mpr fun _ _ => rfl
/-- without tests -/
theorem en_lcA {own : List (Str × Nat)} (j : Nat) {x : Str} {px : Pos} {l : List α} {enc : α → As} {g : α → As} (hc : X.calm = true) (hN : X.N.Nodup) (hi : EL X it ρ (l.map enc)) (hz : l.length < sizeLine) (ok : BlkOk X.N X.env.scope scope own)
    (hg : ∀ (s : Shared) (H : Hp) (C : Addr) (cl : List (Str × Addr)) (fp : List Addr), PG (X.blk s H scope (compEnvC scope cl C X.env) fp) (.Name x px) (gName j))
    (he : ∀ (s : Shared) (H : Hp) (C : Addr) (cl : List (Str × Addr)) (fp : List Addr), ∀ a ∈ l, EA (X.blk s H scope (compEnvC scope cl C X.env) fp) elt ((wipeE ρ (own.map (·.2))).set j (.fr (enc a))) (g a))
    (hj : j ∈ own.map (·.2) := by decide) (hs : ∀ z, foldedSetIterable it X.env z = pure z := by intro _; rfl) :
    EN X (.ListComp elt [⟨.Name x px, it, [], 0⟩] scope pos) ρ (l.map g) := by
  have q := en_lc (p := fun _ => true) j (pos := pos) hc hN hi hz ok hg (fun _ _ _ _ _ _ _ => pts_yes) (fun s H C cl fp a ha _ => he s H C cl fp a ha) hj hs
  rw [flt_all] at q
  exact q
theorem en_lcSA {own : List (Str × Nat)} (j : Nat) {x : Str} {px : Pos} {l : List α} {enc : α → As} {g : α → As} (hc : X.calm = true) (hN : X.N.Nodup) (hi : ES X (.Name x px) it ρ (l.map enc)) (hz : l.length < sizeLine) (ok : BlkOk X.N X.env.scope scope own)
    (hg : ∀ (s : Shared) (H : Hp) (C : Addr) (cl : List (Str × Addr)) (fp : List Addr), PG (X.blk s H scope (compEnvC scope cl C X.env) fp) (.Name x px) (gName j))
    (he : ∀ (s : Shared) (H : Hp) (C : Addr) (cl : List (Str × Addr)) (fp : List Addr), ∀ a ∈ l, EA (X.blk s H scope (compEnvC scope cl C X.env) fp) elt ((wipeE ρ (own.map (·.2))).set j (.fr (enc a))) (g a))
    (hj : j ∈ own.map (·.2) := by decide) (hs : ∀ z, foldedSetIterable it X.env z = pure z := by intro _; rfl) :
    EN X (.ListComp elt [⟨.Name x px, it, [], 0⟩] scope pos) ρ (l.map g) := by
  have q := en_lcS (p := fun _ => true) j (pos := pos) hc hN hi hz ok hg (fun _ _ _ _ _ _ _ => pts_yes) (fun s H C cl fp a ha _ => he s H C cl fp a ha) hj hs
  rw [flt_all] at q
  exact q
end
end Lk

set_option Elab.async false
set_option linter.all false
set_option maxRecDepth 100000
set_option maxHeartbeats 4000000
namespace Lk
open PySem PySem.Calls L2 PySem.Spec PyProof.Rows RT
section
variable {prog : Program} {w : World} {A : Around} {E : Value → Shared → Prop} {s : Shared}
/-! ### list(reversed(list)) -/
theorem list_init_rev {R : Result → Shared → Prop} {it l : Addr} {items : Array Value} (hh : A.handled = none) (hit : s.heap.IsRevIter it l ((items.size : Int) - 1)) (hl : s.heap.IsList l items) (hne : l ≠ it) (hn : items.size ≤ sizeLine) (Z : Addr) (hZ : s.heap.get? Z = some { cls := .type "list", data := .seq #[] }) (hZi : Z ≠ it) (hZl : Z ≠ l)
    (hR : ∀ h' tk acc c', (∀ b o, b ≠ Z → b ≠ it → s.heap.get? b = some o → h'.get? b = some o) → h'.get? Z = some { cls := .type "list", dict := none, data := .seq acc c', slots := #[] } → ItemsOf (fun i v => items[items.size - 1 - i]? = some v) acc items.size → R (.ok (.ret .none)) { s with heap := h', toks := tk }) :
    wpAny (model prog w) A.in1 (Builtin.«list.__init__» ⟨[.ref Z, .ref it], []⟩)
      (fun fin s' => match fin with | .done f => R (.ok f) s' | .again c' => c'.quiet = true ∧ codeAny (model prog w) A c' R s') (fun e s' => R (.error e) s') s := by
  have W := (Walks.listRev (prog := prog) (w := w) (A := A.in1) hh it l hne items).toS
  show wpAny _ _ (do let old ← Builtin.List.listItems (.ref Z); Builtin.List.listUpdate (.ref Z) (fun _ => #[]); letGo old.toList.reverse; Builtin.List.listExtendWith (.ref Z) (.ref it) .none) _ _ s
  refine wpAny_bind ?_
  unfold Builtin.List.listItems
  refine wpAny_bind (wpAny_seqItems hZ rfl (wpAny_pure ?_))
  show wpAny _ _ (updateSeq Z (fun _ => #[]) >>= fun _ => letGo (#[] : Array Value).toList.reverse >>= fun _ => Builtin.List.listExtendWith (.ref Z) (.ref it) .none) _ _ s
  refine wpAny_bind (wpAny_updateSeq hZ rfl ?_)
  have hS2 := Heap.get?_update_self (Obj.mapSeq (fun _ => (#[] : Array Value))) hZ rfl
  have oth : ∀ b o, b ≠ Z → s.heap.get? b = some o → (s.heap.update Z (Obj.mapSeq (fun _ => (#[] : Array Value)))).get? b = some o :=
    fun b o hb e => (Heap.get?_update_other _ _ (Ne.symm hb)).trans e
  refine wpAny_bind (wpAny_letGo ?_)
  have hit1 : (s.heap.update Z (Obj.mapSeq (fun _ => (#[] : Array Value)))).IsRevIter it l ((items.size : Int) - 1) := hit.at fun o e => oth _ _ hZi.symm e
  have hl1 : (s.heap.update Z (Obj.mapSeq (fun _ => (#[] : Array Value)))).IsList l items := by
    obtain ⟨o, ho, r⟩ := id hl
    exact ⟨o, oth _ _ hZl.symm ho, r⟩
  have hSf : Z ∉ [it, l] := by simp only [List.mem_cons, List.not_mem_nil, or_false, not_or]; exact ⟨hZi, hZl⟩
  generalize hs1 : ({ s with heap := s.heap.update Z (Obj.mapSeq (fun _ => (#[] : Array Value))) } : Shared) = s1
  have hit2 : s1.heap.IsRevIter it l ((items.size : Int) - 1) := by rw [← hs1]; exact hit1
  have hl2 : s1.heap.IsList l items := by rw [← hs1]; exact hl1
  have hT : s1.TypeIs (.ref it) "list_reverseiterator" := hit2.typeIs
  have h1 : Builtin.List.listSameRef (.ref Z) (.ref it) = false := by simp [Builtin.List.listSameRef, hZi]
  unfold Builtin.List.listExtendWith
  refine wpAny_bind (wpAny_typeOf hT ?_)
  rw [if_neg (by rw [h1]; decide)]
  refine wpAny_bind (wpAny_pyIter_revIter hit2 ?_)
  refine wpAny_bind (wpAny_holding ?_)
  unfold Builtin.List.listLengthHint
  refine wpAny_bind (wpAny_specialOf hT nolen_lri ?_)
  show wpAny _ A.in1 (specialOf (Value.ref it) (Str.ofString "__length_hint__") >>= _) _ _ _
  refine wpAny_bind (wpAny_specialOf hT hint_lri ?_)
  generalize hid : ("list_reverseiterator.__length_hint__" : String) = id0
  wp_delta
  rw [show splitId id0 = some ("list_reverseiterator", "__length_hint__") from by subst hid; decide +kernel]
  subst hid
  refine wpAny_bind (wpAny_isInstance (b := true) hT (by rw [isSubtype_type]; kernel_rfl) ?_)
  refine wpAny_pure ?_
  rw [if_neg (by decide)]
  have e0 : ((items.size : Nat) : Int) - 1 - ((0 : Nat) : Int) = (items.size : Int) - 1 := by omega
  have hS3 : s1.heap.get? Z = some { cls := .type "list", data := .seq ([] : List Value).toArray } := by rw [← hs1]; exact hS2
  refine wpAny_pure ⟨plainId_quiet F.plain_extend_loop _, codeAny_extend_loopS W hn _ hSf _ items.size 0 _ _ _ rfl (Nat.zero_le _) ⟨Nat.zero_le _, by rw [e0]; exact hit2, hl2⟩ hS3 (ItemsOf.nil _) fun s' acc' c' hm hS' hacc => ?_⟩
  rw [Moved.eq_with hm]
  subst hs1
  refine hR s'.heap s'.toks acc' c' (fun b o hb hb2 e => hm.heap b o (fun hmem => ?_) (oth b o hb e)) hS' hacc
  rcases List.mem_cons.mp hmem with e' | hmem
  · exact hb e'
  · exact hb2 (List.mem_singleton.mp hmem)
theorem call_list_rev {it l : Addr} {items : Array Value} {Q : Value → Shared → Prop} (hh : A.handled = none) (hit : s.heap.IsRevIter it l ((items.size : Int) - 1)) (hl : s.heap.IsList l items) (hne : l ≠ it) (hn : items.size ≤ sizeLine)
    (hQ : ∀ (h' : Heap) (tk : Nat) (acc : Array Value) (c' : Nat), (∀ b o, b ≠ it → s.heap.get? b = some o → h'.get? b = some o) → h'.get? s.heap.objs.size = some { cls := .type "list", dict := none, data := .seq acc c', slots := #[] } → ItemsOf (fun i v => items[items.size - 1 - i]? = some v) acc items.size →
      Q (.ref s.heap.objs.size) { s with heap := h', toks := tk }) :
    wpAny (model prog w) A (call (.type "list") [.ref it]) Q E s := by
  refine callType_codes (Q₁ := fun obj s₁ => obj = .ref s.heap.objs.size ∧ s₁ = { s with heap := s.heap.push { cls := .type "list", data := .seq #[] } }) F.called_list (F.typeCall_list_1 _) F.entry_list_init
    (code_list_new _ ⟨rfl, rfl⟩) fun obj s₁ h₁ => ?_
  obtain ⟨rfl, rfl⟩ := h₁
  obtain ⟨oi, hoi, _⟩ := id hit
  obtain ⟨ol, hol, _⟩ := id hl
  have hS : (s.heap.push { cls := .type "list", data := .seq #[] }).get? s.heap.objs.size = some { cls := .type "list", data := .seq #[] } := Heap.get?_push_size _ rfl
  refine ⟨⟨_, hS, rfl⟩, F.args_list_init_2 _ _, list_init_rev (A := A.in1) hh (hit.at fun o e => Heap.get?_push_of_some _ e) (hl.push _) hne hn _ hS (Nat.ne_of_gt (Heap.lt_size hoi)) (Nat.ne_of_gt (Heap.lt_size hol)) fun h' tk acc' c' hk hS' hacc => ?_⟩
  exact ⟨rfl, hQ h' tk acc' c' (fun b o hb e => hk b o (Nat.ne_of_lt (Heap.lt_size e)) hb (Heap.get?_push_of_some _ e)) hS' hacc⟩
end
def tListRev (K : PySem.W.Frag) (te : TE) : TE := fun σ H Q => te σ H fun v H1 => ∃ (a : Addr) (xs : List V), v = .ref a ∧ SqL K H1 a xs ∧ ∀ q, H1 q = none → Q (.ref q) (upd H1 q (.lst xs.reverse))
section
variable {X : Cx}
theorem pe_listRev {e : Expr} {te : TE} {p p2 pos pos2 : Pos} (hc : X.calm = true) (hg : Gl X "list") (hm : X.mg "list" = none) (hg2 : Gl X "reversed") (hm2 : X.mg "reversed" = none) (he : PE X e te)
    (hs : starEach [e] X.env = (false, eval e X.env) :: starEach [] X.env := by rfl)
    (hs2 : starEach [.Call (.Name "reversed" p2) [e] [] pos2] X.env = (false, eval (.Call (.Name "reversed" p2) [e] [] pos2) X.env) :: starEach [] X.env := by rfl) :
    PE X (.Call (.Name "list" p) [.Call (.Name "reversed" p2) [e] [] pos2] [] pos) (tListRev X.K te) := by
  refine ⟨fun pins s σ H Q I h => ?_⟩
  refine Call_ (ld_blt I hg hm boot_list (PyProof.Rows.callWith_type1 (args_cons (Call_ (ld_blt I hg2 hm2 PyProof.Rows.boot_reversed (PyProof.Rows.callWith_type1 (args_cons (thn (he.run pins s σ H _ I h) fun u s1 ⟨v, H1, I1, r1, q1⟩ => args_nil ?_) hs) hs rfl))) hs2) hs2 rfl))
  obtain ⟨a, xs, ev, hq, q⟩ := q1
  subst ev
  obtain rfl : u = Value.ref a := r1
  obtain ⟨its, rv, p', hz⟩ := I1.list hq
  refine call_reversed_list p'.isList (args_nil ?_)
  have k0 : ∀ b o, s1.heap.get? b = some o → (s1.heap.push (revObj a ((its.toArray.size : Int) - 1))).get? b = some o := fun b o e => Heap.get?_push_of_some _ e
  have I2 : Inv X pins σ H1 { s1 with heap := s1.heap.push (revObj a ((its.toArray.size : Int) - 1)) } := I1.kept (t' := s1.toks) k0
  have fp := I1.fpOk (H' := H1) (b := s1.heap.objs.size) (Nat.le_refl _) (I1.hok.fresh (Nat.le_refl _))
  have hl := p'.isList
  obtain ⟨ol, hol, _⟩ := id hl
  have hne : a ≠ s1.heap.objs.size := Nat.ne_of_lt (Heap.lt_size hol)
  have hn : its.toArray.size ≤ sizeLine := by rw [List.size_toArray, ← rv.length]; exact hz
  refine call_list_rev (s := { s1 with heap := s1.heap.push (revObj a ((its.toArray.size : Int) - 1)) }) (I1.ok.hd hc) ⟨_, Heap.get?_push_size _ rfl, rfl, rfl⟩ (hl.push _) hne hn fun h' tk acc c' hk hS hi => ?_
  have I3 := I2.turnedNew (t' := tk) (ch := [s1.heap.objs.size]) (h' := h') (ob := .lst xs.reverse) (fun b o hb e => hk b o (fun z => hb (by rw [z]; exact List.mem_singleton.mpr rfl)) e) (fun b hb => by rw [List.mem_singleton.mp hb]; exact fp) (Nat.le_refl _) (show ObjOk X.prog X.w _ h' _ (.lst xs.reverse) from ⟨by rw [List.length_reverse]; exact hz, acc.toList, c', vals_rev rv hi, by rw [Array.toArray_toList]; exact hS⟩)
  exact ⟨.ref _, _, I3, rfl, q _ (I2.hok.fresh (Nat.le_refl _))⟩
theorem AllV.reverse {F : Hp} : ∀ {vs : List V} {l : List As}, AllV F vs l → AllV F vs.reverse l.reverse
  | [], [], _ => trivial
  | v :: vs, A :: l, h => by
    rw [List.reverse_cons, List.reverse_cons]
    exact (AllV.reverse (vs := vs) (l := l) h.2).append (.one h.1)
  | [], _ :: _, h => h.elim
  | _ :: _, [], h => h.elim
theorem en_listRev {e : Expr} {ρ : List En} {l : List As} {p p2 pos pos2 : Pos} (he : EL X e ρ l) (hc : X.calm = true) (hm : X.mg "list" = none) (hm2 : X.mg "reversed" = none) (hg : Gl X "list" := by rfl) (hg2 : Gl X "reversed" := by rfl)
    (hs : starEach [e] X.env = (false, eval e X.env) :: starEach [] X.env := by rfl)
    (hs2 : starEach [.Call (.Name "reversed" p2) [e] [] pos2] X.env = (false, eval (.Call (.Name "reversed" p2) [e] [] pos2) X.env) :: starEach [] X.env := by rfl) :
    EN X (.Call (.Name "list" p) [.Call (.Name "reversed" p2) [e] [] pos2] [] pos) ρ l.reverse :=
  pe_imp (pe_listRev hc hg hm hg2 hm2 he hs hs2) fun σ H Q ⟨H0, F, S, k⟩ => ⟨H0, F, S, fun x xs H1 F1 g1 h1 h2 => ⟨x, xs, rfl, SqL.of h1, fun q hq =>
    k q _ _ F1 (g1.trans (.newH g1.i hq)) (g1.h.none hq) (g1.i.none hq) upd_same h2.reverse⟩⟩
end
end Lk

set_option Elab.async false
set_option linter.all false
set_option maxRecDepth 100000
set_option maxHeartbeats 4000000
namespace Lk
open PySem PySem.Calls L2 PySem.Spec PyProof.Rows
section
variable {X : Cx} {e a b c o : Expr} {es : List Expr} {ρ : List En} {A B : As} {pos apos p1 p2 : Pos} {k : Nat} {ι : Type} {pre : ι → Prop} {l : ι → List As} {AA : ι → As} {ps : List Str} {C : Addr} {m x : Str} {fs gs : List (Str × As)}
/-! ### a text in a tuple of texts -/
theorem inV_strs (s : Str) : ∀ l : List Str, inV (.str s) (l.map V.str) = decide (s ∈ l)
  | [] => by simp [inV]
  | t :: l => by
    have ih := inV_strs s l
    unfold inV at ih ⊢
    rw [List.map_cons, List.any_cons, ih]
    rw [Bool.eq_iff_iff]
    simp only [Bool.or_eq_true, decide_eq_true_eq, List.mem_cons, eqV, beq_iff_eq]
    exact or_congr_left ⟨fun h => h.symm, fun h => h.symm⟩
theorem cm_inTs {s : Str} {l : List Str} : Cm X .In (str s) (tupA (l.map str)) (decide (s ∈ l)) := ⟨_, op_in_seq, fun x y H Q p q z => by
  have p : x = .str s := p
  subst p
  obtain ⟨b, rfl, hb⟩ := strs_at q
  refine ⟨b, l.map V.str, rfl, .inr (SqT.of hb), rfl, ?_, ?_⟩
  · rw [List.all_map]
    exact List.all_eq_true.mpr fun _ _ => rfl
  · show Q (.bl (if false = true then _ else _)) H
    rw [if_neg Bool.false_ne_true, inV_strs]
    exact z⟩
/-! ### <= by an own __le__ -/
theorem op_leO {CX : CXT} {f : Addr} {fd : FuncData} {sp : Sp} {E : XK} (G : FnOk X.prog X.w X.K X.mg X.base CX k f fd ps sp) (hr : Room k X.A) (hs : PySem.W.findIn X.K (.ref C) "__le__" = some (some (.ref f))) (hf : PySem.W.isFn X.K (.ref f) = true) (hb : Binds X.K fd ps []) (hx : Passes CX X E) :
    OpR X (compareOp .LtE) (fun x y H Q => ∃ a dx fs b dy gs, x = .ref a ∧ H a = some (.ins C dx fs) ∧ y = .ref b ∧ H b = some (.ins C dy gs) ∧ sp [.ref a, .ref b] H (fun v H' => ∃ b, v = .bl b ∧ Q (.bl b) H') E) := by
  intro pins s σ H x y v u Q I rx ry hq
  obtain ⟨a, dx, fs, b, dy, gs, rfl, ha, rfl, hb', hsp⟩ := hq
  cases rx
  cases ry
  obtain ⟨mA, J, _⟩ := ins_get I.hok ha
  obtain ⟨mB, J', _⟩ := ins_get I.hok hb'
  obtain ⟨od, J, _⟩ := J.look
  obtain ⟨od', J', _⟩ := J'.look
  obtain ⟨m, hF⟩ := I.fr
  show wpAny _ _ (richCompare .LtE _ _) _ _ _
  refine PySem.W.cmp_K (op := .LtE) (tb := .ref C) hr.units0 hF I.ok.mod.kin J J'.type (by simp [PySem.W.notFirst]) hs hf ?_
  have hl := G.len _ _ _ _ hsp
  have r2 : Vals [V.ref a, .ref b] [Value.ref a, .ref b] := .cons rfl (.cons rfl .nil)
  refine wpAny_call (codeAny_mono (G.run X.A X.stack s H ⟨[.ref a, .ref b], []⟩ [.ref a, .ref b] [.ref a, .ref b] _ E hr I.env0 (by
    have := hb s [.ref a, .ref b] I.kIn (by simpa using hl)
    simpa using this) r2 hsp) fun r s' hq => ?_)
  cases r with
  | error e => exact hx pins σ H s e s' I hq
  | ok fl =>
    cases fl with
    | ret w =>
      obtain ⟨z, H', I', rz, b, ez, q⟩ := I.after hq
      subst ez
      cases rz
      exact ⟨.bl b, H', I', rfl, q⟩
    | next => exact False.elim hq
    | brk => exact False.elim hq
    | cont => exact False.elim hq
theorem ea_leO {bb : Bool} (D : Mf X.prog X.w X.K X.mg X.base k C "__le__" ps (spX pre l AA)) (hr : Room k X.A) (i : ι) (hp : pre i) (ha : EA X a ρ (insA C fs)) (ho : EA X o ρ (insA C gs)) (hl : l i = [insA C fs, insA C gs]) (hA : AA i = bl bb) (hm : behindInMarks .LtE o = false) : EA X (.Compare a [.LtE] [o] pos) ρ (bl bb) := by
  obtain ⟨f, fd, G, hM, hb⟩ := D.ex
  refine pe_imp (pe_cmpR (op_leO G hr hM.at_ hM.fn hb pass0) ha ho hm) fun σ H Q ⟨H0, F, S, q⟩ => ⟨H0, F, S, fun x H1 F1 g1 ⟨p', dx', vs', ev', y1, y2⟩ => ⟨H0, F1, S.gr g1, fun y H2 F2 g2 ⟨p, dx, vs, ev, z1, z2⟩ => ⟨p', dx', _, p, dx, _, ev', g2.h p' _ (g1.i p' _ y1), ev, g2.i p _ z1, i, hp, F2, g2.i, ?_, fun v H' F' g hv => ?_⟩⟩⟩
  · rw [hl]
    exact ⟨⟨p', dx', vs', rfl, g2.f p' _ y1, y2.mono g2.f⟩, ⟨p, dx, vs, rfl, z1, z2⟩, trivial⟩
  · rw [hA] at hv
    exact ⟨bb, hv, q _ H' F' ((g1.trans g2).trans g) rfl⟩
/-- isinstance(e, bool) of a bool -/
theorem bo_bool : bootBuiltins ("bool" : Str) = some (.type "bool") := by decide +kernel
theorem ea_isBool {q : Bool} (he : EW X e ρ (bl q)) (hm : X.mg "isinstance" = none) (hm2 : X.mg "bool" = none) (hg : Gl X "isinstance" := by rfl) (hg2 : Gl X "bool" := by rfl) (hs : starEach [e, .Name "bool" p2] X.env = (false, eval e X.env) :: starEach [.Name "bool" p2] X.env := by rfl)
    (hs2 : starEach [.Name "bool" p2] X.env = (false, eval (.Name "bool" p2) X.env) :: starEach [] X.env := by rfl) (hpl : (backTo pos (starEach [.Name "bool" p2] X.env)).any (·.1) = false := by rfl) : EA X (.Call (.Name "isinstance" p1) [e, .Name "bool" p2] [] pos) ρ (bl true) :=
  pe_imp (pe_callB call_isi hg hm bo_isi (pa_cons he (pa_cons (pe_bltn (v := .ty "bool") hg2 hm2 bo_bool rfl) pa_nil hs2) hs) (he := hs) (hpl := hpl)) fun σ H Q ⟨H0, F, S, k⟩ => ⟨H0, F, S, fun v H1 F1 g1 h1 => by
    have h1 : v = .bl q := h1
    subst h1
    exact ⟨.bl q, .ty "bool", .type "bool", .type "bool", true, rfl, .ty _, .base (.bl q), kit_ty (by decide +kernel), k _ H1 F1 g1 rfl⟩⟩
/-! ### slices -/
theorem cutA_mid {l : List As} {i j : Nat} (h1 : i ≤ j) : cutA l (some (i : Int)) (some (j : Int)) = (l.drop i).take (j - i) := by
  unfold cutA
  rw [show HT.sIx l.length 0 (some (i : Int)) = min i l.length from HT.sIx_nat l.length 0 i, show HT.sIx l.length l.length (some (j : Int)) = min j l.length from HT.sIx_nat l.length l.length j]
  by_cases hi : i ≤ l.length
  · rw [Nat.min_eq_left hi]
    by_cases hj : j ≤ l.length
    · rw [Nat.min_eq_left hj]
    · rw [Nat.min_eq_right (by omega), List.take_of_length_le (by rw [List.length_drop]; omega), List.take_of_length_le (by rw [List.length_drop]; omega)]
  · rw [Nat.min_eq_right (show l.length ≤ i by omega), List.drop_of_length_le (Nat.le_refl _), List.drop_of_length_le (show l.length ≤ i by omega)]
    simp
theorem sIx_pos {n i : Nat} (d : Nat) (hi : 0 < i) (hn : 0 < n) : HT.sIx n d (some (i : Int)) ≠ 0 := by
  rw [HT.sIx_nat]
  omega
end
section
variable {X : Cx} {ρ : List En} {pos : Pos} {Nx : List En → Prop} {W : Wn}
/-- y = xs.pop()[1:], a list of tuples -/
theorem sa_popTail (i j : Nat) {x y : Str} {px py apos cpos spos p3 : Pos} {l : List As} {B0 : As} {m : List As} {jj} {p4 : Pos} (hij : i ≠ j) (hN0 : X.N.Nodup) (hr : ρ[i]? = some (En.own (l ++ [tupA (B0 :: m)]))) (k : Nx ((ρ.set i (.own l)).set j (.fr (tupA m)))) (hN : X.N[i]? = some x := by rfl) (hv : Vis X.env.scope x := by first | exact Or.inl rfl | exact Or.inr (Or.inl rfl) | exact Or.inr (Or.inr rfl)) (hd : (x == ("__debug__" : Str)) = false := by decide) (hcd : (x == ("__classdict__" : Str)) = false := by decide)
    (hbase : attributeBase (.Name x px) "pop" X.env (eval (.Name x px) X.env) = eval (.Name x px) X.env := by rfl) (hline : (apos.endLine == cpos.line) = true := by rfl)
    (hi : X.N[j]? = some y := by rfl) (hx : Loc X.env.scope y := by first | exact .inl rfl | exact .inr rfl) (hs : swapsWith (.Subscript (.Call (.Attribute (.Name x px) "pop" apos) [] [] cpos) (.Slice (some (.Constant (.int 1) jj p4)) none none p3) spos) (some (.Name y py)) pos.line X.env = pure false := by rfl)
    (hf : X.fn y = true ∨ X.env.scope.names.lookup y = some .local := by first | exact .inl rfl | exact .inr rfl | assumption) :
    SA X (.Assign [.Name y py] (.Subscript (.Call (.Attribute (.Name x px) "pop" apos) [] [] cpos) (.Slice (some (.Constant (.int 1) jj p4)) none none p3) spos) pos) ρ Nx W := by
  refine ps_imp (ps_set hN0 hi hx (pe_slice sl_tup (pe_bm0 PySem.F.plainAttrs_list PySem.F.slot_list_pop PySem.F.type_list_pop mt_pop (pe_var (i := i) hN hv hd hcd) hbase hline) (eo_some (ρ := ρ.set i (.own l)) (i := 1) (ea_w ea_int)) (eo_none (ρ := ρ.set i (.own l)))) hs hf) fun D σ H ⟨F0, H0, F, g, S, q, _⟩ => ?_
  obtain ⟨p, xs, h1, h2, h3, h4, h5⟩ := S.own i _ hr
  have hlen := h5.length
  rw [List.length_append, List.length_singleton] at hlen
  obtain ⟨v, hv1, hv2⟩ := h5.get (i := l.length) (A := tupA (B0 :: m)) (by rw [List.getElem?_append_right (Nat.le_refl _)]; simp)
  obtain ⟨t, ts, rfl, ht1, ht2⟩ := hv2
  have hdl : AllV F xs.dropLast l := by
    have z := h5.take l.length
    rw [List.take_left] at z
    rw [List.dropLast_eq_take, hlen]
    exact z
  obtain ⟨g3, S3⟩ := sat_wr g S hr h1 hdl
  refine ⟨_, h1, .inl ⟨rfl, _, SqL.of h4⟩, p, xs, .ref t, rfl, rfl, h4, by rw [hlen]; exact hv1, H0, F, S3, fun H2 F2 g2 => ⟨H0, F2, S3.gr g2, fun H4 F4 g4 => ?_⟩⟩
  have tl : ts.length = m.length + 1 := by rw [ht2.length]; rfl
  refine ⟨t, ts, rfl, SqT.of (g4.h t _ (g2.h t _ (g3.i t _ ht1))), ?_, fun pp hp => ?_⟩
  · intro z
    have z1 := z.1
    exact sIx_pos (n := ts.length) (i := 1) 0 (by decide) (by omega) z1
  · have gg := (g3.trans g2).trans g4
    have e : cutV ts (some ((1 : Nat) : Int)) none = ts.drop 1 := by
      unfold cutV
      rw [HT.sIx_none, show HT.sIx ts.length 0 (some ((1 : Nat) : Int)) = min 1 ts.length from HT.sIx_nat ts.length 0 1, Nat.min_eq_left (by omega), List.take_of_length_le (by rw [List.length_drop]; exact Nat.le_refl _)]
    have e1 : cutV ts (some (1 : Int)) none = ts.drop 1 := e
    have n4 := gg.i.none hp
    refine q _ _ _ (upd F4 pp (.tup (cutV ts (some (1 : Int)) none))) k (gg.trans (.new gg.i hp)) ?_
    refine (((S3.gr g2).gr g4).gr (.new gg.i hp)).set ⟨pp, _, rfl, upd_same, ?_⟩
    rw [e1]
    exact (((ht2.drop 1).mono (g2.f.trans g4.f)).mono (Ex.new n4))
end
end Lk

set_option Elab.async false
set_option linter.all false
set_option maxRecDepth 100000
set_option maxHeartbeats 4000000
namespace Lk
open PySem PySem.Calls L2
/-! ### what an owned list holds, opened -/
theorem sat_ownEx {H0 F H : Hp} {σ : L2.St} {ρ : List En} {i : Nat} {l : List As} {τ : Type} {P : τ → Prop} {l' : τ → List As} (S : Sat H0 F σ H ρ) (hi : ρ[i]? = some (En.own l)) (h : ∀ F xs, AllV F xs l → ∃ t, P t ∧ AllV F xs (l' t)) : ∃ t, P t ∧ Sat H0 F σ H (ρ.set i (.own (l' t))) := by
  obtain ⟨p', xs, h1, h2, h3, h4, h5⟩ := S.own i l hi
  obtain ⟨t, ht, hx⟩ := h F xs h5
  have hi' : i < ρ.length := (List.getElem?_eq_some_iff.mp hi).1
  refine ⟨t, ht, S.ex, fun j B e => ?_, fun j m' e => ?_, fun j k m1 n1 q e1 e2 y1 y2 q1 q2 => ?_, by rw [List.length_set]; exact S.len, fun j B e => ?_⟩
  · by_cases hj : i = j
    · subst hj
      rw [List.getElem?_set_self hi'] at e
      simp at e
    · rw [List.getElem?_set_ne hj] at e
      exact S.fr j B e
  · by_cases hj : i = j
    · subst hj
      rw [List.getElem?_set_self hi'] at e
      have e : l' t = m' := by simpa using e
      subst e
      exact ⟨p', xs, h1, h2, h3, h4, hx⟩
    · rw [List.getElem?_set_ne hj] at e
      exact S.own j m' e
  · have back : ∀ {j : Nat} {y : En}, (ρ.set i (.own (l' t)))[j]? = some y → y.Mn → ∃ z, ρ[j]? = some z ∧ z.Mn := fun {j y} e m => by
      by_cases hj : i = j
      · subst hj
        exact ⟨_, hi, True.intro⟩
      · rw [List.getElem?_set_ne hj] at e
        exact ⟨y, e, m⟩
    obtain ⟨a1, z1, w1⟩ := back e1 y1
    obtain ⟨a2, z2, w2⟩ := back e2 y2
    exact S.sep j k a1 a2 q z1 z2 w1 w2 q1 q2
  · by_cases hj : i = j
    · subst hj
      rw [List.getElem?_set_self hi'] at e
      simp at e
    · rw [List.getElem?_set_ne hj] at e
      exact S.ow j B e
theorem ba_ownEx {X : Cx} {sts : List Stmt} {ρ : List En} {Nx : List En → Prop} {W : Wn} {i : Nat} {l : List As} {τ : Type} {P : τ → Prop} {l' : τ → List As} (hi : ρ[i]? = some (En.own l)) (h : ∀ F xs, AllV F xs l → ∃ t, P t ∧ AllV F xs (l' t)) (k : ∀ t, P t → BA X sts (ρ.set i (.own (l' t))) Nx W) : BA X sts ρ Nx W := by
  refine ⟨fun pins s σ H D I ⟨F0, H0, F, g, S, q⟩ => ?_⟩
  obtain ⟨t, ht, T⟩ := sat_ownEx S hi h
  exact (k t ht).run pins s σ H D I ⟨F0, H0, F, g, T, q⟩
end Lk

set_option Elab.async false
set_option linter.all false
set_option maxRecDepth 100000
set_option maxHeartbeats 4000000
namespace Lk
open PySem PySem.Calls L2 PySem.Spec PyProof.Rows NdefX
/-! ### super().__init__(e) in an own error's __init__ -/
/-- what the written part says of the def at f: a method that names __class__ -/
structure SupAt (P : Program) (K : PySem.W.Frag) (mg : Str → Option Value) (f cc cda C : Addr) (name qual : Str) (params : Arguments) (body : List Stmt) (scope : Scope) (fd : FuncData) : Prop where
  lk : ∃ (oc : Value) (od : Option Addr) (kV doc pm : Value) (an : Option Addr) (ct : Value) (osl : Array (Option Value)), fd = PySem.W.fnX name qual params body scope [("__class__", cc)] .none kV doc pm an (.ref cda) ct ∧ K.lookup f = some ⟨oc, od, .func fd, osl⟩
  cd : PySem.W.codeIn K (.ref cda) qual = true
  file : ∃ (c : Value) (d : Option Addr) (vs : Array Value) (sl : Array (Option Value)) (fl : Str) (tf : Tok), K.lookup cda = some ⟨c, d, .fields vs, sl⟩ ∧ vs[2]? = some (.str fl tf) ∧ ((P.main.file : Str) == fl) = true
  cell : ∃ (c : Value) (d : Option Addr) (sl : Array (Option Value)), K.lookup cc = some ⟨c, d, .cell (some (.ref C)), sl⟩
  sub : PySem.W.mroIn K C (.ref C) = some true
  op : PySem.W.nsIn K cStatics "thirdparty.any" = some none
  ini : PySem.W.ks_superIn K C C "__init__" = some (some (.builtin "ValueError.__init__"))
  sve : PySem.W.subIn K (.ref C) (.type "ValueError") = some true
  sup : mg "super" = none
  top : (P.main.scope.names.lookup ("super" : Str)).isSome = false
section
variable {CX : CXT} {P : Program} {w : World} {K : PySem.W.Frag} {mg : Str → Option Value} {base : Heap} {f cc cda C : Addr} {name qual : Str} {params : Arguments} {rest : List Stmt} {scope : Scope} {fd : FuncData} {N ps : List Str} {k : Nat} {sp : Sp} {e : Expr} {p0 p1 p2 p3 p4 : Pos} {ar : Arg}
abbrev supSt (p0 p1 p2 p3 p4 : Pos) (e : Expr) : Stmt := .Expr (.Call (.Attribute (.Call (.Name "super" p0) [] [] p1) "__init__" p2) [e] [] p3) p4
def supEv (env : Env) (p0 p1 p2 p3 : Pos) (e : Expr) (pl : Sem Bool) : Prop := eval (.Call (.Attribute (.Call (.Name "super" p0) [] [] p1) "__init__" p2) [e] [] p3) env = (do
  let ov ← attributeBase (.Call (.Name "super" p0) [] [] p1) "__init__" env (eval (.Call (.Name "super" p0) [] [] p1) env)
  standAt p2.atName
  let (f, first) ← holding [ov] (getMethod ov "__init__" pl)
  callWith p3 f first (backTo p3 (starEach [e] env)) [])
theorem bo_super : bootBuiltins ("super" : Str) = some (.type "super") := by decide +kernel
theorem init_bound {X : Cx} {pins : List (Addr × Obj)} {σ : L2.St} {H : Hp} {s : Shared} {u a C : Addr} {us : List Value} {Q : Value → Shared → Prop} (T : OexC X.K C) (I : Inv X pins σ H s) (e : H a = some (exo a C none)) (hu : s.heap.get? u = some (PySem.W.kxs_mw "ValueError.__init__" a)) (hl : us.length ≤ sizeLine)
    (h : ∀ s', Inv X pins σ H s' → Q .none s') : wpAny (model X.prog X.w) X.A (call (.ref u) us) Q E s := by
  obtain ⟨nm, q, N, bs, bm, sn, sub, ab, col, dd, k0, k1, k2, k3, k5, hC, hbm⟩ := T.cls
  obtain ⟨t1, ho⟩ := exo_at I.hok e
  have hC' := I.kIn _ _ hC
  obtain ⟨hp, g, d, t, os⟩ := s
  refine wpAny_call (codeAny_of_tree ?_)
  show wpAny _ X.A.in1 (callAny (.ref u) ⟨us, []⟩) _ _ _
  simp only [callAny]
  refine wpAny_bind (wpAny_load hu ?_)
  simp only [PySem.W.kxs_mw, show (Value.type "method-wrapper" == Value.type "method" || Value.type "method-wrapper" == Value.type "builtin_function_or_method" || Value.type "method-wrapper" == Value.type "method-wrapper") = true by decide, if_true]
  refine PySem.W.KFB.if_so (by decide) ?_
  refine wpAny_bind (PySem.W.check_bound_init PySem.F.excBase_ValueError.toExcCallFacts hC' ho rfl ?_)
  refine wpAny_bind (wpAny_pure (wpAny_pure ?_))
  refine ⟨plainId_quiet PySem.F.excBase_ValueError.init.plain _, codeAny_builtin PySem.F.excBase_ValueError.initEntry ?_⟩
  refine PySem.W.exc_init_tree (cls := .ref C) (t0 := t1) (dv := none) (c2 := .none) (c3 := .none) (b4 := .bool false) ho hl fun h' k hx _ => ?_
  have J := I.write (t' := t) (x := a) (e := a) (o := exo a C none) (by rw [e]; exact True.intro) (.inl rfl) k ⟨_, hx⟩ (exo_ok hx)
  have eu : upd H a (exo a C none) = H := by
    funext b
    by_cases hb : b = a
    · rw [hb, upd_same, e]
    · rw [upd_ne hb]
  rw [eu] at J
  exact h _ J
/-- super().__init__(e) -/
theorem at_super {X : Cx} {pl : Sem Bool} {pins : List (Addr × Obj)} {σ : L2.St} {H : Hp} {s : Shared} {body bd : List Stmt} {a : Addr} {te : TE} {Q : Value → Shared → Prop} (T : SupAt X.prog X.K X.mg f cc cda C name qual params bd scope fd) (O : OexC X.K C) (I : Inv X pins σ H s)
    (hk : X.env.scope.kind = .function) (hks : X.env.kindOf "super" = some .globalImplicit) (hkc : X.env.kindOf "__class__" = some .free) (hka : X.env.kindOf ar.arg = some .local) (hfu : X.env.func = some f) (hco : X.env.code = .ref cda) (hcl : X.env.cells.lookup ("__class__" : Str) = some cc) (hN : X.N[0]? = some ar.arg)
    (hpar : (params.posonlyargs ++ params.args).head? = some ar) (ha : σ[0]? = some (some (.ref a))) (ea : H a = some (exo a C none)) (hte : PE X e te) (hse : starEach [e] X.env = (false, eval e X.env) :: starEach [] X.env) (hc : supEv X.env p0 p1 p2 p3 e pl)
    (h : te σ H fun v H1 => H1 a = some (exo a C none) ∧ ∀ s', Inv X pins σ H1 s' → Q .none s') :
    PySem.wpAt (model X.prog X.w) X.A (.func body X.env) (eval (.Call (.Attribute (.Call (.Name "super" p0) [] [] p1) "__init__" p2) [e] [] p3) X.env) Q X.xe s := by
  obtain ⟨oc, od, kV, doc, pm, an, ct, osl, rfl, lk⟩ := T.lk
  obtain ⟨cF, dF, vF, sF, fl, tf, lF, hvF, hfl⟩ := T.file
  obtain ⟨cC, dC, sC, lC⟩ := T.cell
  obtain ⟨nm, q, Ns, bs, bm, sn, sub, ab, col, dd, k0, k1, k2, k3, k5, hC, hbm⟩ := O.cls
  have hcI : PySem.W.clsIn X.K C = some { name := nm, bases := bs, mro := .ref C :: bm, ns := Ns, qualname := q, hasDict := true, slotNames := sn, subclasses := sub, abstract := ab, collection := col, hasDel := false } := by unfold PySem.W.clsIn; rw [hC] <;> rfl
  have KX := I.kIn
  obtain ⟨t1, ho⟩ := exo_at I.hok ea
  obtain ⟨mb, hb1, hb2⟩ := I.mod.blt
  obtain ⟨m, hn, hlk⟩ := id I.loc
  obtain ⟨u0, ru, look⟩ := hlk 0 ar.arg (.ref a) hN ha (.inl hka)
  obtain rfl : u0 = Value.ref a := ru
  have hma : m ar.arg = some (.ref a) := by
    rcases look with ⟨_, e⟩ | ⟨k, _⟩
    · exact e
    · rw [hka] at k
      rcases k with k | k <;> cases k
  refine ks_wpAt_MethodCall (pl := pl) ?_ hc
  refine ks_wpAt_super_base hks hkc (by decide) hfu (KX _ _ lk) rfl hpar hco (KX _ _ lF) rfl hvF hfl T.top ?_
  refine PySem.W.ks_loadName_global hk hks (Calls.loadGlobal_builtin (by rw [I.ok.glob]; exact I.mod.glob.keeps I.bk) T.sup (by rw [I.ok.blt]; exact hb1.keeps I.bk) ((hb2 "super" (by decide)).trans bo_super) ⟨rfl, ?_⟩)
  refine wpAny_loadName_free hk hkc hcl ⟨_, KX _ _ lC, rfl⟩ ?_
  refine wpAny_loadName_local hk hka hn hma ?_
  obtain ⟨hp, g, d, t, os⟩ := s
  have hCo : hp.get? C = some _ := KX _ _ hC
  refine ks_wpAny_isType_cls hCo rfl ⟨rfl, ?_⟩
  refine ks_wpAny_call_super hCo rfl ho rfl (fun c z => by cases z) (PySem.W.looks_mroIn KX T.sub) (fun h' hso k => ?_)
  have I1 : Inv X pins σ H ⟨h', g, d, t, os⟩ := I.kept (t' := t) k
  have KX1 : X.K.In h' := I1.kIn
  have ho1 := k _ _ ho
  have IA : PySem.W.InstAt h' a { cls := .ref C, dict := none, data := .fields #[.ref t1, .none, .none, .none, .bool false, .none] } C none := ⟨ho1, rfl, rfl, trivial⟩
  have hf : PySem.W.alongIn X.K "__init__" (((Value.ref C :: bm).dropWhile (· != .ref C)).drop 1) = some (some (.builtin "ValueError.__init__")) := by
    have z := T.ini
    unfold PySem.W.ks_superIn at z
    rw [hcI] at z
    exact z
  refine PySem.W.kxs_getMethod PySem.W.kxs_ValueError hso (PySem.W.looks_opaque KX1 T.op) (l₀ := .ref C :: bm) (fun A Q E s k q => wpAny_bind ((PySem.W.looks_clsIn KX1 hcI) A _ E s k (wpAny_pure q))) rfl KX1 hf (IA.type.andThen (PySem.W.looks_subIn KX1 T.sve)) (PySem.W.ks_ne KX1 IA hcI) (by decide) ?_
  have k2 : ∀ b o, h'.get? b = some o → (h'.push (PySem.W.kxs_mw "ValueError.__init__" a)).get? b = some o := fun b o e => Heap.get?_push_of_some _ e
  have I2 : Inv X pins σ H ⟨h'.push (PySem.W.kxs_mw "ValueError.__init__" a), g, d, t + 1, os⟩ := I1.kept (t' := t + 1) k2
  have hu : (h'.push (PySem.W.kxs_mw "ValueError.__init__" a)).get? h'.objs.size = some (PySem.W.kxs_mw "ValueError.__init__" a) := Heap.get?_push_at rfl rfl
  have fp := I1.fpOk (H' := H) (b := h'.objs.size) (Nat.le_refl _) (I1.hok.fresh (Nat.le_refl _))
  have I3 := I2.pinned (fp := [h'.objs.size]) (fun b hb => by rw [List.mem_singleton.mp hb]; exact fp) (fun b hb => by rw [List.mem_singleton.mp hb]; exact ⟨_, hu, fun v z => by cases z⟩)
  have ha1 : PA X [e] (tCons te tNil) := pa_cons hte pa_nil hse
  have hmem : (h'.objs.size, PySem.W.kxs_mw "ValueError.__init__" a) ∈ pinsAt [h'.objs.size] (h'.push (PySem.W.kxs_mw "ValueError.__init__" a)) := mem_pinsAt (List.mem_singleton.mpr rfl) hu
  have hr := ha1.run p3 _ _ σ H (fun vs H1 => match vs with | [_] => H1 a = some (exo a C none) ∧ ∀ s', Inv X pins σ H1 s' → Q .none s' | _ => False) I3 h
  rw [hse]
  refine PySem.W.kxs_callWith (i := "ValueError.__init__") (x := a) rfl ?_
  rw [hse] at hr
  refine evalArgs_plain (thn hr fun us s1 ⟨vs, H1, J, r, q⟩ => ?_)
  match vs, r, q with
  | [v], r, ⟨eb, q⟩ =>
    have hu1 := (J.pin _ (List.mem_append_right _ (List.mem_append_right _ hmem))).1
    refine ⟨hu1, ?_⟩
    refine init_bound O J eb hu1 ?_ fun s' J' => q s' J'.unpinned
    have z := r.length
    show ([] ++ us).length ≤ sizeLine
    rw [List.nil_append, ← z, sizeLine_eq]
    exact (by decide : 1 ≤ 16777216)
/-- THE RULE: such an __init__ by the rest of its body -/
theorem fn_super {nf : NF} (hnf : nf = ⟨name, qual, params, supSt p0 p1 p2 p3 p4 e :: rest, scope, [("__class__", cc)], cda⟩) (T : SupAt P K mg f cc cda C name qual params (supSt p0 p1 p2 p3 p4 e :: rest) scope fd) (O : OexC K C) (S : NScope N ps ["__class__"] scope) (hsup : scope.names.lookup ("super" : Str) = some .globalImplicit) (hpar : (params.posonlyargs ++ params.args).head? = some ar) (hN : N[0]? = some ar.arg) (hka : scope.names.lookup ar.arg = some .local)
    (len : ∀ vs H Q E, sp vs H Q E → vs.length = ps.length)
    (hse : ∀ env, starEach [e] env = (false, eval e env) :: starEach [] env) (hc : ∀ env, ∃ pl, supEv env p0 p1 p2 p3 e pl) (hint : ∀ L, interactive (envF nf f L) = false) (hsw : ∀ env, swapsWith (.Call (.Attribute (.Call (.Name "super" p0) [] [] p1) "__init__" p2) [e] [] p3) none p4.line env = pure false)
    (hbody : ∀ (A : Around) (outer : List Env) (s : Shared) (H : Hp) (vs : List V) (Q : VK) (E : XK), Room k (A.deeper (envF nf f s.heap.objs.size)) → sp vs H Q E →
      ∃ a, vs[0]? = some (.ref a) ∧ H a = some (exo a C none) ∧ ∃ (te : TE) (Good : V → Hp → Prop), PE (ncx CX P w K mg base N nf f A outer s H E) e te ∧ (∀ Qx : VK, (∀ v H1, Good v H1 → Qx v H1) → te (startF N vs [none]) H Qx) ∧ ∀ v H1, Good v H1 → H1 a = some (exo a C none) ∧
        ∃ t, PSs (ncx CX P w K mg base N nf f A outer s H E) rest t ∧ t { nx := fun _ H' => Q .non H', rt := Q } (startF N vs [none]) H1) :
    FnOk P w K mg base CX (k + 1) f fd ps sp := by
  refine ⟨len, fun A outer s H args us vs Q E hr e0 hb r hsp => ?_⟩
  have hl := len _ _ _ _ hsp
  have KX : K.In s.heap := e0.mod.kin.keeps fun b o e => (e0.bs b o e).1
  have lim : s.heap.NoLimit := e0.mod.nolimit.keeps fun b o e => (e0.bs b o e).1
  have T' := T
  obtain ⟨oc, od, kV, doc, pm, an, ct, osl, rfl, lk⟩ := T.lk
  obtain ⟨cC, dC, sC, lC⟩ := T.cell
  refine codeAny_call_function hr.depth (KX _ _ lk) rfl S.co S.gen rfl (PySem.W.codeRec_of KX T.cd) (hb _ _ _ _ ?_)
  refine wpAny_newFunctionEnv S.nocell (fun ⟨n, _⟩ hy => S.par n (List.of_mem_zip hy).1) (fun h₁ hns hsb => ⟨lim.fresh _ hsb, ?_⟩) S.kind
  have kp : ∀ b o, s.heap.get? b = some o → h₁.get? b = some o := fun b o e => hsb.extBut b o (Nat.ne_of_lt (Heap.lt_size e)) (Heap.get?_push_of_some _ e)
  have one : ∀ y c, List.lookup y [(("__class__" : Str), cc)] = some c → y = "__class__" ∧ c = cc := fun y c h => by
    by_cases hy : y = "__class__"
    · subst hy
      have z : cc = c := by simpa [List.lookup] using h
      exact ⟨rfl, z.symm⟩
    · have hb : (y == ("__class__" : Str)) = false := by simpa using hy
      simp [List.lookup, hb] at h
  have CA : CellsAt nf.cl ["__class__"] [none] s.heap H := by
    subst hnf
    refine ⟨rfl, fun y c h => ?_, fun x y c h1 h2 => (one x c h1).1.trans (one y c h2).1.symm, fun i y h => ?_⟩
    · obtain ⟨_, rfl⟩ := one y c h
      exact ⟨(e0.bs _ _ (e0.mod.kin _ _ lC)).2, some (.ref C), ⟨_, KX _ _ lC, rfl⟩⟩
    · cases i with
      | zero =>
        have h : ("__class__" : Str) = y := by simpa using h
        subst h
        exact ⟨cc, by simp [List.lookup], fun v h => by simp at h⟩
      | succ i => simp at h
  have eS : nf.scope = scope := by rw [hnf]
  have I : Inv (ncx CX P w K mg base N nf f A outer s H E) [] (startF N vs [none]) H { s with heap := h₁, toks := s.toks + (ps.zip us).length } := inv_startN (by rw [eS]; exact S) hr.hd e0 hl r CA hns kp
  obtain ⟨a, ha, ea, te, Good, hte, hmo, q⟩ := hbody A outer s H vs Q E (by subst hnf; exact hr.deeper _) hsp
  have ha' : (startF N vs [none])[0]? = some (some (.ref a)) := by
    unfold startF
    cases vs with
    | nil => simp at ha
    | cons v vs =>
      have ha : v = .ref a := by simpa using ha
      subst ha
      rfl
  subst hnf
  show codeAny _ _ (.func (supSt p0 p1 p2 p3 p4 e :: rest) (envF ⟨name, qual, params, supSt p0 p1 p2 p3 p4 e :: rest, scope, [("__class__", cc)], cda⟩ f s.heap.objs.size)) _ _
  refine ks_codeAny_funcAt ?_
  refine ks_wpAt_execs_cons (ks_wpAt_Expr_any ?_ (hint _) (hsw _))
  obtain ⟨pl, hpl⟩ := hc (envF ⟨name, qual, params, supSt p0 p1 p2 p3 p4 e :: rest, scope, [("__class__", cc)], cda⟩ f s.heap.objs.size)
  refine at_super (X := ncx CX P w K mg base N ⟨name, qual, params, supSt p0 p1 p2 p3 p4 e :: rest, scope, [("__class__", cc)], cda⟩ f A outer s H E) T' O I S.kind hsup (S.frk _ (List.mem_singleton.mpr rfl)) hka rfl rfl (by show List.lookup ("__class__" : Str) [(("__class__" : Str), cc)] = some cc; simp [List.lookup]) hN hpar ha' ea hte (hse _) hpl ?_
  refine hmo _ fun v H1 hg => ?_
  obtain ⟨eb, t, ht, hq⟩ := q v H1 hg
  refine ⟨eb, fun s1 J => wpAt_of_wpAny ?_⟩
  refine wpAny_mono (ht.run [] s1 _ H1 _ J hq) (fun fl s' hs => ?_) fun e s' hs => hs
  have fin : ∀ {σ' : L2.St} {H' : Hp} {v : V} {u : Value}, Inv (ncx CX P w K mg base N ⟨name, qual, params, supSt p0 p1 p2 p3 p4 e :: rest, scope, [("__class__", cc)], cda⟩ f A outer s H E) [] σ' H' s' → L2.RelV v u → Q v H' → CE outer P w H s Q u s' :=
    fun {σ' H' v u} J rv q => ⟨v, H', J.os, J.bare, J.base, J.hok, rv, q⟩
  cases fl with
  | ret u =>
    obtain ⟨v, σ', H', J, rv, q⟩ := hs
    exact fin J rv q
  | next =>
    obtain ⟨σ', H', J, q⟩ := hs
    exact fin (v := V.non) (u := Value.none) J rfl q
  | brk =>
    obtain ⟨_, _, _, q⟩ := hs
    exact False.elim q
  | cont =>
    obtain ⟨_, _, _, q⟩ := hs
    exact False.elim q
end
end Lk

set_option Elab.async false
set_option linter.all false
set_option maxRecDepth 100000
set_option maxHeartbeats 4000000
namespace Lk
open PySem PySem.Calls L2 PySem.Spec PyProof.Rows
/-! ### a list or a tuple; numbers -/
def sq (b : Bool) (l : List As) : As := if b then lstA l else tupA l
abbrev nat (n : Nat) : As := int (n : Int)
/-! ### dicts with numbers as keys -/
def kI (k : Int) : Key := Sum.inl k
def diA (l : List (Int × As)) : As := ⟨fun F v => ∃ a vs, v = .ref a ∧ F a = some (.dK ((l.map fun x => kI x.1).zip vs)) ∧ AllV F vs (l.map Prod.snd), fun e ⟨a, vs, h1, h2, h3⟩ => ⟨a, vs, h1, e a _ h2, h3.mono e⟩⟩
theorem kI_inj (x y : Int) (h : kI x = kI y) : x = y := by
  unfold kI at h
  simpa using h
/-- in its place, or at the end -/
def putA (l : List (Int × As)) (k : Int) (A : As) : List (Int × As) := if (l.any fun x => decide (x.1 = k)) = true then l.map (fun x => if x.1 = k then (x.1, A) else x) else l ++ [(k, A)]
theorem zip_any (k : Int) : ∀ {l : List (Int × As)} {vs : List V}, vs.length = l.length → (((l.map fun x => kI x.1).zip vs).any fun kv => decide (kv.1 = kI k)) = l.any fun x => decide (x.1 = k)
  | [], vs, _ => by simp
  | x :: l, v :: vs, h => by
    rw [List.map_cons, List.zip_cons_cons, List.any_cons, List.any_cons, zip_any k (l := l) (vs := vs) (by simpa using h)]
    congr 1
    by_cases e : x.1 = k
    · rw [e]; simp
    · rw [decide_eq_false e, decide_eq_false fun z => e (kI_inj _ _ z)]
  | _ :: _, [], h => by simp at h
theorem putK_zip {F : Hp} {k : Int} {A : As} {v : V} (hv : A.p F v) : ∀ {l : List (Int × As)} {vs : List V}, AllV F vs (l.map Prod.snd) → ∃ us, putK ((l.map fun x => kI x.1).zip vs) (kI k) v = ((putA l k A).map fun x => kI x.1).zip us ∧ AllV F us ((putA l k A).map Prod.snd) := by
  intro l vs h
  have hl : vs.length = l.length := by rw [h.length, List.length_map]
  unfold putK putA
  rw [zip_any k hl]
  by_cases c : (l.any fun x => decide (x.1 = k)) = true
  · rw [if_pos c, if_pos c]
    clear c
    induction l generalizing vs with
    | nil =>
      cases vs with
      | nil => exact ⟨[], rfl, trivial⟩
      | cons _ _ => exact h.elim
    | cons x l ih =>
      cases vs with
      | nil => exact h.elim
      | cons u vs =>
        obtain ⟨us, e1, e2⟩ := ih (vs := vs) h.2 (by simpa using hl)
        by_cases e : x.1 = k
        · refine ⟨v :: us, ?_, ?_⟩
          · rw [List.map_cons, List.zip_cons_cons, List.map_cons, List.map_cons, List.map_cons, e1]
            rw [if_pos (show kI x.1 = kI k by rw [e]), if_pos e, List.zip_cons_cons]
          · rw [List.map_cons, if_pos e, List.map_cons]
            exact ⟨hv, e2⟩
        · refine ⟨u :: us, ?_, ?_⟩
          · rw [List.map_cons, List.zip_cons_cons, List.map_cons, List.map_cons, List.map_cons, e1]
            rw [if_neg (fun z => e (kI_inj _ _ z)), if_neg e, List.zip_cons_cons]
          · rw [List.map_cons, if_neg e, List.map_cons]
            exact ⟨h.1, e2⟩
  · rw [if_neg c, if_neg c]
    refine ⟨vs ++ [v], ?_, ?_⟩
    · rw [List.map_append, List.zip_append (by rw [List.length_map, hl])]
      rfl
    · rw [List.map_append]
      exact h.snoc hv
theorem putA_len (l : List (Int × As)) (k : Int) (A : As) : (putA l k A).length ≤ l.length + 1 := by
  unfold putA
  split
  · rw [List.length_map]; omega
  · rw [List.length_append, List.length_cons, List.length_nil]; exact Nat.le_refl _
section
variable {α : Type}
/-- what a dict comprehension makes -/
def dcA (l : List α) (kf : α → Int) (g : α → As) : List (Int × As) := l.foldl (fun acc a => putA acc (kf a) (g a)) []
theorem dcA_len (kf : α → Int) (g : α → As) : ∀ (l : List α) (acc : List (Int × As)), (l.foldl (fun acc a => putA acc (kf a) (g a)) acc).length ≤ acc.length + l.length
  | [], _ => Nat.le_refl _
  | a :: l, acc => by
    have h1 := dcA_len kf g l (putA acc (kf a) (g a))
    have h2 := putA_len acc (kf a) (g a)
    rw [List.foldl_cons, List.length_cons]
    omega
theorem dcA_snoc (l : List α) (a : α) (kf : α → Int) (g : α → As) : dcA (l ++ [a]) kf g = putA (dcA l kf g) (kf a) (g a) := by
  unfold dcA
  rw [List.foldl_append]
  rfl
structure Dcs (F1 H1 : Hp) (D : Addr) (l : List α) (p : α → Bool) (kf : α → Int) (g : α → As) (i : Nat) (H' : Hp) : Prop where
  ex : ∃ F' vs, Gr F1 H1 F' H' ∧ F' D = none ∧ H' D = some (.dK (((dcA ((l.take i).filter p) kf g).map fun x => kI x.1).zip vs)) ∧ AllV F' vs ((dcA ((l.take i).filter p) kf g).map Prod.snd)
def tKc (ρ : α → List En) (l : List α) (p : α → Bool) (kf : α → Int) : TE := fun σ H Q => ∃ a, a ∈ l ∧ p a = true ∧ tA (ρ a) (int (kf a)) σ H Q
theorem pe_kc {X : Cx} {e : Expr} {ρ : α → List En} {l : List α} {p : α → Bool} {kf : α → Int} (h : ∀ a ∈ l, p a = true → EA X e (ρ a) (int (kf a))) : PE X e (tKc ρ l p kf) := ⟨fun pins s σ H Q I ⟨a, ha, hp, q⟩ => (h a ha hp).run pins s σ H Q I q⟩
theorem dcs_turn {F1 H1 : Hp} {D : Addr} {l : List α} {p : α → Bool} {kf : α → Int} {g : α → As} {i : Nat} {H' H0 : Hp} {σ : L2.St} {j : Nat} {ρ : List En} {enc : α → As} {x : V} {vs : List Nat} {a : α} (hj : j ∈ vs) (ha : l[i]? = some a) (hz : l.length < sizeLine)
    (S : Sat H0 F1 σ H1 ρ) (hx : (enc a).p F1 x) (L : Dcs F1 H1 D l p kf g i H') (hD : H1 D = none) :
    gName j x (L2.wipe σ vs) H' fun σ2 H2 => L2.wipe σ2 vs = L2.wipe σ vs ∧ tTc (fun a => (wipeE ρ vs).set j (.fr (enc a))) l p σ2 H2 fun b H3 =>
      if b = true then tKc (fun a => (wipeE ρ vs).set j (.fr (enc a))) l p kf σ2 H3 fun y H4 => tEc (fun a => (wipeE ρ vs).set j (.fr (enc a))) l p g σ2 H4 fun z H5 => ∃ kvs k, y = kV k ∧ H5 D = some (.dK kvs) ∧ kvs.length < sizeLine ∧ Dcs F1 H1 D l p kf g (i + 1) (upd H5 D (.dK (putK kvs k z))) else Dcs F1 H1 D l p kf g (i + 1) H3 := by
  obtain ⟨F', us, G, fD, hDl, hall⟩ := L.ex
  have hi : i < l.length := (List.getElem?_eq_some_iff.mp ha).1
  have mem : a ∈ l := List.mem_of_getElem? ha
  have tk : l.take (i + 1) = l.take i ++ [a] := by
    rw [List.take_add_one, ha]
    rfl
  refine ⟨wipe_set hj, a, mem, H0, F', ((S.gr G).wipe vs).set ((enc a).mono G.f hx), fun H3 F3 g3 => ?_⟩
  have GD : Gr F1 H1 F3 H3 := G.trans g3
  have f3 : F3 D = none := g3.n D _ hDl fD
  have h3 : H3 D = some _ := g3.h D _ hDl
  cases hp : p a with
  | false =>
    refine ⟨F3, us, GD, f3, ?_, ?_⟩
    · rw [tk, List.filter_append, List.filter_cons, hp]
      simpa using h3
    · rw [tk, List.filter_append, List.filter_cons, hp]
      simpa using hall.mono g3.f
  | true =>
    refine ⟨a, mem, hp, H0, F3, ((S.gr GD).wipe vs).set ((enc a).mono GD.f hx), fun y H4 F4 g4 hy => ?_⟩
    have hy : y = .int (kf a) := hy
    subst hy
    have GE := GD.trans g4
    refine ⟨a, mem, hp, H0, F4, ((S.gr GE).wipe vs).set ((enc a).mono GE.f hx), fun z H5 F5 g5 hz5 => ?_⟩
    have f4 : F4 D = none := g4.n D _ h3 f3
    have h4 : H4 D = some _ := g4.h D _ h3
    have f5 : F5 D = none := g5.n D _ h4 f4
    have h5 : H5 D = some _ := g5.h D _ h4
    refine ⟨_, kI (kf a), rfl, h5, ?_, ?_⟩
    · have q := dcA_len kf g ((l.take i).filter p) []
      have q2 := List.length_filter_le p (l.take i)
      rw [List.length_take] at q2
      rw [List.length_zip, List.length_map]
      have q3 : (dcA ((l.take i).filter p) kf g).length ≤ ((l.take i).filter p).length := by simpa [dcA] using q
      omega
    · have GF := GE.trans g5
      obtain ⟨us', e1, e2⟩ := putK_zip (k := kf a) hz5 ((hall.mono (g3.f.trans g4.f)).mono g5.f)
      refine ⟨F5, us', ⟨GF.f, fun b o q => ?_, fun b o q => ?_, GF.n⟩, f5, ?_, ?_⟩
      · rw [upd_ne (ne_of_none q hD)]
        exact GF.h b o q
      · rw [upd_ne (ne_of_none q f5)]
        exact GF.i b o q
      · rw [upd_same, e1, tk, List.filter_append, show List.filter p [a] = [a] by simp [hp], dcA_snoc]
      · rw [tk, List.filter_append, show List.filter p [a] = [a] by simp [hp], dcA_snoc]
        exact e2
section
variable {X : Cx} {ρ : List En} {pos : Pos} {kx vx it : Expr} {ifs : List Expr} {scope : Scope}
theorem tdc_src {own : List (Str × Nat)} {j : Nat} {l : List α} {enc : α → As} {p : α → Bool} {kf : α → Int} {g : α → As} {σ : L2.St} {H : Hp} {Q : VK} (hj : j ∈ own.map (·.2)) (hz : l.length < sizeLine) (h : tA ρ (diA (dcA (l.filter p) kf g)) σ H Q) :
    tDc (iS ρ (l.map enc)) (gName j) (tTc (fun a => (wipeE ρ (own.map (·.2))).set j (.fr (enc a))) l p) (tKc (fun a => (wipeE ρ (own.map (·.2))).set j (.fr (enc a))) l p kf) (tEc (fun a => (wipeE ρ (own.map (·.2))).set j (.fr (enc a))) l p g) (own.map (·.2)) σ H Q := by
  obtain ⟨H0, F, S, k⟩ := h
  refine ⟨H0, F, S, fun J So xs H1 F1 g1 h2 hJ hS D hD => ?_⟩
  have hlen : xs.length = l.length := by rw [h2.length, List.length_map]
  refine it_walk (xs := xs) hJ (fun i H' => Dcs F1 H1 D l p kf g i H') ⟨F1, [], .newH g1.i hD, g1.i.none hD, by simp [dcA, upd_same], by simp [AllV, dcA]⟩ (fun i H' _ L => ?_) (fun i x H' hx L => ?_) (fun H' L => ?_)
  · obtain ⟨F', acc, G, _⟩ := L.ex
    exact hS H' (G.f.trans G.i)
  · have hi : i < l.length := by
      have z := (List.getElem?_eq_some_iff.mp hx).1
      omega
    have ha : l[i]? = some l[i] := List.getElem?_eq_getElem hi
    obtain ⟨u, hu, hA⟩ := h2.get (i := i) (A := enc l[i]) (by rw [List.getElem?_map, ha]; rfl)
    rw [hx] at hu
    have e : x = u := by simpa using hu
    subst e
    exact dcs_turn hj ha hz (S.gr g1) hA L hD
  · rw [hlen] at L
    obtain ⟨F', us, G, fD, hDl, hall⟩ := L.ex
    rw [List.take_length] at hall hDl
    have G' := g1.trans G
    exact k _ H' _ (G'.take (g1.h.none hD) fD hDl) ⟨D, us, rfl, upd_same, hall.mono (Ex.new fD)⟩
/-- {k: v for x in .. if ..}, keys numbers -/
theorem ea_dc {own : List (Str × Nat)} (j : Nat) {x : Str} {px : Pos} {l : List α} {enc : α → As} {p : α → Bool} {kf : α → Int} {g : α → As} (hc : X.calm = true) (hN : X.N.Nodup) (hi : ES X (.Name x px) it ρ (l.map enc)) (hz : l.length < sizeLine) (ok : BlkOk X.N X.env.scope scope own)
    (hg : ∀ (s : Shared) (H : Hp) (C : Addr) (cl : List (Str × Addr)) (fp : List Addr), PG (X.blk s H scope (compEnvC scope cl C X.env) fp) (.Name x px) (gName j))
    (ht : ∀ (s : Shared) (H : Hp) (C : Addr) (cl : List (Str × Addr)) (fp : List Addr), ∀ a ∈ l, PTs (X.blk s H scope (compEnvC scope cl C X.env) fp) ifs (tTs ((wipeE ρ (own.map (·.2))).set j (.fr (enc a))) (p a)))
    (hk : ∀ (s : Shared) (H : Hp) (C : Addr) (cl : List (Str × Addr)) (fp : List Addr), ∀ a ∈ l, p a = true → EA (X.blk s H scope (compEnvC scope cl C X.env) fp) kx ((wipeE ρ (own.map (·.2))).set j (.fr (enc a))) (int (kf a)))
    (he : ∀ (s : Shared) (H : Hp) (C : Addr) (cl : List (Str × Addr)) (fp : List Addr), ∀ a ∈ l, p a = true → EA (X.blk s H scope (compEnvC scope cl C X.env) fp) vx ((wipeE ρ (own.map (·.2))).set j (.fr (enc a))) (g a))
    (hj : j ∈ own.map (·.2) := by decide) (hs : ∀ z, foldedSetIterable it X.env z = pure z := by intro _; rfl) :
    EA X (.DictComp kx vx [⟨.Name x px, it, ifs, 0⟩] scope pos) ρ (diA (dcA (l.filter p) kf g)) :=
  pe_imp (pe_dc (own := own) hc hN hi ok hg (fun s H C cl fp => pts_c (ht s H C cl fp)) (fun s H C cl fp => pe_kc (hk s H C cl fp)) (fun s H C cl fp => pe_c (he s H C cl fp)) hs) fun σ H Q h => tdc_src hj hz h
theorem sw_trueD {gs : List Comprehension} {py : Pos} {y : Str} {l : Nat} {env : Env} (hk : env.scope.kind = .function) (hy : env.scope.names.lookup y = some .local) (hl : (py.line == pos.line) = true)
    (ha : (scope.names.any fun (n, k) => n == y && (k == .local || k == .cell)) = false) : swapsWith (.DictComp kx vx gs scope pos) (some (.Name y py)) l env = pure true := by
  have ky : env.kindOf y = some .local := hy
  have hb : env.blockKind = .function := by unfold Env.blockKind; rw [hk]; rfl
  unfold swapsWith
  simp only [hb, ky, ha, Expr.pos, hl]
  rfl
/-- name = {..} on one line, the name a local -/
theorem ps_setDc {i : Nat} {y : Str} {py : Pos} {tg iter : Expr} {own : List (Str × Nat)} {spos : Pos} {wi : TI} {g : TG} {tt : TT} {tk tv : TE} (hc : X.calm = true) (hN : X.N.Nodup) (hy : X.N[i]? = some y) (hyl : X.env.scope.names.lookup y = some .local)
    (hsw : swapsWith (.DictComp kx vx [⟨tg, iter, ifs, 0⟩] scope pos) (some (.Name y py)) spos.line X.env = pure true) (hi : PI X tg iter wi) (ok : BlkOk X.N X.env.scope scope own)
    (hg : ∀ (s : Shared) (H : Hp) (C : Addr) (cl : List (Str × Addr)) (fp : List Addr), PG (X.blk s H scope (compEnvC scope cl C X.env) fp) tg g) (ht : ∀ (s : Shared) (H : Hp) (C : Addr) (cl : List (Str × Addr)) (fp : List Addr), PTs (X.blk s H scope (compEnvC scope cl C X.env) fp) ifs tt)
    (hk : ∀ (s : Shared) (H : Hp) (C : Addr) (cl : List (Str × Addr)) (fp : List Addr), PE (X.blk s H scope (compEnvC scope cl C X.env) fp) kx tk)
    (he : ∀ (s : Shared) (H : Hp) (C : Addr) (cl : List (Str × Addr)) (fp : List Addr), PE (X.blk s H scope (compEnvC scope cl C X.env) fp) vx tv) (hs : ∀ x, foldedSetIterable iter X.env x = pure x := by intro _; rfl) :
    PS X (.Assign [.Name y py] (.DictComp kx vx [⟨tg, iter, ifs, 0⟩] scope pos) spos) (tAsg (tDc wi g tt tk tv (own.map (·.2))) (gName i)) := by
  refine ⟨fun pins s σ H D I h => ?_⟩
  rw [exec_Assign_Name_used _ _ _ _ hsw]
  refine wpAny_bind (wpAny_standAt (wpAny_bind ?_))
  show wpAny _ X.A (do let _ ← comprehension (.DictComp kx vx [⟨tg, iter, ifs, 0⟩] scope pos) scope X.env (firstIterPos [⟨tg, iter, ifs, 0⟩] pos) newDict false (eval iter X.env) (some (assign (.Name y py) X.env))) _ _ s
  have h : tDc wi g tt tk tv (own.map (·.2)) σ H (fun x H1 => gName i x σ H1 D.nx) := h
  refine wpAny_bind (thn (dc_core (Qf := fun _ s' => SP X pins D .next s') hc hN I hi ok hg ht hk he hs h fun L C s' m H' I' q hn f => ?_) fun _ s' hq => wpAny_pure (wpAny_pure hq))
  show wpAny _ _ (assign (.Name y py) X.env (.ref L)) _ _ _
  refine wpAny_assign_Name (store_ok2 (v := V.ref L) I' hN hy (.inl hyl) rfl (fun s2 I2 ⟨a, sb, ha⟩ => ?_) (.inr hyl))
  obtain ⟨f0, f1, f2, f3, f4, f5⟩ := f
  have haC : C ≠ a := by
    rcases ha with z | z
    · rw [z]; exact f1
    · exact fun e => f4 y a z e.symm
  refine ⟨m, hn.sameBut sb haC, fun h3 sb3 => ?_⟩
  exact ⟨_, H', I2.turned (t' := s2.toks) (fun b o hb e => (sb3.2 b hb).trans e) f0 f1 f3 f4 f5, q⟩
theorem sa_setDc {own : List (Str × Nat)} {Nx : List En → Prop} {W : Wn} {spos : Pos} (i j : Nat) {x y : Str} {px py : Pos} {l : List α} {enc : α → As} {p : α → Bool} {kf : α → Int} {g : α → As} (hc : X.calm = true) (hN : X.N.Nodup) (hi : ES X (.Name x px) it ρ (l.map enc)) (hz : l.length < sizeLine) (ok : BlkOk X.N X.env.scope scope own)
    (hg : ∀ (s : Shared) (H : Hp) (C : Addr) (cl : List (Str × Addr)) (fp : List Addr), PG (X.blk s H scope (compEnvC scope cl C X.env) fp) (.Name x px) (gName j))
    (ht : ∀ (s : Shared) (H : Hp) (C : Addr) (cl : List (Str × Addr)) (fp : List Addr), ∀ a ∈ l, PTs (X.blk s H scope (compEnvC scope cl C X.env) fp) ifs (tTs ((wipeE ρ (own.map (·.2))).set j (.fr (enc a))) (p a)))
    (hk : ∀ (s : Shared) (H : Hp) (C : Addr) (cl : List (Str × Addr)) (fp : List Addr), ∀ a ∈ l, p a = true → EA (X.blk s H scope (compEnvC scope cl C X.env) fp) kx ((wipeE ρ (own.map (·.2))).set j (.fr (enc a))) (int (kf a)))
    (he : ∀ (s : Shared) (H : Hp) (C : Addr) (cl : List (Str × Addr)) (fp : List Addr), ∀ a ∈ l, p a = true → EA (X.blk s H scope (compEnvC scope cl C X.env) fp) vx ((wipeE ρ (own.map (·.2))).set j (.fr (enc a))) (g a))
    (k : Nx (ρ.set i (.fr (diA (dcA (l.filter p) kf g))))) (hy : X.N[i]? = some y := by rfl) (hyl : X.env.scope.names.lookup y = some .local := by rfl)
    (hsw : swapsWith (.DictComp kx vx [⟨.Name x px, it, ifs, 0⟩] scope pos) (some (.Name y py)) spos.line X.env = pure true := by exact sw_trueD rfl rfl rfl (by decide +kernel))
    (hj : j ∈ own.map (·.2) := by decide) (hs : ∀ z, foldedSetIterable it X.env z = pure z := by intro _; rfl) :
    SA X (.Assign [.Name y py] (.DictComp kx vx [⟨.Name x px, it, ifs, 0⟩] scope pos) spos) ρ Nx W :=
  ps_imp (ps_setDc (own := own) (i := i) hc hN hy hyl hsw hi ok hg (fun s H C cl fp => pts_c (ht s H C cl fp)) (fun s H C cl fp => pe_kc (hk s H C cl fp)) (fun s H C cl fp => pe_c (he s H C cl fp)) hs) fun D σ H ⟨F0, H0, F, g0, S, q, _⟩ =>
    tdc_src hj hz ⟨H0, F, S, fun v H' F' g' hv => q _ _ H' F' k (g0.trans g') ((S.gr g').set hv)⟩
end
end
end Lk

set_option Elab.async false
set_option linter.all false
set_option maxRecDepth 100000
set_option maxHeartbeats 4000000
namespace Lk
open PySem PySem.Calls L2 PySem.Spec PyProof.Rows
/-! ### the keys that a dict comprehension makes -/
theorem putA_keys (l : List (Int × As)) (k : Int) (A : As) : (putA l k A).map Prod.fst = if k ∈ l.map Prod.fst then l.map Prod.fst else l.map Prod.fst ++ [k] := by
  unfold putA
  by_cases c : (l.any fun x => decide (x.1 = k)) = true
  · have m : k ∈ l.map Prod.fst := by
      obtain ⟨x, hx, e⟩ := List.any_eq_true.mp c
      exact List.mem_map.mpr ⟨x, hx, of_decide_eq_true e⟩
    rw [if_pos c, if_pos m, List.map_map]
    refine List.map_congr_left fun x _ => ?_
    show (if x.1 = k then (x.1, A) else x).1 = x.1
    split <;> rfl
  · have m : ¬ k ∈ l.map Prod.fst := fun z => by
      obtain ⟨x, hx, e⟩ := List.mem_map.mp z
      exact c (List.any_eq_true.mpr ⟨x, hx, decide_eq_true e⟩)
    rw [if_neg c, if_neg m, List.map_append]
    rfl
/-- each of them once, as they come first -/
def onceF (ks : List Int) : List Int := ks.foldl (fun acc k => if k ∈ acc then acc else acc ++ [k]) []
theorem dcA_keys {α : Type} (kf : α → Int) (g : α → As) : ∀ (l : List α) (acc : List (Int × As)), (l.foldl (fun acc a => putA acc (kf a) (g a)) acc).map Prod.fst = (l.map kf).foldl (fun acc k => if k ∈ acc then acc else acc ++ [k]) (acc.map Prod.fst)
  | [], _ => rfl
  | a :: l, acc => by rw [List.foldl_cons, dcA_keys kf g l, List.map_cons, List.foldl_cons, putA_keys]
theorem dcA_fst {α : Type} (l : List α) (kf : α → Int) (g : α → As) : (dcA l kf g).map Prod.fst = onceF (l.map kf) := dcA_keys kf g l []
theorem onceF_go : ∀ (ks acc : List Int), acc.Nodup → (ks.foldl (fun acc k => if k ∈ acc then acc else acc ++ [k]) acc).Nodup ∧ ∀ x, x ∈ ks.foldl (fun acc k => if k ∈ acc then acc else acc ++ [k]) acc ↔ x ∈ acc ∨ x ∈ ks
  | [], acc, h => ⟨h, fun x => by simp⟩
  | k :: ks, acc, h => by
    rw [List.foldl_cons]
    by_cases m : k ∈ acc
    · rw [if_pos m]
      obtain ⟨h1, h2⟩ := onceF_go ks acc h
      refine ⟨h1, fun x => ?_⟩
      rw [h2, List.mem_cons]
      constructor
      · rintro (z | z)
        · exact .inl z
        · exact .inr (.inr z)
      · rintro (z | z | z)
        · exact .inl z
        · exact .inl (z ▸ m)
        · exact .inr z
    · rw [if_neg m]
      obtain ⟨h1, h2⟩ := onceF_go ks (acc ++ [k]) (List.nodup_append.mpr ⟨h, by simp, fun a ha b hb e => m (by
        have hb : b = k := by simpa using hb
        rw [← hb, ← e]; exact ha)⟩)
      refine ⟨h1, fun x => ?_⟩
      rw [h2, List.mem_append, List.mem_singleton, List.mem_cons]
      constructor
      · rintro ((z | z) | z)
        · exact .inl z
        · exact .inr (.inl z)
        · exact .inr (.inr z)
      · rintro (z | z | z)
        · exact .inl (.inl z)
        · exact .inl (.inr z)
        · exact .inr z
theorem onceF_nodup (ks : List Int) : (onceF ks).Nodup := (onceF_go ks [] List.nodup_nil).1
theorem onceF_mem (ks : List Int) (x : Int) : x ∈ onceF ks ↔ x ∈ ks := by
  rw [onceF, (onceF_go ks [] List.nodup_nil).2]
  simp
theorem look_isSome (k : Int) : ∀ l : List (Int × As), (l.lookup k).isSome = decide (k ∈ l.map Prod.fst)
  | [] => by simp
  | x :: l => by
    obtain ⟨a, A⟩ := x
    rw [List.map_cons]
    by_cases h : k = a
    · subst h; simp [List.lookup]
    · have hb : (k == a) = false := by simpa using h
      rw [List.lookup, hb]
      show (List.lookup k l).isSome = _
      rw [look_isSome k l, Bool.eq_iff_iff]
      simp [h]
theorem dget_i {H : Hp} {F : Hp} {a : Addr} {l : List (Int × As)} {vs : List V} (k : Int) (e : Ex F H) (h : F a = some (.dK ((l.map fun x => kI x.1).zip vs))) : DGet H a (.int k) (valV ((l.map fun x => kI x.1).zip vs) (kI k)) := DGet.k (k := Sum.inl k) (e a _ h)
section
variable {X : Cx} {e a b c o i : Expr} {es : List Expr} {ρ : List En} {A B : As} {pos apos : Pos} {k : Nat}
theorem et_inI {l : List (Int × As)} {s : Int} (hr : Room k X.A) (hi : EW X i ρ (int s)) (ho : EA X o ρ (diA l)) (hm : behindInMarks .In o = false) : ET X (.Compare i [.In] [o] pos) ρ (l.lookup s).isSome :=
  pt_imp (pt_cmp (pc_din (hu_of hr) hi ho) hm) fun σ H Q ⟨H0, F, S, q⟩ => ⟨H0, F, S, fun y H1 F1 g1 hy => ⟨H0, F1, S.gr g1, fun v H2 F2 g2 ⟨p, vs, ev, h1, h2⟩ => by
    have hy : y = .int s := hy
    subst hy
    refine ⟨p, _, ev, dget_i (F := F2) s g2.i h1, ?_⟩
    have z : (valV ((l.map fun x => kI x.1).zip vs) (kI s)).isSome = (l.lookup s).isSome := by
      cases hl : l.lookup s with
      | none =>
        rw [valV_nozip (r := kI) kI_inj h2 hl]
        rfl
      | some A =>
        obtain ⟨u, hu, _⟩ := valV_zip (r := kI) kI_inj h2 hl
        rw [hu]; rfl
    rw [z]
    exact ⟨_, rfl, q H2 F2 (g1.trans g2)⟩⟩⟩
/-- d[k] -/
theorem ea_getI {l : List (Int × As)} {s : Int} (hr : Room k X.A) (ho : EA X o ρ (diA l)) (hi : EW X i ρ (int s)) (hl : l.lookup s = some A) (hs : NoSl i := by exact fun _ _ => rfl) : EA X (.Subscript o i pos) ρ A :=
  pe_imp (pe_dget (hu_of hr) ho hi hs) fun σ H Q ⟨H0, F, S, q⟩ => ⟨H0, F, S, fun v H1 F1 g1 ⟨p, vs, ev, h1, h2⟩ => ⟨H0, F1, S.gr g1, fun y H2 F2 g2 hy => by
    have hy : y = .int s := hy
    subst hy
    obtain ⟨u, hu, hA⟩ := valV_zip (r := kI) kI_inj (h2.mono g2.f) hl
    exact ⟨p, u, ev, hu ▸ dget_i (F := F2) s g2.i (g2.f p _ h1), q u H2 F2 (g1.trans g2) hA⟩⟩⟩
theorem bo_sorted : bootBuiltins ("sorted" : Str) = some (.builtin "sorted") := by decide +kernel
theorem asc_uniq : ∀ {a b : List Int}, a.Perm b → a.Pairwise (· ≤ ·) → b.Pairwise (· ≤ ·) → a = b
  | [], b, p, _, _ => (List.nil_perm.mp p).symm
  | x :: a, [], p, _, _ => absurd p.symm (by intro z; have := List.nil_perm.mp z; cases this)
  | x :: a, y :: b, p, h1, h2 => by
    have hxy : x = y := by
      have m1 : x ∈ y :: b := p.mem_iff.mp List.mem_cons_self
      have m2 : y ∈ x :: a := p.mem_iff.mpr List.mem_cons_self
      rcases List.mem_cons.mp m1 with e | m1
      · exact e
      · rcases List.mem_cons.mp m2 with e | m2
        · exact e.symm
        · have q1 := (List.pairwise_cons.mp h1).1 y m2
          have q2 := (List.pairwise_cons.mp h2).1 x m1
          omega
    subst hxy
    rw [asc_uniq (List.Perm.cons_inv p) (List.pairwise_cons.mp h1).2 (List.pairwise_cons.mp h2).2]
/-- sorted(xs), numbers: ys the list in ascending order -/
theorem en_sorted {p : Pos} {ns ys : List Int} (ha : EL X a ρ (ns.map int)) (hp : ys.Perm ns) (hs2 : ys.Pairwise (· ≤ ·)) (hm : X.mg "sorted" = none) (hg : Gl X "sorted" := by rfl) (hs : starEach [a] X.env = (false, eval a X.env) :: starEach [] X.env := by rfl) (hpl : (backTo pos (starEach [] X.env)).any (·.1) = false := by rfl) :
    EN X (.Call (.Name "sorted" p) [a] [] pos) ρ (ys.map int) :=
  pe_imp (pe_callB cr_sortedI hg hm bo_sorted (pa_cons ha pa_nil hs) (he := hs) (hpl := hpl)) fun σ H Q ⟨H0, F, S, k⟩ => ⟨H0, F, S, fun x xs H1 F1 g1 h1 h2 => by
    have e : xs = ns.map V.int := AllV.scs (F := F1) (by rw [List.map_map]; exact h2)
    subst e
    refine ⟨x, ns, rfl, SqL.of h1, fun ns' q pm sr hq => ?_⟩
    obtain rfl : ns' = ys := asc_uniq (pm.trans hp.symm) sr hs2
    refine k q _ _ F1 (g1.trans (.newH g1.i hq)) (g1.h.none hq) (g1.i.none hq) upd_same ?_
    have z := AllV.of_scs (F := F1) (cs := ns'.map V.int)
    rw [List.map_map] at z
    exact z⟩
/-! ### a comprehension over the keys of a dict -/
def wipeAll (n : Nat) : List En := List.replicate n En.no
theorem wipeAll_no {n i : Nat} {e : En} (h : (wipeAll n)[i]? = some e) : e = .no := (List.mem_replicate.mp (List.mem_of_getElem? h)).2
theorem sat_none {H : Hp} {σ : L2.St} {n : Nat} (h : σ.length = n) : Sat H (fun _ => none) σ H (wipeAll n) :=
  ⟨fun a o z => (by cases z), fun i A e => (by have z := wipeAll_no e; cases z), fun i l e => (by have z := wipeAll_no e; cases z), fun i j x y p e _ m => (by rw [wipeAll_no e] at m; exact m.elim), (by unfold wipeAll; rw [List.length_replicate, h]), fun i B e => (by have z := wipeAll_no e; cases z)⟩
theorem ex_none {H : Hp} : Ex (fun _ => none) H := fun a o z => by cases z
theorem en_lcKeys {own : List (Str × Nat)} {elt : Expr} {scope : Scope} (i j : Nat) {x y : Str} {px py : Pos} {l : List (Int × As)} {g : Int → V} {n : Nat} (hc : X.calm = true) (hN : X.N.Nodup) (hn : ρ.length = n) (hi : ρ[i]? = some (.fr (diA l))) (hz : l.length < sizeLine) (ok : BlkOk X.N X.env.scope scope own)
    (hg : ∀ (s : Shared) (H : Hp) (C : Addr) (cl : List (Str × Addr)) (fp : List Addr), PG (X.blk s H scope (compEnvC scope cl C X.env) fp) (.Name x px) (gName j))
    (he : ∀ (s : Shared) (H : Hp) (C : Addr) (cl : List (Str × Addr)) (fp : List Addr), ∀ a : Int, EA (X.blk s H scope (compEnvC scope cl C X.env) fp) elt ((wipeAll n).set j (.fr (int a))) (sc (g a)))
    (hy : X.N[i]? = some y := by rfl) (hv : Vis X.env.scope y := by first | exact Or.inl rfl | exact Or.inr (Or.inl rfl) | exact Or.inr (Or.inr rfl)) (hd : (y == ("__debug__" : Str)) = false := by decide) (hcd : (y == ("__classdict__" : Str)) = false := by decide)
    (hj : j ∈ own.map (·.2) := by decide) (hs : ∀ z, foldedSetIterable (.Name y py) X.env z = pure z := by intro _; rfl) :
    EN X (.ListComp elt [⟨.Name x px, .Name y py, [], 0⟩] scope pos) ρ ((l.map Prod.fst).map fun k => sc (g k)) := by
  let te : TE := fun σ H Q => ∃ a : Int, tA ((wipeAll n).set j (.fr (int a))) (sc (g a)) σ H Q
  have hte : ∀ (s : Shared) (H : Hp) (C : Addr) (cl : List (Str × Addr)) (fp : List Addr), PE (X.blk s H scope (compEnvC scope cl C X.env) fp) elt te := fun s H C cl fp => ⟨fun pins s1 σ H1 Q I ⟨a, q⟩ => (he s H C cl fp a).run pins s1 σ H1 Q I q⟩
  let tt : TT := fun σ H Q => Q true H
  have htt : ∀ (s : Shared) (H : Hp) (C : Addr) (cl : List (Str × Addr)) (fp : List Addr), PTs (X.blk s H scope (compEnvC scope cl C X.env) fp) [] tt := fun s H C cl fp => ⟨fun pins s1 σ H1 Q I q => pts_nil.run pins s1 σ H1 Q I q⟩
  refine pe_imp (pe_lock (pe_lc (own := own) (g := gName j) (tt := tt) (te := te) hc hN (pi_keys (pe_var hy hv hd hcd)) ok hg htt hte hs)) fun σ H Q ⟨H0, F, S, k⟩ => ?_
  obtain ⟨v, h1, d, vs, ev, hd1, hall⟩ := S.fr i _ hi
  subst ev
  have hHd := S.ex d _ hd1
  have hl : vs.length = l.length := by rw [hall.length, List.length_map]
  refine ⟨d, _, hHd, trivial, fun od => ?_⟩
  refine ⟨_, h1, d, od, rfl, .inl ⟨_, upd_same, fun D hD => ?_⟩⟩
  have hDd : D ≠ d := fun z => by rw [z, upd_same] at hD; cases hD
  have hHD : H D = none := by rw [upd_ne hDd] at hD; exact hD
  have hlen : ((l.map fun x => kI x.1).zip vs).length = l.length := by rw [List.length_zip, List.length_map, hl, Nat.min_self]
  let kvs := (l.map fun x => kI x.1).zip vs
  let HL := upd H d (.frz od (.dK kvs))
  -- behind i turns
  let St : Nat → Hp → Prop := fun i H' => Ex HL H' ∧ H' D = some (.lst (((l.take i).map Prod.fst).map g))
  have hkv : ∀ i, i < l.length → ∃ v, kvs[i]? = some (kI (l[i]?.getD (0, non)).1, v) := fun i hi => by
    have h2 : i < vs.length := by omega
    refine ⟨vs[i], ?_⟩
    show ((l.map fun x => kI x.1).zip vs)[i]? = _
    rw [List.getElem?_eq_getElem (by rw [hlen]; exact hi), List.getElem_zip, List.getElem_map, List.getElem?_eq_getElem hi]
    rfl
  refine ⟨fun i m H' => m = l.length - i ∧ i ≤ l.length ∧ St i H', ⟨l.length, by simp, Nat.zero_le _, fun b o z => ?_, by rw [upd_same]; simp⟩, ?_⟩
  · rw [upd_ne (ne_of_none z hD)]
    exact z
  rintro i' m H' ⟨rfl, hi', hex, hDl⟩
  have hfr : H' d = some (.frz od (.dK kvs)) := hex d _ upd_same
  by_cases hlt : i' < l.length
  · refine .inr ⟨⟨hfr, by rw [hlen]; exact hlt⟩, St (i' + 1), fun H2 p => ⟨l.length - (i' + 1), by omega, rfl, hlt, p⟩, fun x' H2 yl => ?_⟩
    obtain ⟨e1, kk, vv, e2, e3⟩ := yl
    subst e1
    obtain ⟨v0, e4⟩ := hkv i' hlt
    have e5 : some (kk, vv) = some (kI (l[i']?.getD (0, non)).1, v0) := e2.symm.trans e4
    have e6 : kk = kI (l[i']?.getD (0, non)).1 := (Prod.mk.inj (Option.some.inj e5)).1
    subst e6 e3
    refine ⟨wipe_set hj, ?_⟩
    show if true = true then _ else _
    rw [if_pos rfl]
    refine ⟨(l[i']?.getD (0, non)).1, H2, fun _ => none, (sat_none (σ := L2.wipe σ (own.map (·.2))) (by rw [wipe_length, ← S.len, hn])).set rfl, fun z H3 F3 g3 hz3 => ?_⟩
    have hz3 : z = g (l[i']?.getD (0, non)).1 := hz3
    subst hz3
    refine ⟨_, g3.h D _ hDl, by rw [List.length_map, List.length_map, List.length_take]; omega, fun b o q => ?_, ?_⟩
    · have nD : b ≠ D := fun z => by
        have q2 : upd H d (.frz od (.dK ((l.map fun x => kI x.1).zip vs))) b = some o := q
        rw [z, hD] at q2
        cases q2
      rw [upd_ne nD]
      exact g3.h b o (hex b o q)
    · rw [upd_same, List.getElem?_eq_getElem hlt, List.take_add_one, List.getElem?_eq_getElem hlt]
      rw [List.map_append, List.map_append]
      rfl
  · have e : i' = l.length := by omega
    subst e
    refine .inl ⟨⟨hfr, by rw [hlen]; exact Nat.le_refl _⟩, hfr, ?_⟩
    rw [List.take_length] at hDl
    refine k D (((l.map Prod.fst)).map g) (upd H' d (.dK kvs)) F ⟨Ex.refl F, fun b o q => ?_, fun b o q => ?_, fun b o q1 q2 => q2⟩ hHD (S.ex.none hHD) (by rw [upd_ne hDd]; exact hDl) ?_
    · by_cases hb : b = d
      · rw [hb, upd_same, ← hHd, ← hb]
        exact q
      · rw [upd_ne hb]
        exact hex b o (by show upd H d _ b = _; rw [upd_ne hb]; exact q)
    · have q' := S.ex b o q
      by_cases hb : b = d
      · rw [hb, upd_same, ← hHd, ← hb]
        exact q'
      · rw [upd_ne hb]
        exact hex b o (by show upd H d _ b = _; rw [upd_ne hb]; exact q')
    · have z : AllV F ((l.map Prod.fst).map g) (((l.map Prod.fst).map g).map sc) := AllV.of_scs
      have e : ((l.map Prod.fst).map g).map sc = (l.map Prod.fst).map fun k => sc (g k) := List.map_map
      rw [e] at z
      exact z
end
end Lk

set_option Elab.async false
set_option linter.all false
set_option maxRecDepth 100000
set_option maxHeartbeats 4000000
namespace Lk
open PySem PySem.Calls L2 PySem.Spec PyProof.Rows
/-! ### defs that may raise -/
abbrev ErP := Hp → Value → Option Addr → Prop
/-- what becomes of a call: a value, or an error -/
inductive Oc where
  | ret (A : As)
  | exc (e : ErP)
def Oc.R : Oc → As
  | .ret A => A
  | .exc _ => ⟨fun _ _ => False, fun _ h => h⟩
def Oc.E : Oc → ErP
  | .ret _ => fun _ _ _ => False
  | .exc e => e
def spO {ι : Type} (pre : ι → Prop) (l : ι → List As) (oc : ι → Oc) : Sp := fun vs H Q E => ∃ i, pre i ∧ ∃ F, Ex F H ∧ AllV F vs (l i) ∧ (∀ v H' F', Gr F H F' H' → (oc i).R.p F' v → Q v H') ∧ (∀ cls d H' F', Gr F H F' H' → (oc i).E F' cls d → E cls d H')
def spMO {ι : Type} (C : Addr) (pre : ι → Prop) (l : ι → List As) (oc : ι → Oc) : Sp := fun vs H Q E => ∃ i, pre i ∧ ∃ (H1 F : Hp) (p dx : Addr) (as : List V), vs = .ref p :: as ∧ H = upd (upd H1 dx (.own p)) p (.ins C dx []) ∧ H1 p = none ∧ H1 dx = none ∧ dx ≠ p ∧ Ex F H1 ∧ AllV F as (l i) ∧
  (∀ H' F', Gr F H1 F' H' → (oc i).R.p F' (.ref p) → Q .non H') ∧ (∀ cls d H' F', Gr F H1 F' H' → (oc i).E F' cls d → E cls d H')
theorem fn_okX {P : Program} {w : World} {K : PySem.W.Frag} {mg : Str → Option Value} {base : Heap} {x qual : Str} {st : Stmt} {f : Addr} {fd : FuncData} {N ps : List Str} {k : Nat} {ι : Type} {pre : ι → Prop} {l : ι → List As} {oc : ι → Oc} (F : Fun K x qual st f fd) (S : FnScope N ps (defScope st)) (hl : ∀ i, pre i → (l i).length = ps.length)
    (hb : ∀ (i : ι) (cdv : Value) (B : Around) (outer : List Env) (s : Shared) (H : Hp) (E : XK), pre i → Room k (B.deeper (PyProof.Rows.envOfC qual (defScope st) s.heap.objs.size f cdv)) → Takes (cxOf (L2.CX P w) P w K mg base N qual (defScope st) f cdv B outer s H E) (fun cls d _ H => E cls d H) →
      PassesOwn (model P w) (B.deeper (PyProof.Rows.envOfC qual (defScope st) s.heap.objs.size f cdv)) (PyProof.Rows.envOfC qual (defScope st) s.heap.objs.size f cdv) (cxOf (L2.CX P w) P w K mg base N qual (defScope st) f cdv B outer s H E).xe →
      BA (cxOf (L2.CX P w) P w K mg base N qual (defScope st) f cdv B outer s H E) (defBody st) (entry N (l i)) (fun _ => ∀ F, (oc i).R.p F .non) { R := (oc i).R, er := fun _ => (oc i).E, wx := fun cls d _ H => E cls d H }) : FnOk P w K mg base (L2.CX P w) (k + 1) f fd ps (spO pre l oc) := by
  refine F.okX S (fun vs H Q E h => ?_) (fun cdv B outer s H vs Q E hr h => ?_)
  · obtain ⟨i, hp, F, e, hv, _⟩ := h
    rw [hv.length, hl i hp]
  · obtain ⟨i, hp, F, e, hv, q, qe⟩ := h
    refine ⟨_, hb i cdv B outer s H E hp hr (takes_of rfl rfl rfl rfl) (passes_of (X := cxOf (L2.CX P w) P w K mg base N qual (defScope st) f cdv B outer s H E) rfl), F, H, F, .refl e, sat_start (ps := ps) e hv, ?_, ?_, ?_, ?_, ?_⟩
    · intro ρ' σ' H' F' hn g' S'
      exact q .non H' F' g' (hn F')
    · intro v H' F' g' hv
      exact q v H' F' g' hv
    · intro _ _ _ _ z
      exact z.elim
    · intro _ _ _ _ z
      exact z.elim
    · intro cls d ρ' σ' H' F' he g' S'
      exact qe cls d H' F' g' he
structure DfX (P : Program) (w : World) (K : PySem.W.Frag) (mg : Str → Option Value) (base : Heap) (k : Nat) (x : Str) (ps : List Str) (sp : Sp) : Prop where
  ex : ∃ f fd, FnOk P w K mg base (L2.CX P w) k f fd ps sp ∧ mg x = some (.ref f) ∧ PySem.W.keepIn K (.ref f) = true ∧ Binds K fd ps []
structure MfX (P : Program) (w : World) (K : PySem.W.Frag) (mg : Str → Option Value) (base : Heap) (k : Nat) (C : Addr) (m : Str) (ps : List Str) (sp : Sp) : Prop where
  ex : ∃ f fd, FnOk P w K mg base (L2.CX P w) k f fd ps sp ∧ Meth K C m f ∧ Binds K fd ps []
structure MkX (P : Program) (w : World) (K : PySem.W.Frag) (mg : Str → Option Value) (base : Heap) (k : Nat) (C : Addr) (x : Str) (ps : List Str) (sp : Sp) : Prop where
  ex : ∃ f fd, FnOk P w K mg base (L2.CX P w) k f fd ps sp ∧ Mk K C f ∧ Binds K fd ps [] ∧ mg x = some (.ref C)
theorem DfX.mono {P : Program} {w : World} {K : PySem.W.Frag} {mg : Str → Option Value} {base : Heap} {j k : Nat} {x : Str} {ps : List Str} {sp : Sp} (D : DfX P w K mg base j x ps sp) (h : j ≤ k) : DfX P w K mg base k x ps sp :=
  let ⟨f, fd, h1, h2⟩ := D.ex
  ⟨f, fd, h1.mono h, h2⟩
theorem MfX.mono {P : Program} {w : World} {K : PySem.W.Frag} {mg : Str → Option Value} {base : Heap} {j k : Nat} {C : Addr} {x : Str} {ps : List Str} {sp : Sp} (D : MfX P w K mg base j C x ps sp) (h : j ≤ k) : MfX P w K mg base k C x ps sp :=
  let ⟨f, fd, h1, h2⟩ := D.ex
  ⟨f, fd, h1.mono h, h2⟩
theorem MkX.mono {P : Program} {w : World} {K : PySem.W.Frag} {mg : Str → Option Value} {base : Heap} {j k : Nat} {C : Addr} {x : Str} {ps : List Str} {sp : Sp} (D : MkX P w K mg base j C x ps sp) (h : j ≤ k) : MkX P w K mg base k C x ps sp :=
  let ⟨f, fd, h1, h2⟩ := D.ex
  ⟨f, fd, h1.mono h, h2⟩
/-- an expression whose last step may raise -/
def tX (ρ : List En) (oc : Oc) (w : WX) : TE := fun σ H Q => ∃ H0 F, Sat H0 F σ H ρ ∧ (∀ v H' F', Gr F H F' H' → oc.R.p F' v → Q v H') ∧ (∀ cls d H' F', Gr F H F' H' → oc.E F' cls d → w cls d σ H')
abbrev EX (X : Cx) (e : Expr) (ρ : List En) (oc : Oc) (w : WX) : Prop := PE X e (tX ρ oc w)
theorem takes_none {X : Cx} : Takes X (fun _ _ _ _ => False) := takes0
section
variable {X : Cx} {e a b c o : Expr} {es : List Expr} {ρ : List En} {A B : As} {pos apos p1 : Pos} {k : Nat} {ι : Type} {pre : ι → Prop} {l : ι → List As} {oc : ι → Oc} {o1 : Oc} {ps : List Str} {C : Addr} {m x : Str} {fs gs : List (Str × As)} {la : List As} {w : WX}
/-- where it raises nothing -/
theorem ea_ofX (h : ∀ (w : WX), Takes X w → EX X e ρ (.ret A) w) : EA X e ρ A := pe_imp (h _ takes0) fun σ H Q ⟨H0, F, S, q⟩ => ⟨H0, F, S, fun v H' F' g hv => q v H' F' g hv, fun _ _ _ _ _ z => z.elim⟩
theorem ex_call (D : DfX X.prog X.w X.K X.mg X.base k x ps (spO pre l oc)) (hr : Room k X.A) (tk : Takes X w) (i : ι) (hp : pre i) (ha : EAs X (e :: es) ρ (l i)) (hg : Gl X x := by rfl)
    (hdb : (x == ("__debug__" : Str)) = false := by decide) (he : starEach (e :: es) X.env = (false, eval e X.env) :: starEach es X.env := by rfl) (hpl : (backTo pos (starEach es X.env)).any (·.1) = false := by rfl) : EX X (.Call (.Name x p1) (e :: es) [] pos) ρ (oc i) w := by
  obtain ⟨f, fd, G, hm, hk, hb⟩ := D.ex
  exact pe_imp (pe_callS G hr hg hm hk hb (passAt tk) ha (hdb := hdb) (he := he) (hpl := hpl)) fun σ H Q ⟨H0, F, S, q, qe⟩ => ⟨H0, F, S, fun vs H1 F1 g1 h1 => ⟨i, hp, F1, g1.i, h1, fun v H' F' g hv => q v H' F' (g1.trans g) hv, fun cls d H' F' g hv => qe cls d H' F' (g1.trans g) hv⟩⟩
/-- o.m(e, ..) -/
def tMethS (C : Addr) (m : Str) (sp : Sp) (E : L2.St → XK) (ta : TE) (t : TA) : TE := fun σ H Q => ta σ H fun x H1 => ∃ a dx fs, x = .ref a ∧ H1 a = some (.ins C dx fs) ∧ fs.lookup m = none ∧ t σ H1 fun vs H2 => sp (x :: vs) H2 Q (E σ)
theorem pe_methX {CX : CXT} {f : Addr} {fd : FuncData} {sp : Sp} {E : L2.St → XK} {ta : TE} {t : TA} {pl : Sem Bool} (he : PE X o ta) (c : Cls X.K C) (hm : Meth X.K C m f) (F : FnOk X.prog X.w X.K X.mg X.base CX k f fd ps sp) (hr : Room k X.A) (hb : Binds X.K fd ps []) (hx : ∀ σ, PassesAt CX X σ (E σ)) (ha : PA X (e :: es) t)
    (hst : starEach (e :: es) X.env = (false, eval e X.env) :: starEach es X.env := by rfl) (hpl : (backTo pos (starEach es X.env)).any (·.1) = false := by rfl)
    (ht : eval (.Call (.Attribute o m apos) (e :: es) [] pos) X.env = (do
      let ov ← eval o X.env
      standAt apos.atName
      let (f, first) ← holding [ov] (getMethod ov m pl)
      callWith pos f first (backTo pos (starEach (e :: es) X.env)) (backToKw pos (keywordEach [] X.env))) := by rfl) :
    PE X (.Call (.Attribute o m apos) (e :: es) [] pos) (tMethS C m sp E ta t) := by
  refine ⟨fun pins s σ H Q I h => ?_⟩
  refine PySem.W.methodCall_KW (pl := pl) (thn (he.run pins s σ H _ I h) fun u s1 ⟨x, H1, I1, rx, a, dx, fs, ex, ea, l, q⟩ => ?_) ht
  subst ex
  obtain rfl : u = Value.ref a := rx
  refine getmeth_ok I1 ea c hm l ?_
  refine PySem.W.callWith_K (first := [.ref a]) (h₀ := X.base) I.ok.mod.kin hm.kp (thn (ha.run pos pins s1 σ H1 _ I1 q) fun us s2 ⟨vs, H2, I2, r, q2⟩ => ⟨I2.kIn, ?_⟩) hst hpl
  exact run_fnS (us := .ref a :: us) (vs := .ref a :: vs) F hr hb (hx σ) I2 (.cons rfl r) q2
theorem ex_meth {pl : Sem Bool} (D : MfX X.prog X.w X.K X.mg X.base k C m ps (spO pre l oc)) (hr : Room k X.A) (tk : Takes X w) (hC : Cls X.K C) (i : ι) (hp : pre i) (ho : EA X o ρ (insA C fs)) (hm : fs.lookup m = none) (ha : EAs X (e :: es) ρ la) (hl : l i = insA C fs :: la)
    (he : starEach (e :: es) X.env = (false, eval e X.env) :: starEach es X.env := by rfl) (hpl : (backTo pos (starEach es X.env)).any (·.1) = false := by rfl)
    (hev : eval (.Call (.Attribute o m apos) (e :: es) [] pos) X.env = (do
      let ov ← eval o X.env
      standAt apos.atName
      let (f, first) ← holding [ov] (getMethod ov m pl)
      callWith pos f first (backTo pos (starEach (e :: es) X.env)) (backToKw pos (keywordEach [] X.env))) := by rfl) : EX X (.Call (.Attribute o m apos) (e :: es) [] pos) ρ (oc i) w := by
  obtain ⟨f, fd, G, hM, hb⟩ := D.ex
  refine pe_imp (pe_methX ho hC hM G hr hb (passAt tk) ha he hpl hev) fun σ H Q ⟨H0, F, S, q, qe⟩ => ⟨H0, F, S, fun v H1 F1 g1 ⟨p, dx, vs, ev, h1, h2⟩ => ⟨p, dx, _, ev, g1.i p _ h1, zip_nolook h2 hm, H0, F1, S.gr g1, fun us H2 F2 g2 hu => ?_⟩⟩
  refine ⟨i, hp, F2, g2.i, ?_, fun v H' F' g hv => q v H' F' ((g1.trans g2).trans g) hv, fun cls d H' F' g hv => qe cls d H' F' ((g1.trans g2).trans g) hv⟩
  rw [hl]
  exact ⟨(insA C fs).mono g2.f ⟨p, dx, vs, ev, h1, h2⟩, hu⟩
/-- C(e, ..) -/
theorem run_makeS {CX : CXT} {f : Addr} {fd : FuncData} {sp : Sp} {E : L2.St → XK} {pins : List (Addr × Obj)} {σ : L2.St} {H : Hp} {s : Shared} {Q : VK} {us : List Value} {vs : List V} (M : Mk X.K C f) (F : FnOk X.prog X.w X.K X.mg X.base CX k f fd ps sp) (hr : Room (k + 1) X.A) (hb : Binds X.K fd ps [])
    (hx : PassesAt CX X σ (E σ)) (I : Inv X pins σ H s) (r : Vals vs us)
    (h : ∀ x dx, H x = none → H dx = none → dx ≠ x → sp (.ref x :: vs) (upd (upd H dx (.own x)) x (.ins C dx [])) (fun v H2 => v = .non ∧ Q (.ref x) H2) (E σ)) :
    wpAny (model X.prog X.w) X.A (call (.ref C) us) (EP X pins σ Q) X.xe s := by
  have hq := h (s.heap.objs.size + 1) s.heap.objs.size (I.hok.fresh (Nat.le_succ _)) (I.hok.fresh (Nat.le_refl _)) (Nat.ne_of_lt (Nat.lt_succ_self _))
  have I2 := Inv.made (C := C) I
  have r2 : Vals (V.ref (s.heap.objs.size + 1) :: vs) (Value.ref (s.heap.objs.size + 1) :: us) := .cons rfl r
  have hl : (Value.ref (s.heap.objs.size + 1) :: us).length = ps.length := by
    have e := r2.length
    rw [F.len _ _ _ _ hq] at e
    exact e.symm
  refine wpAny_call (make_map (f := f) I.kIn M.makes M.init (beq_iff_eq.mp M.fn) (codeAny_mono (F.run _ X.stack _ _ ⟨Value.ref (s.heap.objs.size + 1) :: us, []⟩ (Value.ref (s.heap.objs.size + 1) :: us) _ _ (E σ) (hr.make C us [])
    (I2.env0.make C us []) (by
      have z := hb _ (Value.ref (s.heap.objs.size + 1) :: us) I2.kIn (by simpa using hl)
      simpa using z) r2 hq) fun r s' hq' => ?_))
  cases r with
  | error e => exact hx pins _ _ e s' I2 hq'
  | ok fl =>
    cases fl with
    | ret u =>
      obtain ⟨v, H', I3, rv, ev, q3⟩ := I2.after hq'
      subst ev
      exact ⟨rv, ⟨V.ref (s.heap.objs.size + 1), H', I3, rfl, q3⟩⟩
    | next => exact False.elim hq'
    | brk => exact False.elim hq'
    | cont => exact False.elim hq'
def tMakeS (C : Addr) (sp : Sp) (E : L2.St → XK) (t : TA) : TE := fun σ H Q => t σ H fun vs H1 => ∀ x dx, H1 x = none → H1 dx = none → dx ≠ x → sp (.ref x :: vs) (upd (upd H1 dx (.own x)) x (.ins C dx [])) (fun v H2 => v = .non ∧ Q (.ref x) H2) (E σ)
theorem pe_makeS {CX : CXT} {f : Addr} {fd : FuncData} {sp : Sp} {E : L2.St → XK} {t : TA} (M : Mk X.K C f) (F : FnOk X.prog X.w X.K X.mg X.base CX k f fd ps sp) (hr : Room (k + 1) X.A) (hg : Gl X x) (hm : X.mg x = some (.ref C)) (hb : Binds X.K fd ps []) (hx : ∀ σ, PassesAt CX X σ (E σ))
    (ha : PA X (e :: es) t) (hdb : (x == ("__debug__" : Str)) = false := by decide) (he : starEach (e :: es) X.env = (false, eval e X.env) :: starEach es X.env := by rfl) (hpl : (backTo pos (starEach es X.env)).any (·.1) = false := by rfl) :
    PE X (.Call (.Name x p1) (e :: es) [] pos) (tMakeS C sp E t) := by
  refine ⟨fun pins s σ H Q I h => ?_⟩
  refine wpAny_Call_Name_kw (ld_glob I hg hm ?_ hdb)
  refine PySem.W.callWith_K (h₀ := X.base) I.ok.mod.kin M.kp (thn (ha.run pos pins s σ H _ I h) fun us s1 ⟨vs, H1, I1, r, q⟩ => ⟨I1.kIn, ?_⟩) he hpl
  exact run_makeS M F hr hb (hx σ) I1 r q
theorem ex_make (D : MkX X.prog X.w X.K X.mg X.base k C x ps (spMO C pre l oc)) (hr : Room (k + 1) X.A) (tk : Takes X w) (i : ι) (hp : pre i) (ha : EAs X (e :: es) ρ (l i)) (hg : Gl X x := by rfl)
    (hdb : (x == ("__debug__" : Str)) = false := by decide) (he : starEach (e :: es) X.env = (false, eval e X.env) :: starEach es X.env := by rfl) (hpl : (backTo pos (starEach es X.env)).any (·.1) = false := by rfl) : EX X (.Call (.Name x p1) (e :: es) [] pos) ρ (oc i) w := by
  obtain ⟨f, fd, G, hM, hb, hm⟩ := D.ex
  exact pe_imp (pe_makeS hM G hr hg hm hb (passAt tk) ha hdb he hpl) fun σ H Q ⟨H0, F, S, q, qe⟩ => ⟨H0, F, S, fun us H1 F1 g1 hu => fun y dx hy hdx hne =>
    ⟨i, hp, H1, F1, y, dx, us, rfl, rfl, hy, hdx, hne, g1.i, hu, fun H' F' g hA => ⟨rfl, q _ H' F' (g1.trans g) hA⟩, fun cls d H' F' g hA => qe cls d H' F' (g1.trans g) hA⟩⟩
/-- a op b, by an own method; what it gives is an object -/
def rBinS (C : Addr) (sp : Sp) (E : XK) : R2 := fun x y H Q => ∃ a dx fs b dy gs, x = .ref a ∧ H a = some (.ins C dx fs) ∧ y = .ref b ∧ H b = some (.ins C dy gs) ∧ sp [.ref a, .ref b] H (fun v H' => ∃ r, v = .ref r ∧ Q v H') E
def tBinS (C : Addr) (sp : Sp) (E : L2.St → XK) (ta tb : TE) : TE := fun σ H Q => ta σ H fun x H1 => tb σ H1 fun y H2 => rBinS C sp (E σ) x y H2 Q
theorem pe_binS {CX : CXT} {f : Addr} {fd : FuncData} {sp : Sp} {E : L2.St → XK} {ta tb : TE} {op : Operator} (G : FnOk X.prog X.w X.K X.mg X.base CX k f fd ps sp) (hr : Room k X.A) (hs : PySem.W.findIn X.K (.ref C) (PySem.dunder op.info.2) = some (some (.ref f))) (hf : PySem.W.isFn X.K (.ref f) = true) (hsf : PySem.W.selfFirst X.K C = true) (hb : Binds X.K fd ps []) (hx : ∀ σ, PassesAt CX X σ (E σ))
    (ha : PE X a ta) (hb2 : PE X b tb) : PE X (.BinOp a op b pos) (tBinS C sp E ta tb) := by
  refine ⟨fun pins s σ H Q I h => ?_⟩
  refine wpAny_BinOp (binT ha hb2 I h fun v u s2 x y H2 I2 rx ry q => ?_)
  obtain ⟨pa, dx, fs, pb, dy, gs, rfl, ha', rfl, hb', hsp⟩ := q
  cases rx
  cases ry
  obtain ⟨mA, J, _⟩ := ins_get I2.hok ha'
  obtain ⟨mB, J', _⟩ := ins_get I2.hok hb'
  obtain ⟨od, J, _⟩ := J.look
  obtain ⟨od', J', _⟩ := J'.look
  obtain ⟨m, hF⟩ := I2.fr
  refine PySem.W.binop_K hF I2.ok.mod.kin J J'.type hsf hs hf ?_
  have hl := G.len _ _ _ _ hsp
  have r2 : Vals [V.ref pa, .ref pb] [Value.ref pa, .ref pb] := .cons rfl (.cons rfl .nil)
  refine wpAny_call (codeAny_mono (G.run X.A X.stack s2 H2 ⟨[.ref pa, .ref pb], []⟩ [.ref pa, .ref pb] [.ref pa, .ref pb] _ (E σ) hr I2.env0 (by
    have := hb s2 [.ref pa, .ref pb] I2.kIn (by simpa using hl)
    simpa using this) r2 hsp) fun r s' hq => ?_)
  cases r with
  | error e => exact hx σ pins H2 s2 e s' I2 hq
  | ok fl =>
    cases fl with
    | ret w =>
      obtain ⟨z, H', I', rz, r, ez, q⟩ := I2.after hq
      subst ez
      cases rz
      exact ⟨.ref r, H', I', rfl, q⟩
    | next => exact False.elim hq
    | brk => exact False.elim hq
    | cont => exact False.elim hq
theorem ex_bin {op : Operator} (D : MfX X.prog X.w X.K X.mg X.base k C m ps (spO pre l oc)) (hmm : m = PySem.dunder op.info.2) (hsf : PySem.W.selfFirst X.K C = true) (hr : Room k X.A) (tk : Takes X w) (i : ι) (hp : pre i) (ha : EA X a ρ (insA C fs)) (ho : EA X b ρ (insA C gs)) (hl : l i = [insA C fs, insA C gs]) (hret : ∀ F v, (oc i).R.p F v → ∃ r, v = .ref r) : EX X (.BinOp a op b pos) ρ (oc i) w := by
  obtain ⟨f, fd, G, hM, hb⟩ := D.ex
  refine pe_imp (pe_binS G hr (by rw [← hmm]; exact hM.at_) hM.fn hsf hb (passAt tk) ha ho) fun σ H Q ⟨H0, F, S, q, qe⟩ => ⟨H0, F, S, fun x H1 F1 g1 ⟨p', dx', vs', ev', y1, y2⟩ => ⟨H0, F1, S.gr g1, fun y H2 F2 g2 ⟨p, dx, vs, ev, z1, z2⟩ => ⟨p', dx', _, p, dx, _, ev', g2.h p' _ (g1.i p' _ y1), ev, g2.i p _ z1, i, hp, F2, g2.i, ?_, fun v H' F' g hv => ?_, fun cls d H' F' g hv => qe cls d H' F' ((g1.trans g2).trans g) hv⟩⟩⟩
  · rw [hl]
    exact ⟨⟨p', dx', vs', rfl, g2.f p' _ y1, y2.mono g2.f⟩, ⟨p, dx, vs, rfl, z1, z2⟩, trivial⟩
  · obtain ⟨r, er⟩ := hret F' v hv
    exact ⟨r, er, q v H' F' ((g1.trans g2).trans g) hv⟩
/-! ### statements over such expressions -/
variable {Nx : List En → Prop} {W : Wn}
theorem sa_exprX (he : EX X e ρ o1 W.wx) (hE : ∀ F cls d, o1.E F cls d → W.er ρ F cls d) (k : (∃ F v, o1.R.p F v) → Nx ρ) (hs : swapsWith e none pos.line X.env = pure false := by rfl) : SA X (.Expr e pos) ρ Nx W :=
  ps_imp (ps_expr he hs) fun D σ H ⟨F0, H0, F, g, S, q, q2, q3, q4, q5⟩ => ⟨H0, F, S, fun v H' F' g' hv => q ρ σ H' F' (k ⟨F', v, hv⟩) (g.trans g') (S.gr g'), fun cls d H' F' g' he' => q5 cls d ρ σ H' F' (hE F' cls d he') (g.trans g') (S.gr g')⟩
theorem sa_setX (i : Nat) {y : Str} {pos' : Pos} (hN : X.N.Nodup) (he : EX X e ρ o1 W.wx) (hE : ∀ F cls d, o1.E F cls d → W.er ρ F cls d) (k : (∃ F v, o1.R.p F v) → Nx (ρ.set i (.fr o1.R))) (hi : X.N[i]? = some y := by rfl) (hx : Loc X.env.scope y := by first | exact .inl rfl | exact .inr rfl) (hs : swapsWith e (some (.Name y pos')) pos.line X.env = pure false := by rfl)
    (hf : X.fn y = true ∨ X.env.scope.names.lookup y = some .local := by first | exact .inl rfl | exact .inr rfl | assumption) : SA X (.Assign [.Name y pos'] e pos) ρ Nx W :=
  ps_imp (ps_set hN hi hx he hs hf) fun D σ H ⟨F0, H0, F, g, S, q, q2, q3, q4, q5⟩ => ⟨H0, F, S, fun v H' F' g' hv => q _ _ H' F' (k ⟨F', v, hv⟩) (g.trans g') ((S.gr g').set hv), fun cls d H' F' g' he' => q5 cls d ρ σ H' F' (hE F' cls d he') (g.trans g') (S.gr g')⟩
theorem sa_retX (he : EX X e ρ o1 W.wx) (hE : ∀ F cls d, o1.E F cls d → W.er ρ F cls d) (hR : ∀ F v, o1.R.p F v → W.R.p F v) : SA X (.Return (some e) pos) ρ Nx W :=
  ps_imp (ps_ret he) fun D σ H ⟨F0, H0, F, g, S, q, q2, q3, q4, q5⟩ => ⟨H0, F, S, fun v H' F' g' hv => q2 v H' F' (g.trans g') (hR F' v hv), fun cls d H' F' g' he' => q5 cls d ρ σ H' F' (hE F' cls d he') (g.trans g') (S.gr g')⟩
end
end Lk

set_option Elab.async false
set_option linter.all false
set_option maxRecDepth 100000
set_option maxHeartbeats 4000000
namespace Lk
open PySem PySem.Calls L2 PySem.Spec PyProof.Rows NdefX
/-! ### errors as they fly: the class, what its own dict holds -/
def dctP (fs : List (Str × As)) (d : Option Addr) (F : Hp) : Prop := match d with
  | none => fs = []
  | some dd => ∃ vs, F dd = some (.xd ((fs.map Prod.fst).zip vs)) ∧ AllV F vs (fs.map Prod.snd)
theorem dctP.mono {fs : List (Str × As)} {d : Option Addr} {F F' : Hp} (e : Ex F F') (h : dctP fs d F) : dctP fs d F' := by
  cases d with
  | none => exact h
  | some dd =>
    obtain ⟨vs, h1, h2⟩ := h
    exact ⟨vs, e dd _ h1, h2.mono e⟩
def erX (C : Addr) (fs : List (Str × As)) : ErP := fun F cls d => cls = .ref C ∧ dctP fs d F
/-- a class without an own __init__ -/
structure Er0 (K : PySem.W.Frag) (mg : Str → Option Value) (x : Str) (C : Addr) : Prop where
  gC : mg x = some (.ref C)
  kC : PySem.W.keepIn K (.ref C) = true
  q : PySem.W.excIn K C [.type "ValueError", .type "Exception", .type "BaseException", .type "object"] "ValueError.__new__" = true
  exC : PySem.W.subIn K (.ref C) (.type "BaseException") = some true
  tyC : PySem.W.typeIn K (.ref C) = some (.type "type")
section
variable {X : Cx} {C : Addr} {x m : Str} {j : Nat} {p p2 pos pos2 : Pos} {ρ : List En} {Nx : List En → Prop} {W : Wn}
/-- X() -/
theorem pmk_own0 (T : Er0 X.K X.mg x C) (hg : Gl X x) (hdb : (x == ("__debug__" : Str)) = false := by decide) : PMk X (.Call (.Name x p) [] [] pos) (fun _ H Q => Q (.ref C) none H) := by
  intro pins s σ H Q I h
  refine wpAny_Call_Name_kw (ld_glob I hg T.gC ?_ hdb)
  refine PySem.W.callWith_K0 I.kIn T.kC ?_
  show wpAny _ _ (call (.ref C) []) _ _ _
  obtain ⟨bm, N, nm, qn, bs, hdct, sn, sub, ab, col, dd, k0, k1, k2, k3, k5, mN, hC, hN, hni, TT⟩ := exc_obj I.kIn T.q
  refine wpAny_call_exc_subT PySem.F.excBase_ValueError TT hC hN hni (fun h' e hm => ?_) (by show 0 ≤ sizeLine; rw [sizeLine_eq]; omega)
  exact mk_of I hm (raises_own T.exC T.tyC) h (I.hok.gone hm.new)
theorem sat_q5 {F0 H0 F H : Hp} {σ : L2.St} {cls : Value} {d : Option Addr} (q5 : ∀ cls d ρ' σ' H' F', W.er ρ' F' cls d → Gr F0 H0 F' H' → Sat H0 F' σ' H' ρ' → W.wx cls d σ' H') (g : Gr F0 H0 F H) (S : Sat H0 F σ H ρ) (h : W.er ρ F cls d) : W.wx cls d σ H := q5 cls d ρ σ H F h g S
/-- raise X('..') -/
theorem sa_raise0s (T : Er0 X.K X.mg x C) (hc : X.calm = true) (tk : Takes X W.wx) (h : ∀ F, W.er ρ F (.ref C) none) (hg : Gl X x := by rfl) (hdb : (x == ("__debug__" : Str)) = false := by decide) :
    SA X (.Raise (some (.Call (.Name x p) [.Constant (.str m) j p2] [] pos)) none pos2) ρ Nx W :=
  ps_imp (ps_raise hc tk (pmk_own PySem.F.excBase_ValueError T.q T.gC T.kC (raises_own T.exC T.tyC) hg hdb)) fun D σ H ⟨F0, H0, F, g, S, q, q2, q3, q4, q5⟩ => sat_q5 q5 g S (h F)
/-- raise X() -/
theorem sa_raise0 (T : Er0 X.K X.mg x C) (hc : X.calm = true) (tk : Takes X W.wx) (h : ∀ F, W.er ρ F (.ref C) none) (hg : Gl X x := by rfl) (hdb : (x == ("__debug__" : Str)) = false := by decide) :
    SA X (.Raise (some (.Call (.Name x p) [] [] pos)) none pos2) ρ Nx W :=
  ps_imp (ps_raise hc tk (pmk_own0 T hg hdb)) fun D σ H ⟨F0, H0, F, g, S, q, q2, q3, q4, q5⟩ => sat_q5 q5 g S (h F)
end
/-! ### a class whose __init__ says super().__init__(..) and stores one field -/
def spEI {ι : Type} (C : Addr) (f : Str) (pre : ι → Prop) (B B' : ι → As) : Sp := fun vs H Q _ => ∃ (i : ι) (a : Addr) (x : V) (H1 F : Hp), pre i ∧ vs = [.ref a, x] ∧ H1 a = none ∧ H = upd H1 a (exo a C none) ∧ Ex F H1 ∧ (B i).p F x ∧
  ∀ (H2 F' : Hp) (y : V) (d : Addr), Gr F H1 F' H2 → (B' i).p F' y → H2 a = none → H2 d = none → d ≠ a → Q .non (upd (upd (upd H2 a (exo a C none)) d (exd d [(f, y)])) a (exo a C (some d)))
def cut (H : Hp) (a : Addr) : Hp := fun b => if b = a then none else H b
theorem cut_ne {H : Hp} {a b : Addr} (h : b ≠ a) : cut H a b = H b := if_neg h
theorem cut_same {H : Hp} {a : Addr} : cut H a a = none := if_pos rfl
section
variable {P : Program} {w : World} {K : PySem.W.Frag} {mg : Str → Option Value} {base : Heap} {f cc cda C : Addr} {name qual fld y0 y1 : Str} {params : Arguments} {rest : List Stmt} {scope : Scope} {fd : FuncData} {k : Nat} {e e2 : Expr} {p0 p1 p2 p3 p4 p5 p6 p7 : Pos} {ar : Arg} {ι : Type} {pre : ι → Prop} {B B' : ι → As}
theorem ok_excI {nf : NF} (hnf : nf = ⟨name, qual, params, supSt p0 p1 p2 p3 p4 e :: [.Assign [.Attribute (.Name y0 p5) fld p6] e2 p7], scope, [("__class__", cc)], cda⟩)
    (T : SupAt P K mg f cc cda C name qual params (supSt p0 p1 p2 p3 p4 e :: [.Assign [.Attribute (.Name y0 p5) fld p6] e2 p7]) scope fd) (O : OexC K C) (hno : PySem.W.findIn K (.ref C) fld = some none) (S : NScope [y0, y1, "__class__"] [y0, y1] ["__class__"] scope) (hsup : scope.names.lookup ("super" : Str) = some .globalImplicit)
    (hpar : (params.posonlyargs ++ params.args).head? = some ar) (hy0 : ar.arg = y0) (hka : scope.names.lookup y0 = some .local)
    (hse : ∀ env, starEach [e] env = (false, eval e env) :: starEach [] env) (hsw : ∀ env, swapsWith (.Call (.Attribute (.Call (.Name "super" p0) [] [] p1) "__init__" p2) [e] [] p3) none p4.line env = pure false) (hc : ∀ env, ∃ pl, supEv env p0 p1 p2 p3 e pl) (hint : ∀ L, interactive (envF nf f L) = false) (hsw2 : ∀ env, swapsWith e2 (some (.Attribute (.Name y0 p5) fld p6)) p7.line env = pure false)
    (hd0 : (y0 == ("__debug__" : Str)) = false) (hd1 : (y0 == ("__classdict__" : Str)) = false)
    (h1 : ∀ (i : ι) (a : Addr) (A : Around) (outer : List Env) (s : Shared) (H : Hp) (E : XK), pre i → Room k (A.deeper (envF nf f s.heap.objs.size)) → EA (ncx CX0 P w K mg base [y0, y1, "__class__"] nf f A outer s H E) e [.fr (sc (.ref a)), .fr (B i), .no] (exA (fun _ : Str => True) str))
    (h2 : ∀ (i : ι) (a : Addr) (A : Around) (outer : List Env) (s : Shared) (H : Hp) (E : XK), pre i → Room k (A.deeper (envF nf f s.heap.objs.size)) → EA (ncx CX0 P w K mg base [y0, y1, "__class__"] nf f A outer s H E) e2 [.fr (sc (.ref a)), .fr (B i), .no] (B' i)) :
    FnOk P w K mg base CX0 (k + 1) f fd [y0, y1] (spEI C fld pre B B') := by
  refine fn_super hnf T O S hsup hpar (by rw [hy0]; rfl) (by rw [hy0]; exact hka) (fun vs H Q E h => ?_) hse hc hint hsw fun A outer s H vs Q E hr h => ?_
  · obtain ⟨i, a, x, H1, F, hp, rfl, _⟩ := h
    rfl
  obtain ⟨i, a, x, H1, F, hp, rfl, hn, rfl, ex, hB, kq⟩ := h
  have exH : Ex H1 (upd H1 a (exo a C none)) := Ex.new hn
  have fa : F a = none := ex.none hn
  let ρ : List En := [.fr (sc (.ref a)), .fr (B i), .no]
  have nmo : ρ.any En.mnB = false := rfl
  have S0 : Sat (upd H1 a (exo a C none)) F (startF [y0, y1, "__class__"] [.ref a, x] [none]) (upd H1 a (exo a C none)) ρ := by
    refine ⟨ex.trans exH, fun i' A' e' => ?_, fun i' l e' => (no_mn nmo e' True.intro).elim, fun i' j' l m p e' _ m1 => (no_mn nmo e' m1).elim, rfl, fun i' B' e' => (no_mn nmo e' True.intro).elim⟩
    · match i', e' with
      | 0, e' =>
        have e' : sc (.ref a) = A' := by simpa [ρ] using e'
        subst e'
        exact ⟨.ref a, rfl, rfl⟩
      | 1, e' =>
        have e' : B i = A' := by simpa [ρ] using e'
        subst e'
        exact ⟨x, rfl, hB⟩
      | 2, e' => simp [ρ] at e'
      | n + 3, e' => simp [ρ] at e'
  refine ⟨a, rfl, upd_same, tA ρ (exA (fun _ : Str => True) str), fun v H' => ∃ F', Gr F (upd H1 a (exo a C none)) F' H', h1 i a A outer s _ E hp hr, fun Qx hq => ⟨_, F, S0, fun v H' F' g _ => hq v H' ⟨F', g⟩⟩, fun v H' ⟨F', g⟩ => ⟨g.h a _ upd_same, _, pss_one (ps_ost (pe_var (i := 0) rfl (.inl (by subst hnf; exact hka)) hd0 hd1) (h2 i a A outer s _ E hp hr) (hsw2 _)), ?_⟩⟩
  refine ⟨_, F', S0.gr g, fun y H2 F2 g2 hy => ⟨.ref a, rfl, a, C, rfl, O, hno, .inl ⟨g2.h a _ (g.h a _ upd_same), fun d hd hne => ?_⟩⟩⟩
  have gg := g.trans g2
  have f2 : F2 a = none := gg.n a _ upd_same fa
  have e0 : upd (cut H2 a) a (exo a C none) = H2 := by
    funext b
    by_cases hb : b = a
    · rw [hb, upd_same, gg.h a _ upd_same]
    · rw [upd_ne hb, cut_ne hb]
  have z := kq (cut H2 a) F2 y d ⟨gg.f, fun b o q => ?_, fun b o q => ?_, fun b o q1 q2 => ?_⟩ hy cut_same (by rw [cut_ne hne]; exact hd) hne
  · rw [e0] at z
    exact z
  · rw [cut_ne (ne_of_none q hn)]
    exact gg.h b o (exH b o q)
  · rw [cut_ne (ne_of_none q f2)]
    exact gg.i b o q
  · exact gg.n b o (exH b o q1) q2
end
/-- such a class, ready to be raised -/
structure Er1 {ι : Type} (P : Program) (w : World) (K : PySem.W.Frag) (mg : Str → Option Value) (base : Heap) (k : Nat) (x : Str) (C : Addr) (f : Str) (pre : ι → Prop) (B B' : ι → As) : Prop where
  gC : mg x = some (.ref C)
  O : OexC K C
  ex : ∃ fI fd y0 y1, PySem.W.findIn K (.ref C) "__init__" = some (some (.ref fI)) ∧ PySem.W.typeIn K (.ref fI) = some (.type "function") ∧ FnOk P w K mg base CX0 k fI fd [y0, y1] (spEI C f pre B B') ∧ Binds K fd [y0, y1] []
section
variable {X : Cx} {C : Addr} {x fld : Str} {e : Expr} {p p2 pos pos2 : Pos} {ρ : List En} {Nx : List En → Prop} {W : Wn} {k : Nat} {ι : Type} {pre : ι → Prop} {B B' : ι → As}
theorem sa_raise1 (T : Er1 X.prog X.w X.K X.mg X.base k x C fld pre B B') (hc : X.calm = true) (hr : Room (k + 1) X.A) (tk : Takes X W.wx) (i : ι) (hp : pre i) (ha : EA X e ρ (B i)) (h : ∀ F cls d, erX C [(fld, B' i)] F cls d → W.er ρ F cls d) (hg : Gl X x := by rfl) (hdb : (x == ("__debug__" : Str)) = false := by decide)
    (he : starEach [e] X.env = (false, eval e X.env) :: starEach [] X.env := by rfl) : SA X (.Raise (some (.Call (.Name x p) [e] [] pos)) none pos2) ρ Nx W := by
  obtain ⟨fI, fd, y0, y1, iC, tI, G, hb⟩ := T.ex
  refine ps_imp (ps_raise hc tk (pmk_oex (dvs := []) (ds := []) T.O iC tI G hr hb .nil pass0 hg T.gC (pa_cons ha pa_nil he) hdb he)) fun D σ H ⟨F0, H0, F, g, S, q, q2, q3, q4, q5⟩ => ?_
  refine ⟨H0, F, S, fun v H1 F1 g1 hv => ⟨(show 1 ≤ 1000 by decide), fun a hn => ⟨i, a, v, H1, F1, hp, rfl, hn, rfl, g1.i, hv, fun H2 F' y d g2 hy ha2 hd hne => ⟨rfl, d, [(fld, y)], upd_same, ?_, g2.h.none hd, ?_⟩⟩⟩⟩
  · rw [upd_ne hne, upd_same]
  · have e0 : upd (del (upd (upd (upd H2 a (exo a C none)) d (exd d [(fld, y)])) a (exo a C (some d))) a) d (.xd [(fld, y)]) = upd H2 d (.xd [(fld, y)]) := by
      funext b
      by_cases hb : b = d
      · rw [hb, upd_same, upd_same]
      · rw [upd_ne hb, upd_ne hb]
        by_cases hb2 : b = a
        · rw [hb2, del_same, ha2]
        · rw [del_ne hb2, upd_ne hb2, upd_ne hb, upd_ne hb2]
    rw [e0]
    have g3 := (g.trans g1).trans g2
    have gn : Gr F' H2 (upd F' d (.xd [(fld, y)])) (upd H2 d (.xd [(fld, y)])) := .new g3.i hd
    refine sat_q5 q5 (g3.trans gn) (((S.gr g1).gr g2).gr gn) (h _ _ _ ⟨rfl, [y], upd_same, ?_⟩)
    exact ⟨(B' i).mono gn.f hy, trivial⟩
end
end Lk

set_option Elab.async false
set_option linter.all false
set_option maxRecDepth 100000
set_option maxHeartbeats 4000000
namespace Lk
open PySem PySem.Calls L2 PySem.Spec PyProof.Rows
/-- the caught error, at a -/
def xcA (a : Addr) (d : Option Addr) (fs : List (Str × As)) : As := ⟨fun F v => v = .ref a ∧ dctP fs d F, fun e h => ⟨h.1, h.2.mono e⟩⟩
theorem Sat.unset {H0 F H : Hp} {σ : L2.St} {ρ : List En} (S : Sat H0 F σ H ρ) (i : Nat) : Sat H0 F (σ.set i none) H (ρ.set i .no) := by
  have no : ∀ {j : Nat} {e : En}, (ρ.set i En.no)[j]? = some e → e ≠ .no → i ≠ j ∧ ρ[j]? = some e := fun {j e} h hn => by
    by_cases hj : i = j
    · subst hj
      by_cases hi : i < ρ.length
      · rw [List.getElem?_set_self hi] at h
        exact absurd (by simpa using h) (Ne.symm hn)
      · rw [List.getElem?_eq_none (by rw [List.length_set]; omega)] at h
        cases h
    · rw [List.getElem?_set_ne hj] at h
      exact ⟨hj, h⟩
  refine ⟨S.ex, fun j A e => ?_, fun j l e => ?_, fun j k l m p e1 e2 m1 m2 h1 h2 => ?_, by rw [List.length_set, List.length_set]; exact S.len, fun j B e => ?_⟩
  · obtain ⟨nj, e'⟩ := no e (fun z => by cases z)
    rw [List.getElem?_set_ne nj]
    exact S.fr j A e'
  · obtain ⟨nj, e'⟩ := no e (fun z => by cases z)
    rw [List.getElem?_set_ne nj]
    exact S.own j l e'
  · obtain ⟨nj, e1'⟩ := no e1 (fun z => by rw [z] at m1; exact m1)
    obtain ⟨nk, e2'⟩ := no e2 (fun z => by rw [z] at m2; exact m2)
    rw [List.getElem?_set_ne nj] at h1
    rw [List.getElem?_set_ne nk] at h2
    exact S.sep j k l m p e1' e2' m1 m2 h1 h2
  · obtain ⟨nj, e'⟩ := no e (fun z => by cases z)
    rw [List.getElem?_set_ne nj]
    exact S.ow j B e'
section
variable {X : Cx} {x n : Str} {c : Value} {i : Nat} {body suite : List Stmt} {b₀ : Stmt} {np pos pos' : Pos} {ρ : List En} {Nx : List En → Prop} {W : Wn} {C : Addr} {fs : List (Str × As)}
/-- try: .. except x as n: ..; what the body raises is of the class at C -/
theorem sa_try_as (i : Nat) (hs : X.stack = X.env :: X.outer) (hf : X.env.frame = some X.env.locals) (hN : X.N.Nodup) (hi : X.N[i]? = some n) (hln : X.env.kindOf n = some .local) (hc : Names X x c) (tk : Takes X (fun _ _ _ _ => False)) (hexm : PySem.W.exmOne X.K (.ref C) c = some true)
    (hb : ∀ (w : WX) (pn : List (Addr × Obj)) (xe : Value → Shared → Prop), Takes (X.tr pn xe) w → PassesOwn (model X.prog X.w) X.A X.env xe → BA (X.tr pn xe) body ρ Nx { W with er := fun ρ' F cls d => ρ' = ρ ∧ erX C fs F cls d, wx := w })
    (hsu : ∀ (a : Addr) (oe : Obj) (d : Option Addr) (pn : List (Addr × Obj)), Zc (.ref C) d oe → (∃ vs, oe.data = .fields vs) → BA (X.suite a ((a, oe) :: pn)) (b₀ :: suite) (ρ.set i (.fr (xcA a d fs))) (fun ρ2 => Nx (ρ2.set i .no)) { R := W.R, B := fun ρ2 => W.B (ρ2.set i .no), C := fun ρ2 => W.C (ρ2.set i .no) }) :
    SA X (.Try body [.ExceptHandler (some (.Name x np)) (some n) (b₀ :: suite) pos'] [] [] pos) ρ Nx W := by
  refine ps_imp (ps_try_as (tb := fun w => sA ρ Nx { W with er := fun ρ' F cls d => ρ' = ρ ∧ erX C fs F cls d, wx := w }) (i := i) (ts := fun a cls d D σ H => cls = .ref C ∧ sA (ρ.set i (.fr (xcA a d fs))) (fun ρ2 => Nx (ρ2.set i .no)) { R := W.R, B := fun ρ2 => W.B (ρ2.set i .no), C := fun ρ2 => W.C (ρ2.set i .no) } D σ H)
    hs hf hN hi hln hc tk hb (fun a oe cls d pn hz hv => ⟨fun pins s σ H D I ⟨ec, q⟩ => ?_⟩)) fun D σ H ⟨F0, H0, F, g, S, q1, q2, q3, q4, q5⟩ => ?_
  · subst ec
    exact (hsu a oe d pn hz hv).run pins s σ H D I q
  · refine ⟨F0, H0, F, g, S, q1, q2, q3, q4, fun cls d ρ' σ' H' F' ⟨eρ, ec, hd⟩ g' S' => ?_⟩
    subst eρ ec
    exact ⟨true, hexm, fun _ a _ => ⟨rfl, F0, H0, F', g', S'.set ⟨rfl, hd⟩, fun ρ2 σ2 H2 F2 hn g2 S2 => q1 _ _ H2 F2 hn g2 (S2.unset i), q2, fun ρ2 σ2 H2 F2 hn g2 S2 => q3 _ _ H2 F2 hn g2 (S2.unset i), fun ρ2 σ2 H2 F2 hn g2 S2 => q4 _ _ H2 F2 hn g2 (S2.unset i), fun _ _ _ _ _ _ z => z.elim⟩, fun z => nomatch z⟩
end
/-! ### what a suite asks of its error -/
/-- isinstance(e, c), e the error of the class at D whose own dict is at d -/
def rIsX (K : PySem.W.Frag) (D a : Addr) (d : Option Addr) : List V → Hp → VK → Prop := fun xs H Q => ∃ (c : V) (cv : Value) (b : Bool), xs = [.ref a, c] ∧ (∀ u, RelV c u → u = cv) ∧ PySem.W.kitOne K (.ref D) cv = some b ∧ (∀ dd, d = some dd → ∃ fs, H dd = some (.xd fs)) ∧ Q (.bl b) H
theorem call_isX {X : Cx} {a D : Addr} {d : Option Addr} {oe : Obj} {pn : List (Addr × Obj)} (C : ExcC X.K D) (hz : Zc (.ref D) d oe) (hf : ∃ vs, oe.data = .fields vs) : CallR (X.suite a ((a, oe) :: pn)) (.builtin "isinstance") (rIsX X.K D a d) := by
  intro pins s σ H xs us Q I r h
  obtain ⟨c, cv, b, rfl, hcv, e, hdd, q⟩ := h
  cases r with
  | cons rx rr =>
    cases rr with
    | cons rt rr =>
      cases rr
      cases rx
      have ec := hcv _ rt
      subst ec
      obtain ⟨hget, _⟩ := I.pin (a, oe) (List.mem_append.mpr (.inl List.mem_cons_self))
      obtain ⟨vs, hv⟩ := hf
      have hcl : (PySem.W.clsIn X.K D).isSome = true := by
        obtain ⟨cd, hc, _⟩ := PySem.W.any_some C.hd
        rw [hc]; rfl
      have J : ∃ od, PySem.W.InstAt s.heap a oe D od := by
        obtain ⟨oc, od, oda, osl⟩ := oe
        obtain ⟨h1, h2⟩ := hz
        dsimp only at h1 h2 hv
        subst h1 h2 hv
        cases od with
        | none => exact ⟨none, hget, rfl, rfl, trivial⟩
        | some dd =>
          obtain ⟨fs, hx⟩ := hdd dd rfl
          have hx' : ObjOk X.prog X.w H s.heap dd (.xd fs) := I.hok dd _ hx
          obtain ⟨mA, hns, _⟩ := hx'
          obtain ⟨od, ho, _⟩ := lookIn_ns hns
          exact ⟨some od, hget, rfl, rfl, ho⟩
      obtain ⟨od, J⟩ := J
      exact PySem.W.kia_one (PySem.W.kitx_exc hcl C.hg C.hk C.hs C.ha C.hn C.ht C.hm) I.kIn J e (fun z => nomatch z) fun tk => ⟨.bl b, H, I.kept (t' := tk) fun _ _ z => z, rfl, q⟩
section
variable {X : Cx} {a D : Addr} {d : Option Addr} {oe : Obj} {pn : List (Addr × Obj)} {e c : Expr} {ρ : List En} {fs : List (Str × As)} {pos p : Pos} {b : Bool} {x f : Str} {B : As}
theorem ea_isXc (C : ExcC X.K D) (hz : Zc (.ref D) d oe) (hf : ∃ vs, oe.data = .fields vs) {cv : V} {cu : Value} (he : EA (X.suite a ((a, oe) :: pn)) e ρ (xcA a d fs)) (hcx : PE (X.suite a ((a, oe) :: pn)) c (tC cv)) (hcv : ∀ u, RelV cv u → u = cu) (hk : PySem.W.kitOne X.K (.ref D) cu = some b) (hm : X.mg "isinstance" = none)
    (hg : Gl X "isinstance" := by rfl) (hs : starEach [e, c] X.env = (false, eval e X.env) :: starEach [c] X.env := by rfl) (hs2 : starEach [c] X.env = (false, eval c X.env) :: starEach [] X.env := by rfl) (hpl : (backTo pos (starEach [c] X.env)).any (·.1) = false := by rfl) :
    EA (X.suite a ((a, oe) :: pn)) (.Call (.Name "isinstance" p) [e, c] [] pos) ρ (bl b) :=
  pe_imp (pe_callB (call_isX C hz hf) hg hm bo_isi (pa_cons he (pa_cons hcx pa_nil hs2) hs) (he := hs) (hpl := hpl)) fun σ H Q ⟨H0, F, S, k⟩ => ⟨H0, F, S, fun v H1 F1 g1 ⟨ev, hd⟩ => by
    subst ev
    refine ⟨cv, cu, b, rfl, hcv, hk, fun dd ed => ?_, k _ H1 F1 g1 rfl⟩
    subst ed
    obtain ⟨vs, h1, _⟩ := hd
    exact ⟨_, g1.i dd _ h1⟩⟩
/-- isinstance(e, C2), C2 an own class -/
theorem ea_isXo {E : Addr} {p2 : Pos} (C : ExcC X.K D) (hz : Zc (.ref D) d oe) (hf : ∃ vs, oe.data = .fields vs) (he : EA (X.suite a ((a, oe) :: pn)) e ρ (xcA a d fs)) (hE : X.mg x = some (.ref E)) (hk : PySem.W.kitOne X.K (.ref D) (.ref E) = some b) (hm : X.mg "isinstance" = none) (hgx : Gl X x := by rfl) (hdx : (x == ("__debug__" : Str)) = false := by decide)
    (hg : Gl X "isinstance" := by rfl) (hs : starEach [e, .Name x p2] X.env = (false, eval e X.env) :: starEach [.Name x p2] X.env := by rfl) (hs2 : starEach [.Name x p2] X.env = (false, eval (.Name x p2) X.env) :: starEach [] X.env := by rfl) (hpl : (backTo pos (starEach [.Name x p2] X.env)).any (·.1) = false := by rfl) :
    EA (X.suite a ((a, oe) :: pn)) (.Call (.Name "isinstance" p) [e, .Name x p2] [] pos) ρ (bl b) :=
  ea_isXc C hz hf he (pe_glob (v := .ref E) hgx hE rfl hdx) (fun u r => r) hk hm hg hs hs2 hpl
/-- isinstance(e, T), T a built-in class -/
theorem ea_isXb {T : String} {p2 : Pos} (C : ExcC X.K D) (hz : Zc (.ref D) d oe) (hf : ∃ vs, oe.data = .fields vs) (he : EA (X.suite a ((a, oe) :: pn)) e ρ (xcA a d fs)) (hmx : X.mg x = none) (hT : bootBuiltins x = some (.type T)) (hk : PySem.W.kitOne X.K (.ref D) (.type T) = some b) (hm : X.mg "isinstance" = none) (hgx : Gl X x := by rfl) (hdx : (x == ("__debug__" : Str)) = false := by decide) (hnx : x ≠ "__name__" := by decide)
    (hg : Gl X "isinstance" := by rfl) (hs : starEach [e, .Name x p2] X.env = (false, eval e X.env) :: starEach [.Name x p2] X.env := by rfl) (hs2 : starEach [.Name x p2] X.env = (false, eval (.Name x p2) X.env) :: starEach [] X.env := by rfl) (hpl : (backTo pos (starEach [.Name x p2] X.env)).any (·.1) = false := by rfl) :
    EA (X.suite a ((a, oe) :: pn)) (.Call (.Name "isinstance" p) [e, .Name x p2] [] pos) ρ (bl b) :=
  ea_isXc C hz hf he (pe_bltn (v := .ty T) hgx hmx hT rfl hnx hdx) (fun u r => r) hk hm hg hs hs2 hpl
/-- e.f -/
theorem ea_fldX (C : ExcC X.K D) (hz : Zc (.ref D) d oe) (hf : ∃ vs, oe.data = .fields vs) (hno : PySem.W.findIn X.K (.ref D) f = some none) (he : EA (X.suite a ((a, oe) :: pn)) e ρ (xcA a d fs)) (hl : fs.lookup f = some B)
    (hb : attributeBase e f X.env (eval e X.env) = eval e X.env := by rfl) : EA (X.suite a ((a, oe) :: pn)) (.Attribute e f pos) ρ B := by
  refine ⟨fun pins s σ H Q I ⟨H0, F, S, k⟩ => ?_⟩
  refine attr_of hb (thn (he.run pins s σ H (fun v H' => ∃ F', Gr F H F' H' ∧ v = .ref a ∧ dctP fs d F') I ⟨H0, F, S, fun v H' F' g hv => ⟨F', g, hv⟩⟩) fun u s1 hh => ?_)
  obtain ⟨x, H1, I1, rx, F1, g1, ex, hd⟩ := hh
  subst ex
  obtain rfl : u = Value.ref a := rx
  obtain ⟨ha, _⟩ := I1.pin (a, oe) (List.mem_append_left _ List.mem_cons_self)
  obtain ⟨vs, hdt⟩ := hf
  cases d with
  | none =>
    have hd : fs = [] := hd
    rw [hd] at hl
    cases hl
  | some dd =>
    obtain ⟨us, h1, h2⟩ := hd
    have hx : ObjOk X.prog X.w H1 s1.heap dd (.xd ((fs.map Prod.fst).zip us)) := I1.hok dd _ (g1.i dd _ h1)
    obtain ⟨mA, hns, hr⟩ := hx
    obtain ⟨od, ho, hlk⟩ := lookIn_ns hns
    obtain ⟨w, hw, hB⟩ := zip_lookup h2 hl
    obtain ⟨u, hu, ru⟩ := RelO.some_of (v := w) (o := mA f) (by rw [← hw]; exact hr f)
    have J : PySem.W.InstAt s1.heap a oe D (some od) := ⟨ha, hz.1, by unfold PySem.W.notCls; rw [hdt] <;> rfl, by rw [hz.2]; exact ho⟩
    exact HandSPX.exc_get I1.kIn J C.hg C.hk C.hs (PySem.W.findObj_own C.hd hno rfl (by rw [hlk, hu])) (handed_of ru) ⟨w, H1, I1.tok _, ru, k w H1 F1 g1 hB⟩
end
/-! ### defs that may be called within a suite -/
structure FnA (P : Program) (w : World) (K : PySem.W.Frag) (mg : Str → Option Value) (base : Heap) (k : Nat) (f : Addr) (fd : FuncData) (ps : List Str) (sp : Sp) : Prop where
  len : ∀ vs H Q E, sp vs H Q E → vs.length = ps.length
  run : ∀ (A : Around) (outer : List Env) (s : Shared) (H : Hp) (args : Args) (us : List Value) (vs : List V) (Q : VK) (E : XK), L2H.RoomH k A → Env0 P w K mg base A outer s H → BindsTo s fd args (ps.zip us) → Vals vs us → sp vs H Q E →
    codeAny (model P w) A (.call (.ref f) args) (CR CX0 outer P w H s Q E) s
theorem FnA.ok {P : Program} {w : World} {K : PySem.W.Frag} {mg : Str → Option Value} {base : Heap} {k : Nat} {f : Addr} {fd : FuncData} {ps : List Str} {sp : Sp} (F : FnA P w K mg base k f fd ps sp) : FnOk P w K mg base CX0 k f fd ps sp :=
  ⟨F.len, fun A outer s H args us vs Q E hr e0 hb r h => F.run A outer s H args us vs Q E (L2H.roomH_of hr) e0 hb r h⟩
abbrev cxA (P : Program) (w : World) (K : PySem.W.Frag) (mg : Str → Option Value) (base : Heap) (N : List Str) (qual : Str) (scope : Scope) (f : Addr) (cd : Value) (A : Around) (outer : List Env) (s : Shared) (H : Hp) (E : XK) : Cx :=
  { cxOf CX0 P w K mg base N qual scope f cd A outer s H E with calm := false }
theorem inv_startA {P : Program} {w : World} {K : PySem.W.Frag} {mg : Str → Option Value} {base : Heap} {N ps : List Str} {qual : Str} {scope : Scope} {f : Addr} {cd : Value} {A : Around} {outer : List Env} {s s1 : Shared} {H : Hp} {E : XK} {us : List Value} {vs : List V}
    (S : FnScope N ps scope) (e0 : Env0 P w K mg base A outer s H) (hl : vs.length = ps.length) (r : Vals vs us)
    (x : InCallC s s.heap.objs.size (bindL (envOfC qual scope s.heap.objs.size f cd).kindOf (ps.zip us) fun _ => none) (cellsFrom (s.heap.objs.size + 1) scope.names []) (bindC (envOfC qual scope s.heap.objs.size f cd).kindOf (ps.zip us) fun _ => none) s1) :
    Inv (cxA P w K mg base N qual scope f cd A outer s H E) [] (L2.start N vs) H s1 := by
  have hpl : ps.length ≤ N.length := by have := congrArg List.length S.pre; rw [List.length_take] at this; omega
  obtain ⟨h1, tk, rfl, hk⟩ := x.done
  have noA : ∀ b : Addr, b ∉ (cxA P w K mg base N qual scope f cd A outer s H E).ex := fun b z => absurd (show b ∈ ([] : List Addr) from z) (by simp)
  refine ⟨⟨e0.mod, S.kind, rfl, rfl, Nat.le_refl _, fun y z c h1 h2 => ?_, fun y hy => ?_, fun y c _ h => ?_, (fun z => Bool.noConfusion (show false = true from z)), Around.frames_deeper e0.frames, .inr ⟨rfl, rfl⟩, fun b z => absurd z (noA b), e0.bs, e0.bsz, fun b _ _ => noA b, fun b z => absurd z (noA b), e0.funs, e0.frf⟩,
    rfl, e0.bare, Un.kept hk, ⟨_, x.toInCall.ns, fun i y v h1 h2 h3 => ?_⟩, fun y c h => ⟨_, x.cell y c h⟩, e0.hok.fresh (Nat.le_refl _), fun y c h => ?_, fun q hq => absurd (show q ∈ ([] : List (Addr × Obj)) from hq) (by simp), e0.hok.kept hk, ?_⟩
  · exact name_of_addr x.apart (PySem.mem_of_lookup h1) (PySem.mem_of_lookup h2)
  · have hy : scope.names.lookup y = some .cell ∨ scope.names.lookup y = some .free := hy
    rcases hy with hy | hy
    · exact cell_has hy
    · exact absurd rfl (S.nofree _ (PySem.mem_of_lookup hy))
  · exact Nat.le_of_lt (x.above y c (PySem.mem_of_lookup h))
  · have hi : i < vs.length := by
      unfold L2.start at h2
      by_cases hi : i < vs.length
      · exact hi
      · rw [List.getElem?_append_right (by simpa using hi)] at h2
        rw [List.getElem?_replicate] at h2
        split at h2 <;> cases h2
    have ha : vs[i]? = some v := by
      unfold L2.start at h2
      rw [List.getElem?_append_left (by simpa using hi), List.getElem?_map] at h2
      cases e : vs[i]? with
      | none => rw [e] at h2; cases h2
      | some a => rw [e] at h2; cases h2; rfl
    obtain ⟨u, hu, rv⟩ := r.get ha
    have hp : ps[i]? = some y := by
      rw [← S.pre, List.getElem?_take_of_lt (by omega)]; exact h1
    have ndP : ps.Nodup := by rw [← S.pre]; exact S.nd.sublist (List.take_sublist _ _)
    refine ⟨u, rv, ?_⟩
    rcases S.par y (List.mem_of_getElem? hp) with k | k
    · exact .inl ⟨k, bindL_get ndP hp hu k⟩
    · obtain ⟨c, e⟩ := cell_has (n := s.heap.objs.size + 1) k
      refine .inr ⟨.inl k, c, e, ?_⟩
      have q := x.cell y c e
      rw [bindC_get ndP hp hu (by show scope.names.lookup y ≠ _; rw [k]; decide)] at q
      exact q
  · exact e0.hok.fresh (Nat.le_of_lt (x.above y c (PySem.mem_of_lookup h)))
  · unfold L2.start
    show _ = N.length
    rw [List.length_append, List.length_map, List.length_replicate]
    omega
theorem fn_okA {P : Program} {w : World} {K : PySem.W.Frag} {mg : Str → Option Value} {base : Heap} {x qual : Str} {st : Stmt} {f : Addr} {fd : FuncData} {N ps : List Str} {k : Nat} {ι : Type} {pre : ι → Prop} {l : ι → List As} {A : ι → As} (F : Fun K x qual st f fd) (S : FnScope N ps (defScope st)) (hl : ∀ i, pre i → (l i).length = ps.length)
    (hb : ∀ (i : ι) (cdv : Value) (B : Around) (outer : List Env) (s : Shared) (H : Hp) (E : XK), pre i → L2H.RoomH k (B.deeper (PyProof.Rows.envOfC qual (defScope st) s.heap.objs.size f cdv)) →
      BA (cxA P w K mg base N qual (defScope st) f cdv B outer s H E) (defBody st) (entry N (l i)) (fun _ => ∀ F, (A i).p F .non) { R := A i }) : FnA P w K mg base (k + 1) f fd ps (spX pre l A) := by
  obtain ⟨oc, od, kV, doc, pm, an, cdv, ct, osl, rfl, lk, hcd⟩ := F.ex
  have len : ∀ vs H Q E, spX pre l A vs H Q E → vs.length = ps.length := fun vs H Q E h => by
    obtain ⟨i, hp, F, e, hv, _⟩ := h
    rw [hv.length, hl i hp]
  refine ⟨len, fun A' outer s H args us vs Q E hr e0 hb' r hsp => ?_⟩
  have hl' := len _ _ _ _ hsp
  obtain ⟨i, hp, F1, e, hv, q⟩ := hsp
  have KX : K.In s.heap := e0.mod.kin.keeps fun b o e => (e0.bs b o e).1
  have lim : s.heap.NoLimit := e0.mod.nolimit.keeps fun b o e => (e0.bs b o e).1
  have hkind : ∀ y ∈ ps.zip us, (defScope st).names.lookup y.1 = some .local ∨ ((defScope st).names.lookup y.1 = some .cell ∧ ((cellsFrom (s.heap.objs.size + 1) (defScope st).names []).lookup y.1).isSome = true) := fun ⟨n, v⟩ hy => by
    rcases S.par n (List.of_mem_zip hy).1 with q | q
    · exact .inl q
    · exact .inr ⟨q, PySem.W.cellsFrom_some _ _ _ (.inl q)⟩
  refine codeAny_call_function hr.depth (KX _ _ lk) rfl S.co S.gen rfl (PySem.W.codeRec_of KX hcd) (hb' _ _ _ _ ?_)
  refine wpAny_newFunctionEnv_cells S.kind hkind fun env he s1 x => ?_
  subst he
  refine ⟨lim.keeps x.toInCall.keep, codeAny_func ?_⟩
  have ht := hb i cdv A' outer s H E hp (hr.deeper _)
  have I : Inv (cxA P w K mg base N qual (defScope st) f cdv A' outer s H E) [] (L2.start N vs) H s1 := inv_startA S e0 hl' r x
  have hq : sA (entry N (l i)) (fun _ => ∀ F, (A i).p F .non) { R := A i } { nx := fun _ H' => Q .non H', rt := Q } (L2.start N vs) H := by
    refine ⟨F1, H, F1, .refl e, sat_start (ps := ps) e hv, fun ρ' σ' H' F' hn g' S' => q .non H' F' g' (hn F'), fun v H' F' g' hv => q v H' F' g' hv, fun _ _ _ _ z => z.elim, fun _ _ _ _ z => z.elim, fun _ _ _ _ _ _ z => z.elim⟩
  refine wpAny_mono (ht.run [] s1 (L2.start N vs) H _ I hq) (fun fl s' hs => ?_) fun e s' hs => hs
  have fin : ∀ {σ' : L2.St} {H' : Hp} {v : V} {u : Value}, Inv (cxA P w K mg base N qual (defScope st) f cdv A' outer s H E) [] σ' H' s' → RelV v u → Q v H' → CE outer P w H s Q u s' :=
    fun {σ' H' v u} J rv q => ⟨v, H', J.os, J.bare, J.base, J.hok, rv, q⟩
  cases fl with
  | ret u =>
    obtain ⟨v, σ', H', J, rv, q⟩ := hs
    exact fin J rv q
  | next =>
    obtain ⟨σ', H', J, q⟩ := hs
    exact fin (v := V.non) (u := Value.none) J rfl q
  | brk =>
    obtain ⟨_, _, _, q⟩ := hs
    exact False.elim q
  | cont =>
    obtain ⟨_, _, _, q⟩ := hs
    exact False.elim q
structure DfA (P : Program) (w : World) (K : PySem.W.Frag) (mg : Str → Option Value) (base : Heap) (k : Nat) (x : Str) (ps : List Str) (sp : Sp) : Prop where
  ex : ∃ f fd, FnA P w K mg base k f fd ps sp ∧ mg x = some (.ref f) ∧ PySem.W.keepIn K (.ref f) = true ∧ Binds K fd ps []
theorem DfA.df {P : Program} {w : World} {K : PySem.W.Frag} {mg : Str → Option Value} {base : Heap} {k : Nat} {x : Str} {ps : List Str} {sp : Sp} (D : DfA P w K mg base k x ps sp) : Df P w K mg base k x ps sp :=
  let ⟨f, fd, h1, h2⟩ := D.ex
  ⟨f, fd, h1.ok, h2⟩
theorem roomA_mark {k : Nat} {A : Around} {v : Option Value} (r : L2H.RoomH k A) : L2H.RoomH k (A.mark v) := ⟨r.dp, r.un⟩
/-- a call, also within a suite -/
theorem ea_callA {X : Cx} {e : Expr} {es : List Expr} {ρ : List En} {pos : Pos} {k : Nat} {x : Str} {ps : List Str} {ι : Type} {pre : ι → Prop} {l : ι → List As} {A : ι → As} {p : Pos} (D : DfA X.prog X.w X.K X.mg X.base k x ps (spX pre l A)) (hr : L2H.RoomH k X.A) (i : ι) (hp : pre i) (ha : EAs X (e :: es) ρ (l i)) (hg : Gl X x := by rfl)
    (hdb : (x == ("__debug__" : Str)) = false := by decide) (he : starEach (e :: es) X.env = (false, eval e X.env) :: starEach es X.env := by rfl) (hpl : (backTo pos (starEach es X.env)).any (·.1) = false := by rfl) : EA X (.Call (.Name x p) (e :: es) [] pos) ρ (A i) := by
  obtain ⟨f, fd, G, hm, hk, hb⟩ := D.ex
  refine ⟨fun pins s σ H Q I ⟨H0, F, S, q⟩ => ?_⟩
  refine wpAny_Call_Name_kw (ld_glob I hg hm ?_ hdb)
  refine PySem.W.callWith_K (h₀ := X.base) I.ok.mod.kin hk (thn (ha.run pos pins s σ H (fun vs H1 => spX pre l A vs H1 Q E0) I ⟨H0, F, S, fun vs H1 F1 g1 h1 => ⟨i, hp, F1, g1.i, h1, fun v H' F' g hv => q v H' F' (g1.trans g) hv⟩⟩) fun us s1 ⟨vs, H1, I1, r, hsp⟩ => ⟨I1.kIn, ?_⟩) he hpl
  have hl := G.len _ _ _ _ hsp
  refine wpAny_call (codeAny_mono (G.run X.A X.stack s1 H1 ⟨us, []⟩ us vs Q E0 hr I1.env0 (by
    have z := hb s1 us I1.kIn (by rw [List.append_nil, ← r.length]; exact hl)
    rwa [List.append_nil] at z) r hsp) fun r s' hq => ?_)
  cases r with
  | error e => exact hq.elim
  | ok fl =>
    cases fl with
    | ret u => exact I1.after hq
    | next => exact False.elim hq
    | brk => exact False.elim hq
    | cont => exact False.elim hq
end Lk

set_option Elab.async false
set_option linter.all false
set_option maxRecDepth 100000
set_option maxHeartbeats 4000000
namespace Lk
open PySem PySem.Calls L2 PySem.Spec PyProof.Rows
section
variable {X : Cx} {e a b c o it tg : Expr} {es : List Expr} {ρ : List En} {A B : As} {pos apos p1 p2 : Pos} {k : Nat} {l m : List As} {C : Addr} {fs : List (Str × As)} {x : Str}
/-! ### a list or a tuple -/
theorem es_sq {q : Bool} (h : EA X it ρ (sq q l)) : ES X tg it ρ l := by
  cases q with
  | true => exact es_l h
  | false => exact es_t h
theorem ea_lenSq {q : Bool} {p : Pos} (ha : EA X a ρ (sq q l)) (hm : X.mg "len" = none) (hg : Gl X "len" := by rfl) (hs : starEach [a] X.env = (false, eval a X.env) :: starEach [] X.env := by rfl) (hpl : (backTo pos (starEach [] X.env)).any (·.1) = false := by rfl) : EA X (.Call (.Name "len" p) [a] [] pos) ρ (int (l.length : Int)) := by
  cases q with
  | true => exact ea_lenL (ea_l ha) hm hg hs hpl
  | false => exact ea_lenTp ha hm hg hs hpl
theorem ea_ixSq {q : Bool} {i : Int} {j : Nat} (ha : EA X a ρ (sq q l)) (hb : EW X b ρ (int i)) (hi : i = (j : Int)) (hj : l[j]? = some A) (hs : PlainIx b := by exact fun _ _ => rfl) : EA X (.Subscript a b pos) ρ A := by
  cases q with
  | true => exact ea_ixL (ea_l ha) hb hi hj hs
  | false => exact ea_ixT ha hb hi hj hs
/-! ### a <= b < c -/
theorem ea_chainLeLt {x y z : Int} (ha : EW X a ρ (int x)) (hb : EW X b ρ (int y)) (hc : EW X c ρ (int z)) (hm : lastMarks [.LtE, .Lt] [b, c] = false) : EA X (.Compare a [.LtE, .Lt] [b, c] pos) ρ (bl (decide (x ≤ y) && decide (y < z))) :=
  pe_imp (pe_chain op_le op_lt ha hb hc hm) fun σ H Q ⟨H0, F, S, q⟩ => ⟨H0, F, S, fun v H1 F1 g1 h1 => ⟨H0, F1, S.gr g1, fun u H2 F2 g2 h2 => by
    have h1 : v = .int x := h1
    have h2 : u = .int y := h2
    subst h1 h2
    refine ⟨x, y, rfl, rfl, _, rfl, ?_⟩
    have g := g1.trans g2
    by_cases hxy : x ≤ y
    · rw [if_pos (decide_eq_true hxy)]
      refine ⟨H0, F2, (S.gr g1).gr g2, fun t H3 F3 g3 h3 => ?_⟩
      have h3 : t = .int z := h3
      subst h3
      refine ⟨y, z, rfl, rfl, q _ H3 F3 (g.trans g3) ?_⟩
      show V.bl _ = V.bl _
      rw [decide_eq_true hxy, Bool.true_and]
    · rw [if_neg (by simpa using hxy)]
      refine q _ H2 F2 g ?_
      show V.bl _ = V.bl _
      rw [decide_eq_false hxy, Bool.false_and]⟩⟩
theorem et_chainLeLt {x y z : Int} (ha : EW X a ρ (int x)) (hb : EW X b ρ (int y)) (hc : EW X c ρ (int z)) (hm : lastMarks [.LtE, .Lt] [b, c] = false) : ET X (.Compare a [.LtE, .Lt] [b, c] pos) ρ (decide (x ≤ y) && decide (y < z)) :=
  pt_imp (pt_chain op_le op_lt ha hb hc hm) fun σ H Q ⟨H0, F, S, q⟩ => ⟨H0, F, S, fun v H1 F1 g1 h1 => ⟨H0, F1, S.gr g1, fun u H2 F2 g2 h2 => by
    have h1 : v = .int x := h1
    have h2 : u = .int y := h2
    subst h1 h2
    refine ⟨x, y, rfl, rfl, _, rfl, ?_⟩
    have g := g1.trans g2
    by_cases hxy : x ≤ y
    · rw [if_pos (decide_eq_true hxy)]
      refine ⟨H0, F2, (S.gr g1).gr g2, fun t H3 F3 g3 h3 => ?_⟩
      have h3 : t = .int z := h3
      subst h3
      refine ⟨y, z, rfl, rfl, _, rfl, ?_⟩
      have e : (decide (x ≤ y) && decide (y < z)) = decide (y < z) := by rw [decide_eq_true hxy, Bool.true_and]
      rw [← e]
      exact q H3 F3 (g.trans g3)
    · rw [if_neg (by simpa using hxy)]
      have e : (decide (x ≤ y) && decide (y < z)) = false := by rw [decide_eq_false hxy, Bool.false_and]
      rw [← e]
      exact ⟨_, rfl, q H2 F2 g⟩⟩⟩
/-! ### isinstance -/
/-- isinstance(e, T), T a built-in class, e's type known -/
theorem ea_isT {T : String} {t : Value} {bb : Bool} {x : Str} (he : EA X e ρ A) (ty : ∀ F H v, Ex F H → A.p F v → TyOf X.K H v t) (hmx : X.mg x = none) (hT : bootBuiltins x = some (.type T)) (hk : PySem.W.kitOne X.K t (.type T) = some bb) (hm : X.mg "isinstance" = none) (hgx : Gl X x := by rfl) (hdx : (x == ("__debug__" : Str)) = false := by decide) (hnx : x ≠ "__name__" := by decide)
    (hg : Gl X "isinstance" := by rfl) (hs : starEach [e, .Name x p2] X.env = (false, eval e X.env) :: starEach [.Name x p2] X.env := by rfl) (hs2 : starEach [.Name x p2] X.env = (false, eval (.Name x p2) X.env) :: starEach [] X.env := by rfl) (hpl : (backTo pos (starEach [.Name x p2] X.env)).any (·.1) = false := by rfl) :
    EA X (.Call (.Name "isinstance" p1) [e, .Name x p2] [] pos) ρ (bl bb) :=
  pe_imp (pe_callB call_isi hg hm bo_isi (pa_cons he (pa_cons (pe_bltn (v := .ty T) hgx hmx hT rfl hnx hdx) pa_nil hs2) hs) (he := hs) (hpl := hpl)) fun σ H Q ⟨H0, F, S, k⟩ => ⟨H0, F, S, fun v H1 F1 g1 h1 =>
    ⟨v, .ty T, t, .type T, bb, rfl, .ty _, .base (ty F1 H1 v g1.i h1), hk, k _ H1 F1 g1 rfl⟩⟩
theorem kit_int_int {K : PySem.W.Frag} : PySem.W.kitOne K (.type "int") (.type "int") = some true := kit_ty (by decide +kernel)
theorem kit_int_bool {K : PySem.W.Frag} : PySem.W.kitOne K (.type "int") (.type "bool") = some false := kit_ty (by decide +kernel)
theorem kit_tup_tup {K : PySem.W.Frag} : PySem.W.kitOne K (.type "tuple") (.type "tuple") = some true := kit_ty (by decide +kernel)
theorem ty_int {K : PySem.W.Frag} {i : Int} : ∀ F H v, Ex F H → (int i).p F v → TyOf K H v (.type "int") := fun F H v _ h => by
  have h : v = .int i := h
  subst h
  exact .int i
theorem ty_tup {K : PySem.W.Frag} : ∀ F H v, Ex F H → (tupA l).p F v → TyOf K H v (.type "tuple") := fun F H v e ⟨a, xs, ev, h1, _⟩ => by
  subst ev
  exact .tup (e a _ h1)
theorem bo_int2 : bootBuiltins ("int" : Str) = some (.type "int") := bo_int
/-- what an own class wants for isinstance -/
structure IsO (K : PySem.W.Frag) (C : Addr) : Prop where
  cl : Cls K C
  ha : PySem.W.findIn K (.ref C) "__class__" = some (some (.builtin "object.__class__"))
  hn : PySem.W.specialIn K (.builtin "object.__class__") "__get__" = some (some (.builtin "getset_descriptor.__get__"))
  ht : PySem.W.takesIn K (.builtin "object.__class__") = some true
  hm : PySem.W.mroIn K C (.type "object") = some true
/-- isinstance(e, C), e an object of the class itself -/
theorem ea_isO {x : Str} (T : IsO X.K C) (he : EA X e ρ (insA C fs)) (hmx : X.mg x = some (.ref C)) (hm : X.mg "isinstance" = none) (hgx : Gl X x := by rfl) (hdx : (x == ("__debug__" : Str)) = false := by decide)
    (hg : Gl X "isinstance" := by rfl) (hs : starEach [e, .Name x p2] X.env = (false, eval e X.env) :: starEach [.Name x p2] X.env := by rfl) (hs2 : starEach [.Name x p2] X.env = (false, eval (.Name x p2) X.env) :: starEach [] X.env := by rfl) (hpl : (backTo pos (starEach [.Name x p2] X.env)).any (·.1) = false := by rfl) :
    EA X (.Call (.Name "isinstance" p1) [e, .Name x p2] [] pos) ρ (bl true) :=
  pe_imp (pe_callB call_isi hg hm bo_isi (pa_cons he (pa_cons (pe_glob (v := .ref C) hgx hmx rfl hdx) pa_nil hs2) hs) (he := hs) (hpl := hpl)) fun σ H Q ⟨H0, F, S, k⟩ => ⟨H0, F, S, fun v H1 F1 g1 ⟨a, dx, vs, ev, h1, h2⟩ => by
    subst ev
    refine ⟨.ref a, .ref C, .ref C, .ref C, true, rfl, .own C, .base (.ins (g1.i a _ h1) T.cl T.ha T.hn T.ht T.hm), ?_, k _ H1 F1 g1 rfl⟩
    unfold PySem.W.kitOne
    rw [if_pos (by simp)]⟩
end
/-! ### for x in a source that stays -/
section
variable {X : Cx} {ρ : List En} {pos : Pos} {it : Expr} {sts : List Stmt} {Nx : List En → Prop} {W : Wn} {l : List As}
theorem sa_forS (j : Nat) {x : Str} {px : Pos} (I : Nat → List En → Prop) (hp : PassesOwn (model X.prog X.w) X.A X.env X.xe) (hcalm : X.calm = true) (hN : X.N.Nodup) (hi : ES X (.Name x px) it ρ l) (h0 : ∃ ρ0, I 0 ρ0 ∧ Le ρ0 ρ)
    (hs : ∀ n A ρ', l[n]? = some A → I n ρ' → BA X sts (ρ'.set j (.fr A)) (fun ρ2 => ∃ ρ3, I (n + 1) ρ3 ∧ Le ρ3 ρ2) { W with B := Nx, C := fun ρ2 => ∃ ρ3, I (n + 1) ρ3 ∧ Le ρ3 ρ2 })
    (hd : ∀ ρ', I l.length ρ' → Nx ρ') (hj : X.N[j]? = some x := by rfl) (hx : Loc X.env.scope x := by first | exact .inl rfl | exact .inr rfl) (hf : X.fn x = true ∨ X.env.scope.names.lookup x = some .local := by first | exact .inl rfl | exact .inr rfl | assumption)
    (hfo : ∀ z, foldedSetIterable it X.env z = pure z := by intro _; rfl) :
    SA X (.For (.Name x px) it sts [] pos) ρ Nx W := by
  have hb : PSs X sts (tbL I l j W Nx) := ⟨fun pins s σ H D I' ⟨n, A, ρ', h1, h2, q⟩ => (hs n A ρ' h1 h2).run pins s σ H D I' q⟩
  refine ps_imp (ps_for hp hcalm hi (pg_name hN hj hx hf) hb hfo) fun D σ H ⟨F0, H0, F, g, S, q1, q2, q3, q4, q5⟩ => ?_
  refine ⟨H0, F, S, fun J So xs H1 F1 g1 hall hJ hS => ?_⟩
  have gA := g.trans g1
  -- behind n turns
  let Pv : Nat → L2.St → Hp → Prop := fun n σ' H' => ∃ ρ' F', I n ρ' ∧ Gr F0 H0 F' H' ∧ Ex F1 F' ∧ Sat H0 F' σ' H' ρ'
  refine ⟨fun n m σ' H' => m = xs.length - n ∧ n ≤ xs.length ∧ Pv n σ' H', ⟨xs.length, by simp, Nat.zero_le _, ?_⟩, ?_⟩
  · obtain ⟨ρ0, i0, le⟩ := h0
    exact ⟨ρ0, F1, i0, gA, Ex.refl F1, (S.gr g1).le le⟩
  rintro n m σ' H' ⟨rfl, hn', ρ', F', hI, g', x', S'⟩
  obtain ⟨s1, s2, s3⟩ := hJ n H' (hS H' (x'.trans g'.i))
  by_cases hlt : n < xs.length
  · have hn : n < l.length := by rw [← hall.length]; exact hlt
    refine .inr ⟨s1 xs[n] (by simp [hlt]), Pv (n + 1), fun σ2 H2 p => ⟨xs.length - (n + 1), by omega, rfl, hlt, p⟩, fun y H2 yl => ?_⟩
    obtain ⟨e, hy⟩ := s2 hlt y H2 yl
    subst e
    obtain ⟨u, hu, hA⟩ := hall.get (List.getElem?_eq_getElem hn)
    rw [hy] at hu
    have e : y = u := by simpa using hu
    subst e
    have fin : ∀ ρ2 σ2 H2 F2, (∃ ρ3, I (n + 1) ρ3 ∧ Le ρ3 ρ2) → Gr F0 H0 F2 H2 → Ex F' F2 → Sat H0 F2 σ2 H2 ρ2 → Pv (n + 1) σ2 H2 := fun ρ2 σ2 H2 F2 ⟨ρ3, i3, le⟩ g2 x2 S2 => ⟨ρ3, F2, i3, g2, x'.trans x2, S2.le le⟩
    refine ⟨n, l[n], ρ', List.getElem?_eq_getElem hn, hI, F', H0, F', ?_, S'.set (l[n].mono x' hA), ?_, ?_, ?_, ?_, ?_⟩
    · exact ⟨Ex.refl F', g'.h, g'.i, fun a o z1 z2 => z2⟩
    · intro ρ2 σ2 H2 F2 hm g2 S2
      exact fin ρ2 σ2 H2 F2 hm ⟨g'.f.trans g2.f, g2.h, g2.i, fun a o z1 z2 => g2.n a o z1 (g'.n a o z1 z2)⟩ g2.f S2
    · intro v H2 F2 g2 hv
      exact q2 v H2 F2 ⟨g'.f.trans g2.f, g2.h, g2.i, fun a o z1 z2 => g2.n a o z1 (g'.n a o z1 z2)⟩ hv
    · intro ρ2 σ2 H2 F2 hm g2 S2
      exact q1 ρ2 σ2 H2 F2 hm ⟨g'.f.trans g2.f, g2.h, g2.i, fun a o z1 z2 => g2.n a o z1 (g'.n a o z1 z2)⟩ S2
    · intro ρ2 σ2 H2 F2 hm g2 S2
      exact fin ρ2 σ2 H2 F2 hm ⟨g'.f.trans g2.f, g2.h, g2.i, fun a o z1 z2 => g2.n a o z1 (g'.n a o z1 z2)⟩ g2.f S2
    · intro cls d ρ2 σ2 H2 F2 he g2 S2
      exact q5 cls d ρ2 σ2 H2 F2 he ⟨g'.f.trans g2.f, g2.h, g2.i, fun a o z1 z2 => g2.n a o z1 (g'.n a o z1 z2)⟩ S2
  · have e : n = xs.length := by omega
    subst e
    rw [hall.length] at hI
    exact .inl ⟨s3 (Nat.le_refl _), q1 ρ' σ' H' F' (hd ρ' hI) g' S'⟩
end
/-! ### [.. for a, b in zip(x, y)], tuples of one length -/
theorem wipe_setG {τ : L2.St} {j : Nat} {x : Option V} : ∀ {vs : List Nat}, j ∈ vs → L2.wipe (τ.set j x) vs = L2.wipe τ vs := by
  have at_ : ∀ (vs : List Nat) (τ : L2.St) (i : Nat), i ∈ vs → (L2.wipe τ vs)[i]? = if i < τ.length then some none else none := by
    intro vs
    induction vs with
    | nil => intro τ i h; simp at h
    | cons v vs ih =>
      intro τ i h
      unfold L2.wipe
      by_cases e : v = i
      · subst e
        rw [List.getElem?_set]
        simp [wipe_length]
      · rw [List.getElem?_set_ne e]
        exact ih τ i ((List.mem_cons.mp h).resolve_left fun z => e z.symm)
  intro vs hj
  refine List.ext_getElem? fun i => ?_
  by_cases hi : i ∈ vs
  · rw [at_ vs _ i hi, at_ vs _ i hi, List.length_set]
  · rw [wipe_get hi, wipe_get hi, List.getElem?_set_ne (fun z => hi (by rw [← z]; exact hj))]
section
variable {α : Type} {X : Cx} {ρ : List En} {pos : Pos} {elt a b : Expr} {scope : Scope}
theorem en_lcZ {own : List (Str × Nat)} (j1 j2 : Nat) {x1 x2 : Str} {px1 px2 p1 p2 tp : Pos} {kk : Nat} {l : List α} {e1 e2 : α → As} {g : α → As} (hc : X.calm = true) (hN : X.N.Nodup) (hm : X.mg "zip" = none) (hi : EAs X [a, b] ρ [tupA (l.map e1), tupA (l.map e2)]) (hz : l.length < sizeLine) (ok : BlkOk X.N X.env.scope scope own)
    (hg : ∀ (s : Shared) (H : Hp) (C : Addr) (cl : List (Str × Addr)) (fp : List Addr), PG (X.blk s H scope (compEnvC scope cl C X.env) fp) (.Tuple [.Name x1 px1, .Name x2 px2] kk tp) (gTup X.K 2 (gCons (gName j1) (gCons (gName j2) gNil))))
    (he : ∀ (s : Shared) (H : Hp) (C : Addr) (cl : List (Str × Addr)) (fp : List Addr), ∀ x ∈ l, EA (X.blk s H scope (compEnvC scope cl C X.env) fp) elt (((wipeE ρ (own.map (·.2))).set j1 (.fr (e1 x))).set j2 (.fr (e2 x))) (g x))
    (hj1 : j1 ∈ own.map (·.2) := by decide) (hj2 : j2 ∈ own.map (·.2) := by decide) (hgz : Gl X "zip" := by rfl)
    (hs : starEach [a, b] X.env = (false, eval a X.env) :: starEach [b] X.env := by rfl) (hpl : (backTo p2 (starEach [b] X.env)).any (·.1) = false := by rfl) (hfo : ∀ z, foldedSetIterable (.Call (.Name "zip" p1) [a, b] [] p2) X.env z = pure z := by intro _; rfl) :
    EN X (.ListComp elt [⟨.Tuple [.Name x1 px1, .Name x2 px2] kk tp, .Call (.Name "zip" p1) [a, b] [] p2, [], 0⟩] scope pos) ρ (l.map g) := by
  let vs := own.map (·.2)
  let ρe : α → List En := fun x => ((wipeE ρ vs).set j1 (.fr (e1 x))).set j2 (.fr (e2 x))
  let te : TE := fun σ H Q => ∃ x, x ∈ l ∧ tA (ρe x) (g x) σ H Q
  have hte : ∀ (s : Shared) (H : Hp) (C : Addr) (cl : List (Str × Addr)) (fp : List Addr), PE (X.blk s H scope (compEnvC scope cl C X.env) fp) elt te := fun s H C cl fp => ⟨fun pins s1 σ H1 Q I ⟨x, hx, q⟩ => (he s H C cl fp x hx).run pins s1 σ H1 Q I q⟩
  let tt : TT := fun σ H Q => Q true H
  have htt : ∀ (s : Shared) (H : Hp) (C : Addr) (cl : List (Str × Addr)) (fp : List Addr), PTs (X.blk s H scope (compEnvC scope cl C X.env) fp) [] tt := fun s H C cl fp => ⟨fun pins s1 σ H1 Q I q => pts_nil.run pins s1 σ H1 Q I q⟩
  refine pe_imp (pe_lc (own := own) (tt := tt) (te := te) hc hN (RZ.pi_zipA hgz hm hi hs hpl) ok hg htt hte hfo) fun σ H Q ⟨H0, F, S, k⟩ => ?_
  refine ⟨H0, F, S, fun us H1 F1 g1 hu => ?_⟩
  match us, hu with
  | [v1, v2], ⟨⟨a1, xs, ev1, hx1, hx2⟩, ⟨a2, ys, ev2, hy1, hy2⟩, _⟩ =>
  subst ev1 ev2
  refine ⟨a1, a2, xs, ys, rfl, .inr ⟨SqT.of (g1.i a1 _ hx1), SqT.of (g1.i a2 _ hy1), fun D hD => ?_⟩⟩
  have lx : xs.length = l.length := by rw [hx2.length, List.length_map]
  have ly : ys.length = l.length := by rw [hy2.length, List.length_map]
  let St : Nat → Hp → Prop := fun i H' => ∃ F' acc, Gr F1 H1 F' H' ∧ F' D = none ∧ H' D = some (.lst acc) ∧ AllV F' acc ((l.take i).map g)
  refine ⟨fun i m H' => m = l.length - i ∧ i ≤ l.length ∧ St i H', ⟨l.length, by simp, Nat.zero_le _, F1, [], .newH g1.i hD, g1.i.none hD, upd_same, by simp [AllV]⟩, ?_⟩
  rintro i m H' ⟨rfl, hi', F', acc, G, fD, hDl, hall⟩
  have qx : SqT X.K H' a1 xs := SqT.of (G.i a1 _ (G.f a1 _ hx1))
  have qy : SqT X.K H' a2 ys := SqT.of (G.i a2 _ (G.f a2 _ hy1))
  by_cases hlt : i < l.length
  · have ha : l[i]? = some l[i] := List.getElem?_eq_getElem hlt
    obtain ⟨u1, hu1, hA1⟩ := hx2.get (i := i) (A := e1 l[i]) (by rw [List.getElem?_map, ha]; rfl)
    obtain ⟨u2, hu2, hA2⟩ := hy2.get (i := i) (A := e2 l[i]) (by rw [List.getElem?_map, ha]; rfl)
    have mem : l[i] ∈ l := List.getElem_mem hlt
    refine .inr ⟨⟨xs, ys, u1, u2, qx, qy, hu1, hu2⟩, St (i + 1), fun H2 p => ⟨l.length - (i + 1), by omega, rfl, hlt, p⟩, fun v H2 yl => ?_⟩
    obtain ⟨T, w1, w2, rfl, hT, rfl, f1, f2⟩ := yl
    have e1' : u1 = w1 := by have z := f1 xs qx; rw [hu1] at z; simpa using z
    have e2' : u2 = w2 := by have z := f2 ys qy; rw [hu2] at z; simpa using z
    subst e1' e2'
    have gT : Gr F' H' F' (upd H' T (.tup [u1, u2])) := .newH G.i hT
    have hDT : D ≠ T := fun z => by rw [← z, hDl] at hT; cases hT
    refine ⟨T, [u1, u2], rfl, SqT.of upd_same, rfl, u1, [u2], rfl, u2, [], rfl, rfl, ?_, ?_⟩
    · rw [wipe_setG hj2, wipe_setG hj1]
      have idem := wipe_setG (τ := L2.wipe σ vs) (x := some u1) hj1
      exact (wipe_setG (τ := L2.wipe σ vs) (x := some u1) hj1).symm.trans (wipe_set hj1)
    · show if true = true then _ else _
      rw [if_pos rfl]
      have GT := G.trans gT
      refine ⟨l[i], mem, H0, F', ((((S.gr g1).gr GT).wipe vs).set ((e1 l[i]).mono G.f hA1)).set ((e2 l[i]).mono G.f hA2), fun z H3 F3 g3 hz3 => ?_⟩
      have d2 : upd H' T (.tup [u1, u2]) D = some (.lst acc) := by rw [upd_ne hDT]; exact hDl
      have f3 : F3 D = none := g3.n D _ d2 fD
      have d3 : H3 D = some (.lst acc) := g3.h D _ d2
      have G3 := GT.trans g3
      refine ⟨acc, d3, ?_, F3, acc ++ [z], ⟨G3.f, fun b o q => ?_, fun b o q => ?_, G3.n⟩, f3, upd_same, ?_⟩
      · rw [hall.length, List.length_map, List.length_take]
        omega
      · rw [upd_ne (ne_of_none q hD)]
        exact G3.h b o q
      · rw [upd_ne (ne_of_none q f3)]
        exact G3.i b o q
      · rw [List.take_add_one, ha, List.map_append]
        exact (hall.mono g3.f).snoc hz3
  · have e : i = l.length := by omega
    subst e
    refine .inl ⟨⟨xs, ys, qx, qy, .inl (by omega)⟩, ?_⟩
    rw [List.take_length] at hall
    exact k D acc H' F' (g1.trans G) (g1.h.none hD) fD hDl hall
end
end Lk

set_option Elab.async false
set_option linter.all false
set_option maxRecDepth 100000
set_option maxHeartbeats 4000000
namespace Lk
open PySem PySem.Calls L2 PySem.Spec PyProof.Rows
section
variable {X : Cx} {e a b c o : Expr} {es : List Expr} {ρ : List En} {A B : As} {pos apos p1 : Pos} {k : Nat} {ι : Type} {pre : ι → Prop} {l : ι → List As} {oc : ι → Oc} {o1 : Oc} {ps : List Str} {C : Addr} {m x : Str} {fs gs : List (Str × As)} {la : List As} {w : WX}
theorem ex_is {o2 : Oc} (h : EX X e ρ o1 w) (i : o1 = o2) : EX X e ρ o2 w := i ▸ h
/-- calls that raise nothing, of defs that may -/
theorem ea_callX (D : DfX X.prog X.w X.K X.mg X.base k x ps (spO pre l oc)) (hr : Room k X.A) (i : ι) (hp : pre i) (hA : oc i = .ret A) (ha : EAs X (e :: es) ρ (l i)) (hg : Gl X x := by rfl)
    (hdb : (x == ("__debug__" : Str)) = false := by decide) (he : starEach (e :: es) X.env = (false, eval e X.env) :: starEach es X.env := by rfl) (hpl : (backTo pos (starEach es X.env)).any (·.1) = false := by rfl) : EA X (.Call (.Name x p1) (e :: es) [] pos) ρ A :=
  ea_ofX fun w tk => ex_is (ex_call D hr tk i hp ha hg hdb he hpl) hA
theorem ea_methX {pl : Sem Bool} (D : MfX X.prog X.w X.K X.mg X.base k C m ps (spO pre l oc)) (hr : Room k X.A) (hC : Cls X.K C) (i : ι) (hp : pre i) (hA : oc i = .ret A) (ho : EA X o ρ (insA C fs)) (hm : fs.lookup m = none) (ha : EAs X (e :: es) ρ la) (hl : l i = insA C fs :: la)
    (he : starEach (e :: es) X.env = (false, eval e X.env) :: starEach es X.env := by rfl) (hpl : (backTo pos (starEach es X.env)).any (·.1) = false := by rfl)
    (hev : eval (.Call (.Attribute o m apos) (e :: es) [] pos) X.env = (do
      let ov ← eval o X.env
      standAt apos.atName
      let (f, first) ← holding [ov] (getMethod ov m pl)
      callWith pos f first (backTo pos (starEach (e :: es) X.env)) (backToKw pos (keywordEach [] X.env))) := by rfl) : EA X (.Call (.Attribute o m apos) (e :: es) [] pos) ρ A :=
  ea_ofX fun w tk => ex_is (ex_meth D hr tk hC i hp ho hm ha hl he hpl hev) hA
theorem ea_makeX (D : MkX X.prog X.w X.K X.mg X.base k C x ps (spMO C pre l oc)) (hr : Room (k + 1) X.A) (i : ι) (hp : pre i) (hA : oc i = .ret A) (ha : EAs X (e :: es) ρ (l i)) (hg : Gl X x := by rfl)
    (hdb : (x == ("__debug__" : Str)) = false := by decide) (he : starEach (e :: es) X.env = (false, eval e X.env) :: starEach es X.env := by rfl) (hpl : (backTo pos (starEach es X.env)).any (·.1) = false := by rfl) : EA X (.Call (.Name x p1) (e :: es) [] pos) ρ A :=
  ea_ofX fun w tk => ex_is (ex_make D hr tk i hp ha hg hdb he hpl) hA
theorem ins_ref {F : Hp} {v : V} (h : (insA C fs).p F v) : ∃ r, v = .ref r := let ⟨a, _, _, e, _⟩ := h; ⟨a, e⟩
theorem ea_binX {op : Operator} {hs : List (Str × As)} (D : MfX X.prog X.w X.K X.mg X.base k C m ps (spO pre l oc)) (hmm : m = PySem.dunder op.info.2) (hsf : PySem.W.selfFirst X.K C = true) (hr : Room k X.A) (i : ι) (hp : pre i) (hA : oc i = .ret (insA C hs)) (ha : EA X a ρ (insA C fs)) (ho : EA X b ρ (insA C gs)) (hl : l i = [insA C fs, insA C gs]) : EA X (.BinOp a op b pos) ρ (insA C hs) :=
  ea_ofX fun w tk => ex_is (ex_bin D hmm hsf hr tk i hp ha ho hl (fun F v hv => by rw [hA] at hv; exact ins_ref hv)) hA
end
end Lk

set_option Elab.async false
set_option linter.all false
set_option maxRecDepth 100000
set_option maxHeartbeats 4000000
namespace Lk
open PySem PySem.Calls L2 PySem.Spec PyProof.Rows
section
variable {X : Cx} {a b : Expr} {ρ : List En} {l m : List As} {pos : Pos}
/-- tuples, whatever is in them -/
theorem ea_catA (ha : EA X a ρ (tupA l)) (hb : EA X b ρ (tupA m)) (hz : l.length + m.length ≤ sizeLine) : EA X (.BinOp a .Add b pos) ρ (tupA (l ++ m)) :=
  pe_imp (pe_op op_catA ha hb) fun σ H Q ⟨H0, F, S, k⟩ => ⟨H0, F, S, fun v H1 F1 g1 ⟨x, xs, e1, h1, h2⟩ => ⟨H0, F1, S.gr g1, fun u H2 F2 g2 ⟨y, ys, e2, h3, h4⟩ => by
    have h5 := h2.mono g2.f
    have g := g1.trans g2
    refine ⟨x, y, xs, ys, e1, e2, SqT.of (g2.h x _ (g1.i x _ h1)), SqT.of (g2.i y _ h3), by rw [h2.length, h4.length]; exact hz, fun z => ?_, fun _ z => ?_, fun _ _ p hp => ?_⟩
    · have hl : l = [] := List.length_eq_zero_iff.mp (by rw [← h5.length, z]; rfl)
      subst hl
      exact k _ H2 F2 g ⟨y, ys, rfl, h3, h4⟩
    · have hm : m = [] := List.length_eq_zero_iff.mp (by rw [← h4.length, z]; rfl)
      subst hm
      rw [List.append_nil] at k
      exact k _ H2 F2 g ⟨x, xs, rfl, g2.f x _ h1, h5⟩
    · exact k _ _ _ (g.trans (.new g.i hp)) ⟨p, _, rfl, upd_same, (h5.append h4).mono (Ex.new (g.i.none hp))⟩⟩⟩
end
end Lk

set_option Elab.async false
set_option linter.all false
set_option maxRecDepth 100000
set_option maxHeartbeats 4000000
namespace Lk
open PySem PySem.Calls L2 PySem.Spec PyProof.Rows NdefX
abbrev anyS : As := exA (fun _ : Str => True) str
theorem app_len (a b : Str) : (a ++ b).length = a.length + b.length := strLen_append a b
section
variable {X : Cx} {e : Expr} {ρ : List En} {pos p1 p2 : Pos} {m : Str} {j : Nat}
/-- f'..{i}' -/
theorem ea_fsI {i : Int} (he : EW X e ρ (int i)) (hi : i.natAbs.log2 < 1920) (hm : m.length ≤ 100000) : EA X (.JoinedStr [.Constant (.str m) j p1, .FormattedValue e (-1) none p2] pos) ρ anyS :=
  pe_imp (pe_joined (.cons (ea_str (ρ := ρ) (s := m)) (.cons (pe_fmt he) .nil))) fun σ H Q ⟨H0, F, S, q⟩ => ⟨H0, F, S, fun v H1 F1 g1 h1 => by
    have h1 : v = .str m := h1
    subst h1
    have z := int_text_len_1921 hi
    refine ⟨m, rfl, ?_, H0, F1, S.gr g1, fun v H2 F2 g2 h2 => ?_⟩
    · show (Str.empty ++ m).length ≤ sizeLine
      rw [app_len, sizeLine_eq]
      have : Str.empty.length = 0 := rfl
      omega
    · have h2 : v = .int i := h2
      subst h2
      refine .inr ⟨i, rfl, hi, _, rfl, ?_, q _ H2 F2 (g1.trans g2) ⟨_, trivial, rfl⟩⟩
      rw [app_len, app_len, sizeLine_eq]
      have : Str.empty.length = 0 := rfl
      omega⟩
/-- f'..{s!r}' -/
theorem ea_fsS {s : Str} (he : EW X e ρ (str s)) (hc : ∀ c ∈ s.cps.toList, c < 16 ^ 8) (hs : s.length ≤ 100000) (hm : m.length ≤ 100000) : EA X (.JoinedStr [.Constant (.str m) j p1, .FormattedValue e 114 none p2] pos) ρ anyS :=
  pe_imp (pe_joined (.cons (ea_str (ρ := ρ) (s := m)) (.cons (pe_fmtR he) .nil))) fun σ H Q ⟨H0, F, S, q⟩ => ⟨H0, F, S, fun v H1 F1 g1 h1 => by
    have h1 : v = .str m := h1
    subst h1
    have z := StrLaws.reprText_len s hc
    refine ⟨m, rfl, ?_, H0, F1, S.gr g1, fun v H2 F2 g2 h2 => ?_⟩
    · show (Str.empty ++ m).length ≤ sizeLine
      rw [app_len, sizeLine_eq]
      have : Str.empty.length = 0 := rfl
      omega
    · have h2 : v = .str s := h2
      subst h2
      refine .inl ⟨s, rfl, by rw [sizeLine_eq]; omega, _, rfl, ?_, q _ H2 F2 (g1.trans g2) ⟨_, trivial, rfl⟩⟩
      rw [app_len, app_len, sizeLine_eq]
      have : Str.empty.length = 0 := rfl
      omega⟩
end
end Lk

set_option Elab.async false
set_option linter.all false
set_option maxRecDepth 100000
set_option maxHeartbeats 4000000
namespace Lk
open PySem PySem.Calls L2 PySem.Spec PyProof.Rows
/-! ### d.setdefault(t, v), the keys tuples -/
section
variable {X : Cx} {pins : List (Addr × Obj)} {σ : L2.St} {H : Hp} {s : Shared} {a b : Addr} {r : Value} {d : V} {k : List Key} {A : Around} {E : Value → Shared → Prop}
theorem d_setdT {kvs : List (List Key × V)} {Q : Value → Shared → Prop} (hu : A.units + 1 < cLine) (I : Inv X pins σ H s) (e : H a = some (.dT kvs)) (eb : H b = some (.tup (k.map kV))) (rd : RelV d r) (hl : kvs.length < sizeLine)
    (h1 : ∀ v, valV kvs k = some v → ∀ (w' : Value) (s' : Shared), Inv X pins σ H s' → RelV v w' → Q w' s') (h2 : valV kvs k = none → ∀ (w' : Value) (s' : Shared), Inv X pins σ (upd H a (.dT (putK kvs k d))) s' → RelV d w' → Q w' s') :
    wpAny (model X.prog X.w) A (call (.builtin "dict.setdefault") [.ref a, .ref b, r]) Q E s := by
  obtain ⟨z, hd, xs, rel, dd⟩ := dt_of I.hok e
  have hz : xs.length ≤ sizeLine := by rw [← Paired.length rel]; exact z
  refine call_setdefault_heap (hsz := hz) (tupleKind_room_in1 hu) (key_of I.hok eb) hd dd (fun p hp => ?_) fun hn h' dd' hs => ?_
  · have q := rel.val k
    rw [hp] at q
    cases q0 : valV kvs k with
    | none =>
      rw [q0] at q
      exact (show False from q).elim
    | some v0 =>
      rw [q0] at q
      exact h1 v0 q0 _ _ (I.tok _) q
  · have q := rel.val k
    rw [hn] at q
    cases q0 : valV kvs k with
    | some v0 =>
      rw [q0] at q
      exact (show False from q).elim
    | none =>
      have hl2 : (putK kvs k d).length ≤ sizeLine := by
        have := length_putK kvs k d
        omega
      obtain ⟨q, es, ep, hq, h2', h3, h4, _, h5⟩ := dd'
      refine h2 q0 _ _ (d_write I (by rw [e]; exact True.intro) hs ⟨q, hq⟩ ⟨hl2, hd, _, (rel.put k eb rd).keeps fun c ys ec => ?_, q, es, ep, hq, h2', h3, h4, h5⟩) rd
      rw [upd_ne (ne_of ec e (fun z => nomatch z))]
      exact ec
end
def tDSetdT (td ty tx : TE) : TE := fun σ H Q => td σ H fun x H1 => ∃ a, x = .ref a ∧ IsD H1 a ∧ ty σ H1 fun y H2 => tx σ H2 fun z H3 => ∃ (kvs : List (List Key × V)) (k : List Key) (b : Addr), H3 a = some (.dT kvs) ∧ y = .ref b ∧ H3 b = some (.tup (k.map kV)) ∧ kvs.length < sizeLine ∧
  (∀ v, valV kvs k = some v → Q v H3) ∧ (valV kvs k = none → Q z (upd H3 a (.dT (putK kvs k z))))
section
variable {X : Cx} {o e f : Expr} {td ty tx : TE} {apos cpos : Pos}
theorem pe_dsetdT (hu : X.A.units + 1 < cLine) (ho : PE X o td) (he : PE X e ty) (hf : PE X f tx) (m : M2 X o "setdefault" apos e f cpos) : PE X (.Call (.Attribute o "setdefault" apos) [e, f] [] cpos) (tDSetdT td ty tx) := by
  refine ⟨fun pins s σ H Q I h => ?_⟩
  refine wpAny_Call_method m.base m.few m.line PySem.F.plainAttrs_dict PySem.F.slot_dict_setdefault PySem.F.type_dict_setdefault (thn (ho.run pins s σ H _ I h) fun u s1 ⟨x, H1, I1, rx, a, ex, d, q1⟩ => ?_)
  subst ex
  obtain rfl : u = Value.ref a := rx
  obtain ⟨t1, t2, _⟩ := isD_at I1 d
  refine ⟨t1, t2, ?_⟩
  rw [m.trees]
  refine Calls.callWith_builtin rfl (Calls.evalArgs_plain (Calls.spliced_cons (thn (he.run pins s1 σ H1 _ I1 q1) fun iv s2 ⟨y, H2, I2, ry, q2⟩ =>
    Calls.spliced_cons (thn (hf.run pins s2 σ H2 _ I2 q2) fun fv s3 ⟨z, H3, I3, rz, kvs, k, b, ea, ey, eb, hl, q3, q4⟩ => Calls.spliced_nil ?_))))
  subst ey
  cases (show iv = Value.ref b from ry)
  exact d_setdT hu I3 ea eb rz hl (fun v hv w' s4 I4 rw' => ⟨v, _, I4, rw', q3 v hv⟩) fun hn w' s4 I4 rw' => ⟨z, _, I4, rw', q4 hn⟩
end
/-! ### a list that stays one's own is read -/
/-- what is said holds also where a list is not looked at -/
def NoLst (A : As) : Prop := ∀ (F F' : Hp) (v : V), (∀ a o, F a = some o → (∀ xs, o ≠ .lst xs) → F' a = some o) → A.p F v → A.p F' v
theorem nl_sc {c : V} : NoLst (sc c) := fun _ _ _ _ h => h
theorem nl_all {F F' : Hp} (e : ∀ a o, F a = some o → (∀ xs, o ≠ .lst xs) → F' a = some o) : ∀ {vs : List V} {l : List As}, (∀ A ∈ l, NoLst A) → AllV F vs l → AllV F' vs l
  | [], [], _, h => h
  | _ :: _, A :: _, n, h => ⟨n A List.mem_cons_self F F' _ e h.1, nl_all e (fun B hB => n B (List.mem_cons_of_mem _ hB)) h.2⟩
  | [], _ :: _, _, h => h.elim
  | _ :: _, [], _, h => h.elim
theorem nl_tup {l : List As} (n : ∀ A ∈ l, NoLst A) : NoLst (tupA l) := fun F F' v e ⟨a, xs, ev, h1, h2⟩ => ⟨a, xs, ev, e a _ h1 (fun _ z => nomatch z), nl_all e n h2⟩
theorem nl_ins {C : Addr} {fs : List (Str × As)} (n : ∀ A ∈ fs.map Prod.snd, NoLst A) : NoLst (insA C fs) := fun F F' v e ⟨a, dx, vs, ev, h1, h2⟩ => ⟨a, dx, vs, ev, e a _ h1 (fun _ z => nomatch z), nl_all e n h2⟩
theorem nl_ex {ι : Type} {pre : ι → Prop} {f : ι → As} (n : ∀ i, NoLst (f i)) : NoLst (exA pre f) := fun F F' v e ⟨i, h, k⟩ => ⟨i, h, n i F F' v e k⟩
/-- the frozen part with an own list in it -/
theorem sat_bor {H0 F H : Hp} {σ : L2.St} {ρ : List En} {i : Nat} {l : List As} (S : Sat H0 F σ H ρ) (hi : ρ[i]? = some (.own l)) : ∃ p xs, F p = none ∧ H0 p = none ∧ H p = some (.lst xs) ∧ Sat H0 (upd F p (.lst xs)) σ H (ρ.set i (.fr (lstA l))) := by
  obtain ⟨p, xs, h1, h2, h3, h4, h5⟩ := S.own i l hi
  have ex : Ex F (upd F p (.lst xs)) := Ex.new h2
  have li : i < ρ.length := (List.getElem?_eq_some_iff.mp hi).1
  refine ⟨p, xs, h2, h3, h4, ⟨fun a o e => ?_, fun j A e => ?_, fun j m e => ?_, fun j k m n q e1 e2 m1 m2 s1 s2 => ?_, by rw [List.length_set]; exact S.len, fun j B e => ?_⟩⟩
  · by_cases hb : a = p
    · rw [hb, upd_same] at e
      rw [hb, h4]; exact e
    · rw [upd_ne hb] at e
      exact S.ex a o e
  · by_cases hj : i = j
    · subst hj
      rw [List.getElem?_set_self li] at e
      have e : lstA l = A := by simpa using e
      subst e
      exact ⟨_, h1, p, xs, rfl, upd_same, h5.mono ex⟩
    · rw [List.getElem?_set_ne hj] at e
      obtain ⟨v, a, b⟩ := S.fr j A e
      exact ⟨v, a, A.mono ex b⟩
  · by_cases hj : i = j
    · subst hj
      rw [List.getElem?_set_self li] at e
      cases e
    · rw [List.getElem?_set_ne hj] at e
      obtain ⟨q, ys, a, b, c, d, f⟩ := S.own j m e
      have hq : q ≠ p := fun z => hj (S.sep i j _ _ p hi e True.intro True.intro h1 (by rw [← z]; exact a))
      exact ⟨q, ys, a, by rw [upd_ne hq]; exact b, c, d, f.mono ex⟩
  · have at_ : ∀ {j : Nat} {y : En}, (ρ.set i (.fr (lstA l)))[j]? = some y → y.Mn → ρ[j]? = some y := fun {j y} e m => by
      by_cases hj : i = j
      · subst hj
        rw [List.getElem?_set_self li] at e
        have e : En.fr (lstA l) = y := by simpa using e
        rw [← e] at m
        exact m.elim
      · rw [List.getElem?_set_ne hj] at e
        exact e
    exact S.sep j k m n q (at_ e1 m1) (at_ e2 m2) m1 m2 s1 s2
  · by_cases hj : i = j
    · subst hj
      rw [List.getElem?_set_self li] at e
      cases e
    · rw [List.getElem?_set_ne hj] at e
      obtain ⟨q, o, a, b, c, d, f⟩ := S.ow j B e
      have hq : q ≠ p := fun z => hj (S.sep i j _ _ p hi e True.intro True.intro h1 (by rw [← z]; exact a))
      exact ⟨q, o, a, by rw [upd_ne hq]; exact b, c, d, B.mono ex f⟩
def cutF (F : Hp) (p : Addr) : Hp := fun a => if a = p then none else F a
theorem gr_bor {F H F1 H' : Hp} {p : Addr} {xs : List V} (hp : F p = none) (hH : H p = some (.lst xs)) (g : Gr (upd F p (.lst xs)) H F1 H') : Gr F H (cutF F1 p) H' ∧ ∀ a o, F1 a = some o → (∀ ys, o ≠ .lst ys) → cutF F1 p a = some o := by
  have fp : F1 p = some (.lst xs) := g.f p _ upd_same
  refine ⟨⟨fun a o e => ?_, g.h, fun a o e => ?_, fun a o e1 e2 => ?_⟩, fun a o e n => ?_⟩
  · have ne : a ≠ p := fun z => by rw [z, hp] at e; cases e
    unfold cutF
    rw [if_neg ne]
    exact g.f a o (by rw [upd_ne ne]; exact e)
  · unfold cutF at e
    by_cases hb : a = p
    · rw [if_pos hb] at e; cases e
    · rw [if_neg hb] at e
      exact g.i a o e
  · unfold cutF
    by_cases hb : a = p
    · rw [if_pos hb]
    · rw [if_neg hb]
      exact g.n a o e1 (by rw [upd_ne hb]; exact e2)
  · unfold cutF
    by_cases hb : a = p
    · rw [hb, fp] at e
      have e : HO.lst xs = o := by simpa using e
      exact absurd e.symm (n xs)
    · rw [if_neg hb]
      exact e
section
variable {X : Cx} {e : Expr} {ρ : List En} {A : As} {l : List As}
theorem ea_bor (i : Nat) (hi : ρ[i]? = some (.own l)) (h : EA X e (ρ.set i (.fr (lstA l))) A) (n : NoLst A) : EA X e ρ A :=
  pe_imp h fun σ H Q ⟨H0, F, S, q⟩ => by
    obtain ⟨p, xs, h1, h2, h3, T⟩ := sat_bor S hi
    refine ⟨H0, _, T, fun v H' F' g hv => ?_⟩
    obtain ⟨g2, k⟩ := gr_bor h1 h3 g
    exact q v H' _ g2 (n _ _ v k hv)
/-- the same for an expression that may raise -/
theorem ex_bor {o1 : Oc} {w : WX} (i : Nat) (hi : ρ[i]? = some (.own l)) (h : EX X e (ρ.set i (.fr (lstA l))) o1 w) (n : NoLst o1.R) (ne : ∀ (F F' : Hp) cls d, (∀ a o, F a = some o → (∀ xs, o ≠ .lst xs) → F' a = some o) → o1.E F cls d → o1.E F' cls d) : EX X e ρ o1 w :=
  pe_imp h fun σ H Q ⟨H0, F, S, q, qe⟩ => by
    obtain ⟨p, xs, h1, h2, h3, T⟩ := sat_bor S hi
    refine ⟨H0, _, T, fun v H' F' g hv => ?_, fun cls d H' F' g hv => ?_⟩
    · obtain ⟨g2, k⟩ := gr_bor h1 h3 g
      exact q v H' _ g2 (n _ _ v k hv)
    · obtain ⟨g2, k⟩ := gr_bor h1 h3 g
      exact qe cls d H' _ g2 (ne _ _ cls d k hv)
theorem ne_erX {C : Addr} {fs : List (Str × As)} (n : ∀ A ∈ fs.map Prod.snd, NoLst A) (F F' : Hp) (cls : Value) (d : Option Addr) (k : ∀ a o, F a = some o → (∀ xs, o ≠ .lst xs) → F' a = some o) (h : erX C fs F cls d) : erX C fs F' cls d := by
  refine ⟨h.1, ?_⟩
  have h := h.2
  cases d with
  | none => exact h
  | some dd =>
    obtain ⟨vs, h1, h2⟩ := h
    exact ⟨vs, k dd _ h1 (fun _ z => nomatch z), nl_all k n h2⟩
end
end Lk

set_option Elab.async false
set_option linter.all false
set_option maxRecDepth 100000
set_option maxHeartbeats 4000000
namespace Lk
open PySem PySem.Calls L2 PySem.Spec PyProof.Rows
abbrev rIns : V → List V → Hp → VK → Prop := fun x vs H Q => ∃ (l : Addr) (xs : List V) (i : Int) (y : V), x = .ref l ∧ vs = [.int i, y] ∧ H l = some (.lst xs) ∧ xs.length < sizeLine ∧ 0 ≤ i ∧ i < 2 ^ 63 ∧ Q .non (upd H l (.lst (xs.take i.toNat ++ [y] ++ xs.drop i.toNat)))
section
variable {X : Cx} {e f a b : Expr} {ρ : List En} {A B : As} {l : List As} {pos : Pos} {Nx : List En → Prop} {W : Wn}
theorem pe_ins (i : Nat) {x : Str} {px apos cpos : Pos} {z : Int} (he : EA X e ρ (int z)) (hf : EA X f ρ A) (hN : X.N[i]? = some x := by rfl) (hv : Vis X.env.scope x := by first | exact Or.inl rfl | exact Or.inr (Or.inl rfl) | exact Or.inr (Or.inr rfl)) (hd : (x == ("__debug__" : Str)) = false := by decide) (hcd : (x == ("__classdict__" : Str)) = false := by decide)
    (hbase : attributeBase (.Name x px) "insert" X.env (eval (.Name x px) X.env) = eval (.Name x px) X.env := by rfl)
    (hfew : ((backTo cpos (starEach [e, f] X.env)).all (fun x => !x.1) && (backToKw cpos (keywordEach [] X.env)).all (fun x => x.1.isSome) && decide ([e, f].length + ([] : List Keyword).length + (if ([] : List Keyword).isEmpty then 0 else 1) < 30)) = true := by rfl)
    (hline : (apos.endLine == cpos.line) = true := by rfl) (hs : starEach [e, f] X.env = (false, eval e X.env) :: starEach [f] X.env := by rfl) (hs2 : starEach [f] X.env = (false, eval f X.env) :: starEach [] X.env := by rfl) (hplain : (backTo cpos (starEach [f] X.env)).any (·.1) = false := by rfl) :
    PE X (.Call (.Attribute (.Name x px) "insert" apos) [e, f] [] cpos) (tBM X.K "list" rIns (tVar i) (tCons (tA ρ (int z)) (tCons (tA ρ A) tNil))) :=
  pe_bm PySem.F.plainAttrs_list PySem.F.slot_list_insert PySem.F.type_list_insert mt_insert (pe_var hN hv hd hcd) (pa_cons he (pa_cons hf pa_nil hs2) hs) hbase hfew hline hs hplain
/-- x.insert(z, e), x a list of one's own -/
theorem sa_ins (i : Nat) {z : Int} (hr : ρ[i]? = some (En.own l)) (hb : PE X e (tBM X.K "list" rIns (tVar i) (tCons (tA ρ (int z)) (tCons (tA ρ A) tNil)))) (hz : l.length < sizeLine) (h0 : 0 ≤ z) (h1 : z < 2 ^ 63) (k : Nx (ρ.set i (.own (l.take z.toNat ++ [A] ++ l.drop z.toNat)))) (hsw : swapsWith e none pos.line X.env = pure false := by rfl) :
    SA X (.Expr e pos) ρ Nx W := by
  refine ps_imp (ps_expr hb hsw) fun D σ H ⟨F0, H0, F, g, S, q, _⟩ => ?_
  obtain ⟨p, xs, e1, h2, h3, h4, h5⟩ := S.own i l hr
  refine ⟨_, e1, .inl ⟨rfl, _, SqL.of h4⟩, H0, F, S, fun v H1 F1 g1 hv => ⟨H0, F1, S.gr g1, fun u H' F' g' hu => ?_⟩⟩
  have hv : v = .int z := hv
  subst hv
  have g2 := (g.trans g1).trans g'
  refine ⟨p, xs, z, u, rfl, rfl, g'.h p _ (g1.h p _ h4), by rw [h5.length]; exact hz, h0, h1, ?_⟩
  have hx := (h5.mono g1.f).mono g'.f
  obtain ⟨g3, S3⟩ := sat_wr g2 ((S.gr g1).gr g') hr e1 (((hx.take z.toNat).append (.one hu)).append (hx.drop z.toNat))
  exact q _ σ _ F' k g3 S3
/-- x, y = e -/
theorem sa_unp2 (i j : Nat) {x y : Str} {px py pt : Pos} {kt : Nat} (hc : X.calm = true) (hN : X.N.Nodup) (he : EA X e ρ (tupA [A, B])) (k : Nx ((ρ.set i (.fr A)).set j (.fr B))) (hi : X.N[i]? = some x := by rfl) (hj : X.N[j]? = some y := by rfl)
    (hx : Loc X.env.scope x := by first | exact .inl rfl | exact .inr rfl) (hy : Loc X.env.scope y := by first | exact .inl rfl | exact .inr rfl) (hfx : X.fn x = true ∨ X.env.scope.names.lookup x = some .local := by first | exact .inl rfl | exact .inr rfl) (hfy : X.fn y = true ∨ X.env.scope.names.lookup y = some .local := by first | exact .inl rfl | exact .inr rfl)
    (hs : swapsWithSole [.Tuple [.Name x px, .Name y py] kt pt] e pos.line X.env = pure false := by rfl) (hw : swappedStores [.Tuple [.Name x px, .Name y py] kt pt] e X.env = pure none := by rfl)
    (h1 : (assignEach [.Tuple [.Name x px, .Name y py] kt pt] X.env).map (·.2) = [assign (.Tuple [.Name x px, .Name y py] kt pt) X.env] := by rfl)
    (hn : (assignEach [.Name x px, .Name y py] X.env).length = 2 := by rfl) (hst : (assignEach [.Name x px, .Name y py] X.env).findIdx? (·.1) = none := by rfl) : SA X (.Assign [.Tuple [.Name x px, .Name y py] kt pt] e pos) ρ Nx W :=
  ps_imp (ps_asg he (pg_tup hc (pgs_cons (pg_name hN hi hx hfx) (pgs_cons (pg_name hN hj hy hfy) pgs_nil)) hn hst) hs hw h1) fun D σ H ⟨F0, H0, F, g, S, q, _⟩ => ⟨H0, F, S, fun v H' F' g' ⟨p, xs, ev, hp, hv⟩ => by
    match xs, hv with
    | [u1, u2], hv =>
      obtain ⟨v1, v2, _⟩ := hv
      refine ⟨p, [u1, u2], ev, SqT.of (g'.i p _ hp), rfl, ?_⟩
      exact ⟨u1, [u2], rfl, u2, [], rfl, rfl, q _ _ H' F' k (g.trans g') (((S.gr g').set v1).set v2)⟩⟩
theorem inV_ints (s : Int) : ∀ l : List Int, inV (.int s) (l.map V.int) = decide (s ∈ l)
  | [] => by simp [inV]
  | t :: l => by
    have ih := inV_ints s l
    unfold inV at ih ⊢
    rw [List.map_cons, List.any_cons, ih]
    rw [Bool.eq_iff_iff]
    simp only [Bool.or_eq_true, decide_eq_true_eq, List.mem_cons, eqV, beq_iff_eq]
    exact or_congr_left ⟨fun h => h.symm, fun h => h.symm⟩
theorem ints_at {F : Hp} {v : V} {l : List Int} (h : (tupA (l.map int)).p F v) : ∃ b, v = .ref b ∧ F b = some (.tup (l.map V.int)) := by
  obtain ⟨b, xs, e, h1, h2⟩ := h
  have e2 : xs = l.map V.int := AllV.scs (cs := l.map V.int) (by rw [List.map_map]; exact h2)
  exact ⟨b, e, by rw [h1, e2]⟩
theorem cm_inTi {s : Int} {l : List Int} : Cm X .In (int s) (tupA (l.map int)) (decide (s ∈ l)) := ⟨_, op_in_seq, fun x y H Q p q z => by
  have p : x = .int s := p
  subst p
  obtain ⟨b, rfl, hb⟩ := ints_at q
  refine ⟨b, l.map V.int, rfl, .inr (SqT.of hb), rfl, ?_, ?_⟩
  · rw [List.all_map]
    exact List.all_eq_true.mpr fun _ _ => rfl
  · show Q (.bl (if false = true then _ else _)) H
    rw [if_neg Bool.false_ne_true, inV_ints]
    exact z⟩
end
theorem ea_callAB {X : Cx} {e : Expr} {es : List Expr} {ρ : List En} {pos : Pos} {k : Nat} {x : Str} {ps : List Str} {ι : Type} {pre : ι → Prop} {l : ι → List As} {A : ι → As} {B : As} {p : Pos} (D : DfA X.prog X.w X.K X.mg X.base k x ps (spX pre l A)) (hr : L2H.RoomH k X.A) (i : ι) (hp : pre i) (hA : A i = B) (ha : EAs X (e :: es) ρ (l i)) (hg : Gl X x := by rfl)
    (hdb : (x == ("__debug__" : Str)) = false := by decide) (he : starEach (e :: es) X.env = (false, eval e X.env) :: starEach es X.env := by rfl) (hpl : (backTo pos (starEach es X.env)).any (·.1) = false := by rfl) : EA X (.Call (.Name x p) (e :: es) [] pos) ρ B :=
  hA ▸ ea_callA D hr i hp ha hg hdb he hpl
end Lk

set_option Elab.async false
set_option linter.all false
set_option maxRecDepth 100000
set_option maxHeartbeats 4000000
namespace Lk
open PySem PySem.Calls L2 PySem.Spec PyProof.Rows
section
variable {X : Cx} {e a b : Expr} {es : List Expr} {ρ : List En} {A : As} {l la lb : List As} {pos : Pos}
theorem ea_neg {i : Int} (h : EW X e ρ (int i)) : EA X (.UnaryOp .USub e pos) ρ (int (-i)) :=
  pe_imp (pe_un un_neg h) fun σ H Q ⟨H0, F, S, k⟩ => ⟨H0, F, S, fun v H1 F1 g1 h1 => ⟨i, h1, k _ H1 F1 g1 rfl⟩⟩
/-- the last one -/
theorem ea_lastSq {q : Bool} (ha : EA X a ρ (sq q (l ++ [A]))) (hb : EW X b ρ (int (-1))) (hs : PlainIx b := by exact fun _ _ => rfl) : EA X (.Subscript a b pos) ρ A := by
  cases q with
  | true =>
    refine pe_imp (pe_ix ix_list ha hb hs) fun σ H Q ⟨H0, F, S, k⟩ => ⟨H0, F, S, fun x H1 F1 g1 ⟨p, xs, e0, h1, h2⟩ => ⟨H0, F1, S.gr g1, fun y H2 F2 g2 h3 => ?_⟩⟩
    have h3 : y = .int (-1) := h3
    subst h3
    have hl := h2.length
    obtain ⟨v, e1, e2⟩ := h2.get (i := l.length) (A := A) (by simp)
    have e0' : xs = xs.take l.length ++ [v] := by
      rw [List.length_append, List.length_singleton] at hl
      obtain ⟨hlt, hv⟩ := List.getElem?_eq_some_iff.mp e1
      have z := List.take_append_drop l.length xs
      rw [List.drop_eq_getElem_cons hlt, List.drop_of_length_le (by omega), hv] at z
      exact z.symm
    exact ⟨p, xs, -1, v, e0, rfl, SqL.of (g2.h p _ (g1.i p _ h1)), by rw [e0']; exact atI_last _ _, k v H2 F2 (g1.trans g2) (A.mono g2.f e2)⟩
  | false =>
    refine pe_imp (pe_ix ix_tup ha hb hs) fun σ H Q ⟨H0, F, S, k⟩ => ⟨H0, F, S, fun x H1 F1 g1 ⟨p, xs, e0, h1, h2⟩ => ⟨H0, F1, S.gr g1, fun y H2 F2 g2 h3 => ?_⟩⟩
    have h3 : y = .int (-1) := h3
    subst h3
    have hl := h2.length
    obtain ⟨v, e1, e2⟩ := h2.get (i := l.length) (A := A) (by simp)
    have e0' : xs = xs.take l.length ++ [v] := by
      rw [List.length_append, List.length_singleton] at hl
      obtain ⟨hlt, hv⟩ := List.getElem?_eq_some_iff.mp e1
      have z := List.take_append_drop l.length xs
      rw [List.drop_eq_getElem_cons hlt, List.drop_of_length_le (by omega), hv] at z
      exact z.symm
    exact ⟨p, xs, -1, v, e0, rfl, SqT.of (g2.h p _ (g1.i p _ h1)), by rw [e0']; exact atI_last _ _, k v H2 F2 (g1.trans g2) (A.mono g2.f e2)⟩
theorem cut_drop (k : Nat) : cutA l (some (k : Int)) none = l.drop k := cutA_drop
/-- xs[1:], xs not empty -/
theorem ea_sl1 {q : Bool} {lo : Expr} {p2 : Pos} (ha : EA X a ρ (sq q (A :: l))) (h1 : EW X lo ρ (int 1)) : EA X (.Subscript a (.Slice (some lo) none none p2) pos) ρ (sq q l) := by
  have e : cutA (A :: l) (some 1) none = l := cut_drop 1
  cases q with
  | true => exact en_a (en_is (en_slL (ea_l ha) (eo_some h1) eo_none) e)
  | false => exact ea_is (ea_slT ha (eo_some h1) eo_none (by
      show ¬ (HT.sIx (A :: l).length 0 (some ((1 : Nat) : Int)) = 0 ∧ _)
      rw [HT.sIx_nat, List.length_cons]
      omega)) (by rw [e]; rfl)
/-- ( .., *t, ..), t a list -/
theorem eas_starL (he : EA X e ρ (lstA la)) (hr : EAs X es ρ lb) {sp : Pos} (hs : starEach (.Starred e sp :: es) X.env = (true, eval e X.env) :: starEach es X.env := by rfl) : EAs X (.Starred e sp :: es) ρ (la ++ lb) :=
  pa_imp (StX.pa_star he hr hs) fun σ H Q ⟨H0, F, S, q⟩ => ⟨H0, F, S, fun v H1 F1 g1 ⟨p, xs, ev, h1, h2⟩ => ⟨p, xs, ev, .inr (SqL.of (g1.i p _ h1)), H0, F1, S.gr g1, fun vs H2 F2 g2 hv => q _ H2 F2 (g1.trans g2) ((h2.mono g2.f).append hv)⟩⟩
end
/-! ### [.. for a, b in zip(x, y)], lists or tuples of any lengths -/
section
variable {α : Type} {X : Cx} {ρ : List En} {pos : Pos} {elt a b : Expr} {scope : Scope}
def teZ (ρ : List En) (vs : List Nat) (j1 j2 : Nat) (l : List α) (e1 e2 g : α → As) : TE := fun σ H Q => ∃ x, x ∈ l ∧ tA (((wipeE ρ vs).set j1 (.fr (e1 x))).set j2 (.fr (e2 x))) (g x) σ H Q
theorem tlc_zip2 {vs : List Nat} {j1 j2 : Nat} {q : Bool} {la lb : List As} {l : List α} {e1 e2 : α → As} {g : α → As} {σ : L2.St} {H : Hp} {Q : VK} (h1 : ∀ (i : Nat) (x : α), l[i]? = some x → la[i]? = some (e1 x)) (h2 : ∀ (i : Nat) (x : α), l[i]? = some x → lb[i]? = some (e2 x)) (hl : la.length = l.length ∨ lb.length = l.length) (hz : l.length < sizeLine) (hj1 : j1 ∈ vs) (hj2 : j2 ∈ vs) (h : tN ρ (l.map g) σ H Q) :
    tLc (RZ.iZipA X.K (tAs ρ [sq q la, sq q lb])) (gTup X.K 2 (gCons (gName j1) (gCons (gName j2) gNil))) (fun _ H Q => Q true H) (teZ ρ vs j1 j2 l e1 e2 g) vs σ H Q := by
  obtain ⟨H0, F, S, k⟩ := h
  let ρe : α → List En := fun x => ((wipeE ρ vs).set j1 (.fr (e1 x))).set j2 (.fr (e2 x))
  refine ⟨H0, F, S, fun us H1 F1 g1 hu => ?_⟩
  match us, hu with
  | [v1, v2], ⟨hA, hB, _⟩ =>
  obtain ⟨a1, xs, ev1, hx2, a2, ys, ev2, hy2, fx, fy⟩ : ∃ a1 xs, v1 = .ref a1 ∧ AllV F1 xs la ∧ ∃ a2 ys, v2 = .ref a2 ∧ AllV F1 ys lb ∧ (F1 a1 = some (if q then .lst xs else .tup xs)) ∧ F1 a2 = some (if q then .lst ys else .tup ys) := by
    cases q with
    | true =>
      obtain ⟨a1, xs, e1, h1, h2⟩ := hA
      obtain ⟨a2, ys, e2, h3, h4⟩ := hB
      exact ⟨a1, xs, e1, h2, a2, ys, e2, h4, h1, h3⟩
    | false =>
      obtain ⟨a1, xs, e1, h1, h2⟩ := hA
      obtain ⟨a2, ys, e2, h3, h4⟩ := hB
      exact ⟨a1, xs, e1, h2, a2, ys, e2, h4, h1, h3⟩
  subst ev1 ev2
  have lx := hx2.length
  have ly := hy2.length
  have le1 : l.length ≤ la.length := by
    by_cases h : l.length = 0
    · omega
    · have z := h1 (l.length - 1) l[l.length - 1] (List.getElem?_eq_getElem (by omega))
      have := (List.getElem?_eq_some_iff.mp z).1
      omega
  have le2 : l.length ≤ lb.length := by
    by_cases h : l.length = 0
    · omega
    · have z := h2 (l.length - 1) l[l.length - 1] (List.getElem?_eq_getElem (by omega))
      have := (List.getElem?_eq_some_iff.mp z).1
      omega
  -- one turn, whichever the kind
  have turn : ∀ (D : Addr) (i : Nat) (H' F' : Hp) (acc : List V) (u1 u2 : V) (T : Addr) (hlt : i < l.length), H1 D = none → Gr F1 H1 F' H' → F' D = none → H' D = some (.lst acc) → AllV F' acc ((l.take i).map g) → xs[i]? = some u1 → ys[i]? = some u2 → H' T = none →
      ∀ (QQ : Hp → Prop), (∀ H2, (∃ F2 acc2, Gr F1 H1 F2 H2 ∧ F2 D = none ∧ H2 D = some (.lst acc2) ∧ AllV F2 acc2 ((l.take (i + 1)).map g)) → QQ H2) →
      ∃ x, x ∈ l ∧ tA (ρe x) (g x) (((L2.wipe σ vs).set j1 (some u1)).set j2 (some u2)) (upd H' T (.tup [u1, u2])) (fun z H3 => ∃ acc', H3 D = some (.lst acc') ∧ acc'.length < sizeLine ∧ QQ (upd H3 D (.lst (acc' ++ [z])))) := by
    intro D i H' F' acc u1 u2 T hlt hD G fD hDl hall e1' e2' hT QQ hQ
    have ha : l[i]? = some l[i] := List.getElem?_eq_getElem hlt
    obtain ⟨w1, hw1, hA1⟩ := hx2.get (i := i) (h1 i _ ha)
    obtain ⟨w2, hw2, hA2⟩ := hy2.get (i := i) (h2 i _ ha)
    rw [e1'] at hw1
    rw [e2'] at hw2
    have hw1 : u1 = w1 := by simpa using hw1
    have hw2 : u2 = w2 := by simpa using hw2
    subst hw1 hw2
    have gT : Gr F' H' F' (upd H' T (.tup [u1, u2])) := .newH G.i hT
    have hDT : D ≠ T := fun z => by rw [← z, hDl] at hT; cases hT
    have GT := G.trans gT
    refine ⟨l[i], List.getElem_mem hlt, H0, F', ((((S.gr g1).gr GT).wipe vs).set ((e1 l[i]).mono G.f hA1)).set ((e2 l[i]).mono G.f hA2), fun z H3 F3 g3 hz3 => ?_⟩
    have d2 : upd H' T (.tup [u1, u2]) D = some (.lst acc) := by rw [upd_ne hDT]; exact hDl
    have f3 : F3 D = none := g3.n D _ d2 fD
    have d3 : H3 D = some (.lst acc) := g3.h D _ d2
    have G3 := GT.trans g3
    refine ⟨acc, d3, ?_, hQ _ ⟨F3, acc ++ [z], ⟨G3.f, fun b o q => ?_, fun b o q => ?_, G3.n⟩, f3, upd_same, ?_⟩⟩
    · rw [hall.length, List.length_map, List.length_take]
      omega
    · rw [upd_ne (ne_of_none q hD)]
      exact G3.h b o q
    · rw [upd_ne (ne_of_none q f3)]
      exact G3.i b o q
    · rw [List.take_add_one, ha, List.map_append]
      exact (hall.mono g3.f).snoc hz3
  cases q with
  | true =>
    have fx : F1 a1 = some (.lst xs) := fx
    have fy : F1 a2 = some (.lst ys) := fy
    refine ⟨a1, a2, xs, ys, rfl, .inl ⟨SqL.of (g1.i a1 _ fx), SqL.of (g1.i a2 _ fy), fun D hD => ?_⟩⟩
    let St : Nat → Hp → Prop := fun i H' => ∃ F' acc, Gr F1 H1 F' H' ∧ F' D = none ∧ H' D = some (.lst acc) ∧ AllV F' acc ((l.take i).map g)
    refine ⟨fun i m H' => m = l.length - i ∧ i ≤ l.length ∧ St i H', ⟨l.length, by simp, Nat.zero_le _, F1, [], .newH g1.i hD, g1.i.none hD, upd_same, by simp [AllV]⟩, ?_⟩
    rintro i m H' ⟨rfl, hi', F', acc, G, fD, hDl, hall⟩
    have qx : SqL X.K H' a1 xs := SqL.of (G.i a1 _ (G.f a1 _ fx))
    have qy : SqL X.K H' a2 ys := SqL.of (G.i a2 _ (G.f a2 _ fy))
    by_cases hlt : i < l.length
    · have ha : l[i]? = some l[i] := List.getElem?_eq_getElem hlt
      obtain ⟨u1, hu1, hA1⟩ := hx2.get (i := i) (h1 i _ ha)
      obtain ⟨u2, hu2, hA2⟩ := hy2.get (i := i) (h2 i _ ha)
      refine .inr ⟨⟨xs, ys, u1, u2, qx, qy, hu1, hu2⟩, St (i + 1), fun H2 p => ⟨l.length - (i + 1), by omega, rfl, hlt, p⟩, fun v H2 yl => ?_⟩
      obtain ⟨T, w1, w2, rfl, hT, rfl, f1, f2⟩ := yl
      have e1' : u1 = w1 := by have z := f1 xs qx; rw [hu1] at z; simpa using z
      have e2' : u2 = w2 := by have z := f2 ys qy; rw [hu2] at z; simpa using z
      subst e1' e2'
      refine ⟨T, [u1, u2], rfl, SqT.of upd_same, rfl, u1, [u2], rfl, u2, [], rfl, rfl, ?_, ?_⟩
      · rw [wipe_setG hj2, wipe_setG hj1]
        have idem := wipe_setG (τ := L2.wipe σ vs) (x := some u1) hj1
        exact (wipe_setG (τ := L2.wipe σ vs) (x := some u1) hj1).symm.trans (wipe_set hj1)
      · show if true = true then _ else _
        rw [if_pos rfl]
        obtain ⟨x, hx, H0', F2, S2, k2⟩ := turn D i H' F' acc u1 u2 T hlt hD G fD hDl hall hu1 hu2 hT (St (i + 1)) (fun H2 h => h)
        exact ⟨x, hx, H0', F2, S2, fun z H3 F3 g3 hz3 => k2 z H3 F3 g3 hz3⟩
    · have e : i = l.length := by omega
      subst e
      refine .inl ⟨⟨xs, ys, qx, qy, by omega⟩, ?_⟩
      rw [List.take_length] at hall
      exact k D acc H' F' (g1.trans G) (g1.h.none hD) fD hDl hall
  | false =>
    have fx : F1 a1 = some (.tup xs) := fx
    have fy : F1 a2 = some (.tup ys) := fy
    refine ⟨a1, a2, xs, ys, rfl, .inr ⟨SqT.of (g1.i a1 _ fx), SqT.of (g1.i a2 _ fy), fun D hD => ?_⟩⟩
    let St : Nat → Hp → Prop := fun i H' => ∃ F' acc, Gr F1 H1 F' H' ∧ F' D = none ∧ H' D = some (.lst acc) ∧ AllV F' acc ((l.take i).map g)
    refine ⟨fun i m H' => m = l.length - i ∧ i ≤ l.length ∧ St i H', ⟨l.length, by simp, Nat.zero_le _, F1, [], .newH g1.i hD, g1.i.none hD, upd_same, by simp [AllV]⟩, ?_⟩
    rintro i m H' ⟨rfl, hi', F', acc, G, fD, hDl, hall⟩
    have qx : SqT X.K H' a1 xs := SqT.of (G.i a1 _ (G.f a1 _ fx))
    have qy : SqT X.K H' a2 ys := SqT.of (G.i a2 _ (G.f a2 _ fy))
    by_cases hlt : i < l.length
    · have ha : l[i]? = some l[i] := List.getElem?_eq_getElem hlt
      obtain ⟨u1, hu1, hA1⟩ := hx2.get (i := i) (h1 i _ ha)
      obtain ⟨u2, hu2, hA2⟩ := hy2.get (i := i) (h2 i _ ha)
      refine .inr ⟨⟨xs, ys, u1, u2, qx, qy, hu1, hu2⟩, St (i + 1), fun H2 p => ⟨l.length - (i + 1), by omega, rfl, hlt, p⟩, fun v H2 yl => ?_⟩
      obtain ⟨T, w1, w2, rfl, hT, rfl, f1, f2⟩ := yl
      have e1' : u1 = w1 := by have z := f1 xs qx; rw [hu1] at z; simpa using z
      have e2' : u2 = w2 := by have z := f2 ys qy; rw [hu2] at z; simpa using z
      subst e1' e2'
      refine ⟨T, [u1, u2], rfl, SqT.of upd_same, rfl, u1, [u2], rfl, u2, [], rfl, rfl, ?_, ?_⟩
      · rw [wipe_setG hj2, wipe_setG hj1]
        have idem := wipe_setG (τ := L2.wipe σ vs) (x := some u1) hj1
        exact (wipe_setG (τ := L2.wipe σ vs) (x := some u1) hj1).symm.trans (wipe_set hj1)
      · show if true = true then _ else _
        rw [if_pos rfl]
        obtain ⟨x, hx, H0', F2, S2, k2⟩ := turn D i H' F' acc u1 u2 T hlt hD G fD hDl hall hu1 hu2 hT (St (i + 1)) (fun H2 h => h)
        exact ⟨x, hx, H0', F2, S2, fun z H3 F3 g3 hz3 => k2 z H3 F3 g3 hz3⟩
    · have e : i = l.length := by omega
      subst e
      refine .inl ⟨⟨xs, ys, qx, qy, by omega⟩, ?_⟩
      rw [List.take_length] at hall
      exact k D acc H' F' (g1.trans G) (g1.h.none hD) fD hDl hall
theorem en_lcZ2 {own : List (Str × Nat)} (j1 j2 : Nat) {x1 x2 : Str} {px1 px2 p1 p2 tp : Pos} {kk : Nat} {q : Bool} {la lb : List As} {l : List α} {e1 e2 : α → As} {g : α → As} (hc : X.calm = true) (hN : X.N.Nodup) (hm : X.mg "zip" = none) (hi : EAs X [a, b] ρ [sq q la, sq q lb])
    (h1 : ∀ (i : Nat) (x : α), l[i]? = some x → la[i]? = some (e1 x)) (h2 : ∀ (i : Nat) (x : α), l[i]? = some x → lb[i]? = some (e2 x)) (hl : la.length = l.length ∨ lb.length = l.length) (hz : l.length < sizeLine) (ok : BlkOk X.N X.env.scope scope own)
    (hg : ∀ (s : Shared) (H : Hp) (C : Addr) (cl : List (Str × Addr)) (fp : List Addr), PG (X.blk s H scope (compEnvC scope cl C X.env) fp) (.Tuple [.Name x1 px1, .Name x2 px2] kk tp) (gTup X.K 2 (gCons (gName j1) (gCons (gName j2) gNil))))
    (he : ∀ (s : Shared) (H : Hp) (C : Addr) (cl : List (Str × Addr)) (fp : List Addr), ∀ x ∈ l, EA (X.blk s H scope (compEnvC scope cl C X.env) fp) elt (((wipeE ρ (own.map (·.2))).set j1 (.fr (e1 x))).set j2 (.fr (e2 x))) (g x))
    (hj1 : j1 ∈ own.map (·.2) := by decide) (hj2 : j2 ∈ own.map (·.2) := by decide) (hgz : Gl X "zip" := by rfl)
    (hs : starEach [a, b] X.env = (false, eval a X.env) :: starEach [b] X.env := by rfl) (hpl : (backTo p2 (starEach [b] X.env)).any (·.1) = false := by rfl) (hfo : ∀ z, foldedSetIterable (.Call (.Name "zip" p1) [a, b] [] p2) X.env z = pure z := by intro _; rfl) :
    EN X (.ListComp elt [⟨.Tuple [.Name x1 px1, .Name x2 px2] kk tp, .Call (.Name "zip" p1) [a, b] [] p2, [], 0⟩] scope pos) ρ (l.map g) :=
  pe_imp (pe_lc (own := own) (tt := fun _ H Q => Q true H) (te := teZ ρ (own.map (·.2)) j1 j2 l e1 e2 g) hc hN (RZ.pi_zipA hgz hm hi hs hpl) ok hg (fun s H C cl fp => ⟨fun pins s1 σ H1 Q I q => pts_nil.run pins s1 σ H1 Q I q⟩) (fun s H C cl fp => ⟨fun pins s1 σ H1 Q I ⟨x, hx, q⟩ => (he s H C cl fp x hx).run pins s1 σ H1 Q I q⟩) hfo) fun σ H Q h => tlc_zip2 h1 h2 hl hz hj1 hj2 h
theorem sa_setLcZ2 {own : List (Str × Nat)} (i j1 j2 : Nat) {y : Str} {py spos : Pos} {Nx : List En → Prop} {W : Wn} {x1 x2 : Str} {px1 px2 p1 p2 tp : Pos} {kk : Nat} {q : Bool} {la lb : List As} {l : List α} {e1 e2 : α → As} {g : α → As} (hc : X.calm = true) (hN : X.N.Nodup) (hm : X.mg "zip" = none) (hi : EAs X [a, b] ρ [sq q la, sq q lb])
    (h1 : ∀ (i : Nat) (x : α), l[i]? = some x → la[i]? = some (e1 x)) (h2 : ∀ (i : Nat) (x : α), l[i]? = some x → lb[i]? = some (e2 x)) (hl : la.length = l.length ∨ lb.length = l.length) (hz : l.length < sizeLine) (ok : BlkOk X.N X.env.scope scope own)
    (hg : ∀ (s : Shared) (H : Hp) (C : Addr) (cl : List (Str × Addr)) (fp : List Addr), PG (X.blk s H scope (compEnvC scope cl C X.env) fp) (.Tuple [.Name x1 px1, .Name x2 px2] kk tp) (gTup X.K 2 (gCons (gName j1) (gCons (gName j2) gNil))))
    (he : ∀ (s : Shared) (H : Hp) (C : Addr) (cl : List (Str × Addr)) (fp : List Addr), ∀ x ∈ l, EA (X.blk s H scope (compEnvC scope cl C X.env) fp) elt (((wipeE ρ (own.map (·.2))).set j1 (.fr (e1 x))).set j2 (.fr (e2 x))) (g x))
    (k : Nx (ρ.set i (.own (l.map g)))) (hy : X.N[i]? = some y := by rfl) (hyl : X.env.scope.names.lookup y = some .local := by rfl)
    (hsw : swapsWith (.ListComp elt [⟨.Tuple [.Name x1 px1, .Name x2 px2] kk tp, .Call (.Name "zip" p1) [a, b] [] p2, [], 0⟩] scope pos) (some (.Name y py)) spos.line X.env = pure true := by exact sw_true rfl rfl rfl (by decide +kernel)) (hj1 : j1 ∈ own.map (·.2) := by decide) (hj2 : j2 ∈ own.map (·.2) := by decide) (hgz : Gl X "zip" := by rfl)
    (hs : starEach [a, b] X.env = (false, eval a X.env) :: starEach [b] X.env := by rfl) (hpl : (backTo p2 (starEach [b] X.env)).any (·.1) = false := by rfl) (hfo : ∀ z, foldedSetIterable (.Call (.Name "zip" p1) [a, b] [] p2) X.env z = pure z := by intro _; rfl) :
    SA X (.Assign [.Name y py] (.ListComp elt [⟨.Tuple [.Name x1 px1, .Name x2 px2] kk tp, .Call (.Name "zip" p1) [a, b] [] p2, [], 0⟩] scope pos) spos) ρ Nx W :=
  ps_imp (ps_setLc (own := own) (i := i) (tt := fun _ H Q => Q true H) (te := teZ ρ (own.map (·.2)) j1 j2 l e1 e2 g) hc hN hy hyl hsw (RZ.pi_zipA hgz hm hi hs hpl) ok hg (fun s H C cl fp => ⟨fun pins s1 σ H1 Q I q => pts_nil.run pins s1 σ H1 Q I q⟩) (fun s H C cl fp => ⟨fun pins s1 σ H1 Q I ⟨x, hx, q⟩ => (he s H C cl fp x hx).run pins s1 σ H1 Q I q⟩) hfo) fun D σ H ⟨F0, H0, F, g0, S, q, _⟩ => tlc_zip2 h1 h2 hl hz hj1 hj2 ⟨H0, F, S, fun p' xs H' F' g' n1 n2 hp hv => q _ _ H' F' k (g0.trans g') ((S.gr g').setN (g0.h.none n1) n2 hp hv (S.newAt n1 _))⟩
end
end Lk

set_option Elab.async false
set_option linter.all false
set_option maxRecDepth 100000
set_option maxHeartbeats 4000000
namespace Lk
open PySem PySem.Calls L2 PySem.Spec PyProof.Rows
/-! ### lists within a list that are changed -/
/-- what held in Fs, which has grown -/
def atA (Fs : Hp) (A : As) : As := ⟨fun F v => Ex Fs F ∧ A.p Fs v, fun e h => ⟨h.1.trans e, h.2⟩⟩
def atE (Fs : Hp) : En → En
  | .fr A => .fr (atA Fs A)
  | e => e
theorem at_imp {Fs : Hp} {A : As} : ∀ F v, (atA Fs A).p F v → A.p F v := fun F v h => A.mono h.1 h.2
/-- a list of lists of its own, all new since Fs, no two the same -/
def dlA (Fs : Hp) (cs : List (List V)) : As := ⟨fun F v => ∃ (a : Addr) (as : List Addr), v = .ref a ∧ F a = some (.lst (as.map V.ref)) ∧ Fs a = none ∧ a ∉ as ∧ as.Nodup ∧ as.length = cs.length ∧ ∀ (k : Nat) (b : Addr) (c : List V), as[k]? = some b → cs[k]? = some c → F b = some (.lst c) ∧ Fs b = none,
  fun e ⟨a, as, h1, h2, h3, h4, h5, h6, h7⟩ => ⟨a, as, h1, e a _ h2, h3, h4, h5, h6, fun k b c z1 z2 => let ⟨x, y⟩ := h7 k b c z1 z2; ⟨e b _ x, y⟩⟩⟩
theorem dl_all {F : Hp} : ∀ {as : List Addr} {cs : List (List V)}, as.length = cs.length → (∀ (k : Nat) (b : Addr) (c : List V), as[k]? = some b → cs[k]? = some c → F b = some (.lst c)) → AllV F (as.map V.ref) (cs.map fun c => lstA (c.map sc))
  | [], [], _, _ => trivial
  | b :: as, c :: cs, h, h7 => ⟨⟨b, c, rfl, h7 0 b c rfl rfl, AllV.of_scs⟩, dl_all (by simpa using h) fun k b' c' z1 z2 => h7 (k + 1) b' c' (by simpa using z1) (by simpa using z2)⟩
  | [], _ :: _, h, _ => by simp at h
  | _ :: _, [], h, _ => by simp at h
theorem dl_imp {Fs : Hp} {cs : List (List V)} : ∀ F v, (dlA Fs cs).p F v → (lstA (cs.map fun c => lstA (c.map sc))).p F v := fun F v ⟨a, as, h1, h2, h3, h4, h5, h6, h7⟩ => ⟨a, _, h1, h2, dl_all h6 fun k b c z1 z2 => (h7 k b c z1 z2).1⟩
section
variable {α : Type} {X : Cx} {ρ : List En}
def tEn (ρe : α → List En) (l : List α) (g : α → List V) : TE := fun σ H Q => ∃ a, a ∈ l ∧ tN (ρe a) ((g a).map sc) σ H Q
theorem tlc_new {σ : L2.St} {H : Hp} {Q : VK} {l : List α} {enc : α → As} {g : α → List V} {vs : List Nat} {j i0 : Nat} {Fs : Hp} {B0 : As} (h0 : ρ[i0]? = some (.fr (atA Fs B0))) (hj : j ∈ vs) (hz : l.length < sizeLine) (h : tA ρ (dlA Fs (l.map g)) σ H Q) :
    tLc (iS ρ (l.map enc)) (gName j) (fun _ H Q => Q true H) (tEn (fun a => (wipeE ρ vs).set j (.fr (enc a))) l g) vs σ H Q := by
  obtain ⟨H0, F, S, k⟩ := h
  obtain ⟨_, _, hFs, _⟩ := S.fr i0 _ h0
  refine ⟨H0, F, S, fun J So xs H1 F1 g1 h2 hJ hS D hD => ?_⟩
  have hlen : xs.length = l.length := by rw [h2.length, List.length_map]
  let St : Nat → Hp → Prop := fun i H' => ∃ (F' : Hp) (as : List Addr), Gr F1 H1 F' H' ∧ F' D = none ∧ H' D = some (.lst (as.map V.ref)) ∧ as.Nodup ∧ as.length = i ∧ ∀ (k : Nat) (b : Addr), as[k]? = some b → ∃ a, l[k]? = some a ∧ F' b = some (.lst (g a)) ∧ F1 b = none
  refine it_walk (xs := xs) hJ St ⟨F1, [], .newH g1.i hD, g1.i.none hD, upd_same, List.nodup_nil, rfl, fun k b z => by simp at z⟩ (fun i H' _ L => ?_) (fun i x H' hx L => ?_) (fun H' L => ?_)
  · obtain ⟨F', as, G, _⟩ := L
    exact hS H' (G.f.trans G.i)
  · have hi : i < l.length := by
      have z := (List.getElem?_eq_some_iff.mp hx).1
      omega
    have ha : l[i]? = some l[i] := List.getElem?_eq_getElem hi
    obtain ⟨u, hu, hA⟩ := h2.get (i := i) (A := enc l[i]) (by rw [List.getElem?_map, ha]; rfl)
    rw [hx] at hu
    have e : x = u := by simpa using hu
    subst e
    obtain ⟨F', as, G, fD, hDl, nd, hl, hb⟩ := L
    have S1 := (((S.gr g1).gr G).wipe vs).set (i := j) ((enc l[i]).mono G.f hA)
    refine ⟨wipe_set hj, ?_⟩
    show if true = true then _ else _
    rw [if_pos rfl]
    refine ⟨l[i], List.getElem_mem hi, H0, F', S1, fun p ys H3 F3 g3 hn fp hp hys => ?_⟩
    have ey : ys = g l[i] := AllV.scs hys
    subst ey
    have G3 := G.trans g3
    have d3 : H3 D = some (.lst (as.map V.ref)) := g3.h D _ hDl
    have f3 : F3 D = none := g3.n D _ hDl fD
    have np : p ≠ D := fun z => by rw [z, hDl] at hn; cases hn
    have G4 : Gr F1 H1 (upd F3 p (.lst (g l[i]))) H3 := G3.take (by
      cases e : H1 p with
      | none => rfl
      | some o => rw [G.h p o e] at hn; cases hn) fp hp
    refine ⟨as.map V.ref, d3, by rw [List.length_map, hl]; omega, upd F3 p (.lst (g l[i])), as ++ [p], ⟨G4.f, fun b o q => ?_, fun b o q => ?_, G4.n⟩, by rw [upd_ne (Ne.symm np)]; exact f3, by rw [upd_same, List.map_append]; rfl, ?_, by rw [List.length_append, hl]; rfl, fun k b z => ?_⟩
    · rw [upd_ne (ne_of_none q hD)]
      exact G4.h b o q
    · have nb : b ≠ D := fun z => by
        rw [z, upd_ne (Ne.symm np), f3] at q
        cases q
      rw [upd_ne nb]
      exact G4.i b o q
    · rw [List.nodup_append]
      refine ⟨nd, by simp, fun b hb1 c hc1 => ?_⟩
      rw [List.mem_singleton.mp hc1]
      intro z
      obtain ⟨k, hk⟩ := List.getElem?_of_mem hb1
      obtain ⟨a, _, e1, _⟩ := hb k b hk
      have e2 := g3.f b _ e1
      rw [z, fp] at e2
      cases e2
    · by_cases hk : k < as.length
      · rw [List.getElem?_append_left hk] at z
        obtain ⟨a, e0, e1, e2⟩ := hb k b z
        have nb : b ≠ p := fun y => by
          have e3 := g3.f b _ e1
          rw [y, fp] at e3
          cases e3
        exact ⟨a, e0, by rw [upd_ne nb]; exact g3.f b _ e1, e2⟩
      · rw [List.getElem?_append_right (by omega)] at z
        have k0 : k - as.length = 0 := by
          have := (List.getElem?_eq_some_iff.mp z).1
          simp at this
          omega
        rw [k0] at z
        have z : p = b := by simpa using z
        subst z
        have ki : k = i := by omega
        subst ki
        refine ⟨l[k], ha, upd_same, ?_⟩
        cases e : F1 p with
        | none => rfl
        | some o =>
          have e2 := G3.f p o e
          rw [fp] at e2
          cases e2
  · rw [hlen] at L
    obtain ⟨F', as, G, fD, hDl, nd, hl, hb⟩ := L
    have F1s : Ex Fs F1 := hFs.trans g1.f
    have dn : F1 D = none := g1.i.none hD
    have gg : Gr F H (upd F' D (.lst (as.map V.ref))) H' := (g1.trans G).take (g1.h.none hD) fD hDl
    refine k _ H' _ gg ⟨D, as, rfl, upd_same, F1s.none dn, fun z => ?_, nd, by rw [hl, List.length_map], fun m b c z1 z2 => ?_⟩
    · obtain ⟨m, hm⟩ := List.getElem?_of_mem z
      obtain ⟨a, _, e1, _⟩ := hb m D hm
      rw [fD] at e1
      cases e1
    · obtain ⟨a, e0, e1, e2⟩ := hb m b z1
      rw [List.getElem?_map, e0] at z2
      have z2 : g a = c := by simpa using z2
      subst z2
      have nb : b ≠ D := fun y => by rw [y, fD] at e1; cases e1
      exact ⟨by rw [upd_ne nb]; exact e1, F1s.none e2⟩
/-- y = [list(x) for x in ..] and the like -/
theorem sa_setLcNew {it elt : Expr} {scope : Scope} {pos spos : Pos} {Nx : List En → Prop} {W : Wn} {own : List (Str × Nat)} (i j i0 : Nat) {x y : Str} {px py : Pos} {l : List α} {enc : α → As} {g : α → List V} {Fs : Hp} {B0 : As} (h0 : ρ[i0]? = some (.fr (atA Fs B0))) (hc : X.calm = true) (hN : X.N.Nodup) (hi : ES X (.Name x px) it ρ (l.map enc)) (hz : l.length < sizeLine) (ok : BlkOk X.N X.env.scope scope own)
    (hg : ∀ (s : Shared) (H : Hp) (C : Addr) (cl : List (Str × Addr)) (fp : List Addr), PG (X.blk s H scope (compEnvC scope cl C X.env) fp) (.Name x px) (gName j))
    (he : ∀ (s : Shared) (H : Hp) (C : Addr) (cl : List (Str × Addr)) (fp : List Addr), ∀ a ∈ l, EN (X.blk s H scope (compEnvC scope cl C X.env) fp) elt ((wipeE ρ (own.map (·.2))).set j (.fr (enc a))) ((g a).map sc))
    (k : Nx (ρ.set i (.fr (dlA Fs (l.map g))))) (hy : X.N[i]? = some y := by rfl) (hyl : X.env.scope.names.lookup y = some .local := by rfl)
    (hsw : swapsWith (.ListComp elt [⟨.Name x px, it, [], 0⟩] scope pos) (some (.Name y py)) spos.line X.env = pure true := by exact sw_true rfl rfl rfl (by decide +kernel))
    (hj : j ∈ own.map (·.2) := by decide) (hs : ∀ z, foldedSetIterable it X.env z = pure z := by intro _; rfl) :
    SA X (.Assign [.Name y py] (.ListComp elt [⟨.Name x px, it, [], 0⟩] scope pos) spos) ρ Nx W :=
  ps_imp (ps_setLc (own := own) (i := i) (tt := fun _ H Q => Q true H) (te := tEn (fun a => (wipeE ρ (own.map (·.2))).set j (.fr (enc a))) l g) hc hN hy hyl hsw hi ok hg (fun s H C cl fp => ⟨fun pins s1 σ H1 Q I q => pts_nil.run pins s1 σ H1 Q I q⟩) (fun s H C cl fp => ⟨fun pins s1 σ H1 Q I ⟨x, hx, q⟩ => (he s H C cl fp x hx).run pins s1 σ H1 Q I q⟩) hs) fun D σ H ⟨F0, H0, F, g0, S, q, _⟩ => tlc_new h0 hj hz ⟨H0, F, S, fun v H' F' g' hv => q _ _ H' F' k (g0.trans g') ((S.gr g').set hv)⟩
end
end Lk

set_option Elab.async false
set_option linter.all false
set_option maxRecDepth 100000
set_option maxHeartbeats 4000000
namespace Lk
open PySem PySem.Calls L2 PySem.Spec PyProof.Rows
/-- untouched where a list that is new since Fs changes -/
def Thw (Fs : Hp) (e : En) : Prop := e = .no ∨ ∃ A, e = .fr A ∧ (NoLst A ∨ ∃ B, A = atA Fs B)
theorem sat_thaw {Fs F0 H0 F H : Hp} {σ : L2.St} {ρ : List En} {i : Nat} {p : Addr} {ys zs : List V} {A0 A' : As} (x0 : Ex F0 Fs) (g : Gr F0 H0 F H) (S : Sat H0 F σ H ρ) (hi : ρ[i]? = some (.fr A0)) (hp : F p = some (.lst ys)) (fp : Fs p = none)
    (oth : ∀ j e, j ≠ i → ρ[j]? = some e → Thw Fs e) (hv : ∃ v, σ[i]? = some (some v) ∧ A'.p (upd F p (.lst zs)) v) :
    Gr F0 H0 (upd F p (.lst zs)) (upd H p (.lst zs)) ∧ Sat H0 (upd F p (.lst zs)) σ (upd H p (.lst zs)) (ρ.set i (.fr A')) := by
  have f0 : F0 p = none := x0.none fp
  have h0 : H0 p = none := by
    cases e : H0 p with
    | none => rfl
    | some o =>
      have z := g.n p o e f0
      rw [hp] at z
      cases z
  have nF0 : ∀ a o, F0 a = some o → a ≠ p := fun a o e z => by rw [z, f0] at e; cases e
  have nH0 : ∀ a o, H0 a = some o → a ≠ p := fun a o e z => by rw [z, h0] at e; cases e
  have li : i < ρ.length := (List.getElem?_eq_some_iff.mp hi).1
  have exF : Ex (upd F p (.lst zs)) (upd H p (.lst zs)) := fun a o e => by
    by_cases hb : a = p
    · rw [hb, upd_same] at e ⊢
      exact e
    · rw [upd_ne hb] at e ⊢
      exact S.ex a o e
  have nm : ∀ {j : Nat} {y : En}, (ρ.set i (.fr A'))[j]? = some y → ¬ y.Mn := fun {j y} e m => by
    by_cases hj : i = j
    · subst hj
      rw [List.getElem?_set_self li] at e
      have e : En.fr A' = y := by simpa using e
      rw [← e] at m
      exact m
    · rw [List.getElem?_set_ne hj] at e
      rcases oth j _ (Ne.symm hj) e with z | ⟨A2, z, _⟩
      · rw [z] at m; exact m
      · rw [z] at m; exact m
  refine ⟨⟨fun a o e => ?_, fun a o e => ?_, exF, fun a o e1 e2 => ?_⟩, ⟨exF, fun j A e => ?_, fun j m e => (nm e True.intro).elim, fun j k m n q e1 e2 m1 m2 s1 s2 => (nm e1 m1).elim, by rw [List.length_set]; exact S.len, fun j B e => (nm e True.intro).elim⟩⟩
  · rw [upd_ne (nF0 a o e)]
    exact g.f a o e
  · rw [upd_ne (nH0 a o e)]
    exact g.h a o e
  · rw [upd_ne (nH0 a o e1)]
    exact g.n a o e1 e2
  · by_cases hj : i = j
    · subst hj
      rw [List.getElem?_set_self li] at e
      have e : A' = A := by simpa using e
      subst e
      exact hv
    · rw [List.getElem?_set_ne hj] at e
      obtain ⟨v, h1, h2⟩ := S.fr j A e
      refine ⟨v, h1, ?_⟩
      rcases oth j _ (Ne.symm hj) e with z | ⟨A2, z, h⟩
      · cases z
      · have z : A = A2 := by simpa using z
        subst z
        rcases h with h | ⟨B, rfl⟩
        · refine h F _ v (fun a o e n => ?_) h2
          have na : a ≠ p := fun z => by
            rw [z, hp] at e
            exact n ys (by simpa using e.symm)
          rw [upd_ne na]
          exact e
        · refine ⟨fun a o e => ?_, h2.2⟩
          have na : a ≠ p := fun z => by rw [z, fp] at e; cases e
          rw [upd_ne na]
          exact h2.1 a o e
/-- what is known since Fs -/
def sAF (Fs : Hp) (ρ : List En) (Nx : List En → Prop) (W : Wn) : TS := fun D σ H => ∃ F0 H0 F, Ex F0 Fs ∧ Gr F0 H0 F H ∧ Sat H0 F σ H ρ ∧
  (∀ ρ' σ' H' F', Nx ρ' → Gr F0 H0 F' H' → Sat H0 F' σ' H' ρ' → D.nx σ' H') ∧ (∀ v H' F', Gr F0 H0 F' H' → W.R.p F' v → D.rt v H') ∧
  (∀ ρ' σ' H' F', W.B ρ' → Gr F0 H0 F' H' → Sat H0 F' σ' H' ρ' → D.bk σ' H') ∧ (∀ ρ' σ' H' F', W.C ρ' → Gr F0 H0 F' H' → Sat H0 F' σ' H' ρ' → D.ct σ' H') ∧
  (∀ cls d ρ' σ' H' F', W.er ρ' F' cls d → Gr F0 H0 F' H' → Sat H0 F' σ' H' ρ' → W.wx cls d σ' H')
section
variable {X : Cx} {ρ ρ1 ρ2 : List En} {Nx : List En → Prop} {W : Wn} {st : Stmt} {sts : List Stmt} {Fs : Hp}
theorem ba_mark (no : ρ.any En.mnB = false) (h : ∀ Fs, PSs X sts (sAF Fs (ρ.map (atE Fs)) Nx W)) : BA X sts ρ Nx W := by
  refine ⟨fun pins s σ H D I ⟨F0, H0, F, g, S, q⟩ => ?_⟩
  have nm : ∀ {i : Nat} {y : En}, (ρ.map (atE F))[i]? = some y → ¬ y.Mn := fun {i y} e m => by
    rw [List.getElem?_map] at e
    cases z : ρ[i]? with
    | none => rw [z] at e; cases e
    | some x =>
      rw [z] at e
      have e : atE F x = y := by simpa using e
      cases x with
      | no => rw [← e] at m; exact m
      | own l => exact no_mn no z True.intro
      | ow B => exact no_mn no z True.intro
      | fr B => rw [← e] at m; exact m
  refine (h F).run pins s σ H D I ⟨F0, H0, F, g.f, g, ⟨S.ex, fun i A e => ?_, fun i l e => (nm e True.intro).elim, fun i j l m p e _ m1 => (nm e m1).elim, by rw [List.length_map]; exact S.len, fun i B e => (nm e True.intro).elim⟩, q⟩
  rw [List.getElem?_map] at e
  cases z : ρ[i]? with
  | none => rw [z] at e; cases e
  | some x =>
    rw [z] at e
    cases x with
    | no => cases e
    | own l => exact (no_mn no z True.intro).elim
    | ow B => exact (no_mn no z True.intro).elim
    | fr B =>
      have e : atA F B = A := by simpa [atE] using e
      subst e
      obtain ⟨v, h1, h2⟩ := S.fr i B z
      exact ⟨v, h1, Ex.refl F, h2⟩
theorem cut_out (h : BA X sts ρ Nx W) : PSs X sts (sAF Fs ρ Nx W) := pss_imp h fun D σ H ⟨F0, H0, F, _, g, S, q⟩ => ⟨F0, H0, F, g, S, q⟩
theorem cut_le (h : PSs X sts (sAF Fs ρ1 Nx W)) (le : Le ρ1 ρ) : PSs X sts (sAF Fs ρ Nx W) := pss_imp h fun D σ H ⟨F0, H0, F, x0, g, S, q⟩ => ⟨F0, H0, F, x0, g, S.le le, q⟩
theorem cut_cons (h1 : SA X st ρ (fun ρ' => ρ' = ρ2) { R := W.R }) (h2 : PSs X sts (sAF Fs ρ2 Nx W)) : PSs X (st :: sts) (sAF Fs ρ Nx W) :=
  pss_imp (pss_cons h1 h2) fun D σ H ⟨F0, H0, F, x0, g, S, q1, q2, q3, q4, q5⟩ => ⟨F0, H0, F, g, S, fun ρ' σ' H' F' e g' S' => ⟨F0, H0, F', x0, g', by rw [← e]; exact S', q1, q2, q3, q4, q5⟩, q2, fun _ _ _ _ z => z.elim, fun _ _ _ _ z => z.elim, fun _ _ _ _ _ _ z => z.elim⟩
/-- x[k].append(e) -/
theorem cut_app {call : Expr} {pos : Pos} (i : Nat) {k : Nat} {cs : List (List V)} {c : List V} {w : V} (hr : ρ[i]? = some (.fr (dlA Fs cs))) (oth : ∀ j e, j ≠ i → ρ[j]? = some e → Thw Fs e) (hk : cs[k]? = some c) (hz : c.length < sizeLine)
    (hb : PE X call (tBM X.K "list" rAppend (tOp (rIxL X.K) (tVar i) (tA ρ (int (k : Int)))) (tCons (tA ρ (sc w)) tNil))) (next : PSs X sts (sAF Fs (ρ.set i (.fr (dlA Fs (cs.set k (c ++ [w]))))) Nx W)) (hsw : swapsWith call none pos.line X.env = pure false := by rfl) : PSs X (.Expr call pos :: sts) (sAF Fs ρ Nx W) := by
  refine pss_imp (pss_cons (ps_expr hb hsw) next) fun D σ H ⟨F0, H0, F, x0, g, S, q⟩ => ?_
  obtain ⟨v, e1, a, as, ev, h1, h2, h3, h4, h5, h6⟩ := S.fr i _ hr
  subst ev
  refine ⟨_, e1, H0, F, S, fun y H1 F1 g1 hy => ?_⟩
  have hy : y = .int (k : Int) := hy
  subst hy
  have lk : k < cs.length := (List.getElem?_eq_some_iff.mp hk).1
  obtain ⟨b, hb1⟩ : ∃ b, as[k]? = some b := ⟨_, List.getElem?_eq_getElem (by omega)⟩
  obtain ⟨hF, hFs⟩ := h6 k b c hb1 hk
  refine ⟨a, _, (k : Int), .ref b, rfl, rfl, SqL.of (g1.h a _ (S.ex a _ h1)), atI_nat (by rw [List.getElem?_map, hb1]; rfl), .inl ⟨rfl, c, SqL.of (g1.h b _ (S.ex b _ hF))⟩, H0, F1, S.gr g1, fun u H2 F2 g2 hu => ?_⟩
  have hu : u = w := hu
  subst hu
  have G := g1.trans g2
  have hF2 : F2 b = some (.lst c) := G.f b _ hF
  have ab : a ≠ b := fun z => h3 (by rw [z]; exact List.mem_of_getElem? hb1)
  have q3 : ∀ (m : Nat) (b' : Addr) (c' : List V), as[m]? = some b' → (cs.set k (c ++ [u]))[m]? = some c' → (upd F2 b (.lst (c ++ [u]))) b' = some (.lst c') ∧ Fs b' = none := fun m b' c' z1 z2 => by
    by_cases hm : k = m
    · subst hm
      rw [List.getElem?_set_self lk] at z2
      have z2 : c ++ [u] = c' := by simpa using z2
      subst z2
      rw [hb1] at z1
      have z1 : b = b' := by simpa using z1
      subst z1
      exact ⟨upd_same, hFs⟩
    · rw [List.getElem?_set_ne hm] at z2
      obtain ⟨y1, y2⟩ := h6 m b' c' z1 z2
      have nb : b' ≠ b := fun z => by
        subst z
        exact hm ((List.getElem?_inj (by omega : k < as.length) h4).mp (hb1.trans z1.symm))
      exact ⟨by rw [upd_ne nb]; exact G.f b' _ y1, y2⟩
  obtain ⟨G3, S3⟩ := sat_thaw (A' := dlA Fs (cs.set k (c ++ [u]))) (zs := c ++ [u]) x0 (g.trans G) (S.gr G) hr hF2 hFs oth ⟨_, e1, a, as, rfl, by rw [upd_ne ab]; exact G.f a _ h1, h2, h3, h4, by rw [List.length_set]; exact h5, q3⟩
  exact ⟨b, c, u, rfl, rfl, S.ex.trans G.h b _ hF, hz, F0, H0, _, x0, G3, S3, q⟩
/-- x[k].insert(z, e) -/
theorem cut_ins {call : Expr} {pos : Pos} (i : Nat) {k z : Nat} {cs : List (List V)} {c : List V} {w : V} (hr : ρ[i]? = some (.fr (dlA Fs cs))) (oth : ∀ j e, j ≠ i → ρ[j]? = some e → Thw Fs e) (hk : cs[k]? = some c) (hz : c.length < sizeLine) (hz2 : z < 2 ^ 62)
    (hb : PE X call (tBM X.K "list" rIns (tOp (rIxL X.K) (tVar i) (tA ρ (int (k : Int)))) (tCons (tA ρ (int (z : Int))) (tCons (tA ρ (sc w)) tNil)))) (next : PSs X sts (sAF Fs (ρ.set i (.fr (dlA Fs (cs.set k (c.take z ++ [w] ++ c.drop z))))) Nx W)) (hsw : swapsWith call none pos.line X.env = pure false := by rfl) : PSs X (.Expr call pos :: sts) (sAF Fs ρ Nx W) := by
  refine pss_imp (pss_cons (ps_expr hb hsw) next) fun D σ H ⟨F0, H0, F, x0, g, S, q⟩ => ?_
  obtain ⟨v, e1, a, as, ev, h1, h2, h3, h4, h5, h6⟩ := S.fr i _ hr
  subst ev
  refine ⟨_, e1, H0, F, S, fun y H1 F1 g1 hy => ?_⟩
  have hy : y = .int (k : Int) := hy
  subst hy
  have lk : k < cs.length := (List.getElem?_eq_some_iff.mp hk).1
  obtain ⟨b, hb1⟩ : ∃ b, as[k]? = some b := ⟨_, List.getElem?_eq_getElem (by omega)⟩
  obtain ⟨hF, hFs⟩ := h6 k b c hb1 hk
  refine ⟨a, _, (k : Int), .ref b, rfl, rfl, SqL.of (g1.h a _ (S.ex a _ h1)), atI_nat (by rw [List.getElem?_map, hb1]; rfl), .inl ⟨rfl, c, SqL.of (g1.h b _ (S.ex b _ hF))⟩, H0, F1, S.gr g1, fun y0 Ha Fa ga hy0 => ⟨H0, Fa, (S.gr g1).gr ga, fun u H2 F2 g2' hu => ?_⟩⟩
  have hy0 : y0 = .int (z : Int) := hy0
  subst hy0
  have hu : u = w := hu
  subst hu
  have g2 := ga.trans g2'
  have G := g1.trans g2
  have hF2 : F2 b = some (.lst c) := G.f b _ hF
  have ab : a ≠ b := fun z => h3 (by rw [z]; exact List.mem_of_getElem? hb1)
  have q3 : ∀ (m : Nat) (b' : Addr) (c' : List V), as[m]? = some b' → (cs.set k (c.take z ++ [u] ++ c.drop z))[m]? = some c' → (upd F2 b (.lst (c.take z ++ [u] ++ c.drop z))) b' = some (.lst c') ∧ Fs b' = none := fun m b' c' z1 z2 => by
    by_cases hm : k = m
    · subst hm
      rw [List.getElem?_set_self lk] at z2
      have z2 : c.take z ++ [u] ++ c.drop z = c' := by simpa using z2
      subst z2
      rw [hb1] at z1
      have z1 : b = b' := by simpa using z1
      subst z1
      exact ⟨upd_same, hFs⟩
    · rw [List.getElem?_set_ne hm] at z2
      obtain ⟨y1, y2⟩ := h6 m b' c' z1 z2
      have nb : b' ≠ b := fun z => by
        subst z
        exact hm ((List.getElem?_inj (by omega : k < as.length) h4).mp (hb1.trans z1.symm))
      exact ⟨by rw [upd_ne nb]; exact G.f b' _ y1, y2⟩
  obtain ⟨G3, S3⟩ := sat_thaw (A' := dlA Fs (cs.set k (c.take z ++ [u] ++ c.drop z))) (zs := c.take z ++ [u] ++ c.drop z) x0 (g.trans G) (S.gr G) hr hF2 hFs oth ⟨_, e1, a, as, rfl, by rw [upd_ne ab]; exact G.f a _ h1, h2, h3, h4, by rw [List.length_set]; exact h5, q3⟩
  refine ⟨b, c, (z : Int), u, rfl, rfl, S.ex.trans G.h b _ hF, hz, by omega, by omega, ?_⟩
  rw [Int.toNat_natCast]
  exact ⟨F0, H0, _, x0, G3, S3, q⟩
/-- x.append(e), e a new list -/
theorem cut_appO {call : Expr} {pos : Pos} (i : Nat) {cs : List (List V)} {c : List V} (hr : ρ[i]? = some (.fr (dlA Fs cs))) (oth : ∀ j e, j ≠ i → ρ[j]? = some e → Thw Fs e) (hz : cs.length < sizeLine)
    (hb : PE X call (tBM X.K "list" rAppend (tVar i) (tCons (tN ρ (c.map sc)) tNil))) (hF0 : ∃ (i0 : Nat) (B0 : As), ρ[i0]? = some (En.fr (atA Fs B0))) (next : PSs X sts (sAF Fs (ρ.set i (.fr (dlA Fs (cs ++ [c])))) Nx W)) (hsw : swapsWith call none pos.line X.env = pure false := by rfl) : PSs X (.Expr call pos :: sts) (sAF Fs ρ Nx W) := by
  refine pss_imp (pss_cons (ps_expr hb hsw) next) fun D σ H ⟨F0, H0, F, x0, g, S, q⟩ => ?_
  obtain ⟨i0, B0, hi0⟩ := hF0
  obtain ⟨_, _, hFs0, _⟩ := S.fr i0 _ hi0
  obtain ⟨v, e1, a, as, ev, h1, h2, h3, h4, h5, h6⟩ := S.fr i _ hr
  subst ev
  refine ⟨_, e1, .inl ⟨rfl, _, SqL.of (S.ex a _ h1)⟩, H0, F, S, fun b xs H1 F1 g1 hn fb hb1 hx => ?_⟩
  have ex : xs = c := AllV.scs hx
  subst ex
  have g2 : Gr F H (upd F1 b (.lst xs)) H1 := g1.take hn fb hb1
  have nb : ∀ (y : Addr) o, F y = some o → y ≠ b := fun y o e z => by
    have := g1.f y o e
    rw [z, fb] at this
    cases this
  have na := nb a _ h1
  have fsb : Fs b = none := (hFs0.trans g1.f).none fb
  have hF2 : (upd F1 b (.lst xs)) a = some (.lst (as.map V.ref)) := by rw [upd_ne na]; exact g1.f a _ h1
  have inas : ∀ y, y ∈ as → ∃ o, F y = some o := fun y hy => by
    obtain ⟨m, hm⟩ := List.getElem?_of_mem hy
    have lm : m < cs.length := by have := (List.getElem?_eq_some_iff.mp hm).1; omega
    exact ⟨_, (h6 m y _ hm (List.getElem?_eq_getElem lm)).1⟩
  have q1 : a ∉ as ++ [b] := fun z => by
    rcases List.mem_append.mp z with z | z
    · exact h3 z
    · exact na (List.mem_singleton.mp z)
  have q2 : (as ++ [b]).Nodup := by
    rw [List.nodup_append]
    refine ⟨h4, by simp, fun y hy w hw => ?_⟩
    rw [List.mem_singleton.mp hw]
    obtain ⟨o, ho⟩ := inas y hy
    exact nb y o ho
  have q3 : ∀ (m : Nat) (b' : Addr) (c' : List V), (as ++ [b])[m]? = some b' → (cs ++ [xs])[m]? = some c' → (upd (upd F1 b (.lst xs)) a (.lst (as.map V.ref ++ [.ref b]))) b' = some (.lst c') ∧ Fs b' = none := fun m b' c' z1 z2 => by
    by_cases hm : m < as.length
    · rw [List.getElem?_append_left hm] at z1
      rw [List.getElem?_append_left (by omega)] at z2
      obtain ⟨y1, y2⟩ := h6 m b' c' z1 z2
      have n1 : b' ≠ a := fun z => h3 (by rw [← z]; exact List.mem_of_getElem? z1)
      exact ⟨by rw [upd_ne n1, upd_ne (nb b' _ y1)]; exact g1.f b' _ y1, y2⟩
    · have k0 : m = as.length := by
        have := (List.getElem?_eq_some_iff.mp z1).1
        rw [List.length_append, List.length_singleton] at this
        omega
      subst k0
      rw [List.getElem?_append_right (by omega)] at z1
      rw [h5, List.getElem?_append_right (by omega)] at z2
      have z1 : b = b' := by simpa using z1
      have z2 : xs = c' := by simpa using z2
      subst z1 z2
      exact ⟨by rw [upd_ne (Ne.symm na), upd_same], fsb⟩
  obtain ⟨G3, S3⟩ := sat_thaw (A' := dlA Fs (cs ++ [xs])) (zs := as.map V.ref ++ [.ref b]) x0 (g.trans g2) (S.gr g2) hr hF2 h2 oth ⟨_, e1, a, as ++ [b], rfl, by rw [upd_same, List.map_append]; rfl, h2, q1, q2, by rw [List.length_append, List.length_append, h5]; rfl, q3⟩
  exact ⟨a, as.map V.ref, .ref b, rfl, rfl, g1.h a _ (S.ex a _ h1), by rw [List.length_map, h5]; exact hz, F0, H0, _, x0, G3, S3, q⟩
/-- x[k].append(e), x.append(e), x[k].insert(z, e), as expressions -/
theorem pe_appIx (i : Nat) {x : Str} {px spos apos cpos : Pos} {ix e : Expr} {k : Nat} {w : V} (hk : EW X ix ρ (int (k : Int))) (he : EA X e ρ (sc w)) (hN : X.N[i]? = some x := by rfl) (hv : Vis X.env.scope x := by first | exact Or.inl rfl | exact Or.inr (Or.inl rfl) | exact Or.inr (Or.inr rfl)) (hd : (x == ("__debug__" : Str)) = false := by decide) (hcd : (x == ("__classdict__" : Str)) = false := by decide)
    (hp : PlainIx ix := by exact fun _ _ => rfl) (hbase : attributeBase (.Subscript (.Name x px) ix spos) "append" X.env (eval (.Subscript (.Name x px) ix spos) X.env) = eval (.Subscript (.Name x px) ix spos) X.env := by rfl)
    (hfew : ((backTo cpos (starEach [e] X.env)).all (fun x => !x.1) && (backToKw cpos (keywordEach [] X.env)).all (fun x => x.1.isSome) && decide ([e].length + ([] : List Keyword).length + (if ([] : List Keyword).isEmpty then 0 else 1) < 30)) = true := by rfl)
    (hline : (apos.endLine == cpos.line) = true := by rfl) (hs : starEach [e] X.env = (false, eval e X.env) :: starEach [] X.env := by rfl) (hplain : (backTo cpos (starEach [] X.env)).any (·.1) = false := by rfl) :
    PE X (.Call (.Attribute (.Subscript (.Name x px) ix spos) "append" apos) [e] [] cpos) (tBM X.K "list" rAppend (tOp (rIxL X.K) (tVar i) (tA ρ (int (k : Int)))) (tCons (tA ρ (sc w)) tNil)) :=
  pe_bm PySem.F.plainAttrs_list PySem.F.slot_list_append PySem.F.type_list_append mt_append (pe_ix ix_list (pe_var hN hv hd hcd) (sc_w hk) hp) (pa_cons he pa_nil hs) hbase hfew hline hs hplain
theorem pe_insIx (i : Nat) {x : Str} {px spos apos cpos : Pos} {ix e f : Expr} {k z : Nat} {w : V} (hk : EW X ix ρ (int (k : Int))) (he : EA X e ρ (int (z : Int))) (hf : EA X f ρ (sc w)) (hN : X.N[i]? = some x := by rfl) (hv : Vis X.env.scope x := by first | exact Or.inl rfl | exact Or.inr (Or.inl rfl) | exact Or.inr (Or.inr rfl)) (hd : (x == ("__debug__" : Str)) = false := by decide) (hcd : (x == ("__classdict__" : Str)) = false := by decide)
    (hp : PlainIx ix := by exact fun _ _ => rfl) (hbase : attributeBase (.Subscript (.Name x px) ix spos) "insert" X.env (eval (.Subscript (.Name x px) ix spos) X.env) = eval (.Subscript (.Name x px) ix spos) X.env := by rfl)
    (hfew : ((backTo cpos (starEach [e, f] X.env)).all (fun x => !x.1) && (backToKw cpos (keywordEach [] X.env)).all (fun x => x.1.isSome) && decide ([e, f].length + ([] : List Keyword).length + (if ([] : List Keyword).isEmpty then 0 else 1) < 30)) = true := by rfl)
    (hline : (apos.endLine == cpos.line) = true := by rfl) (hs : starEach [e, f] X.env = (false, eval e X.env) :: starEach [f] X.env := by rfl) (hs2 : starEach [f] X.env = (false, eval f X.env) :: starEach [] X.env := by rfl) (hplain : (backTo cpos (starEach [f] X.env)).any (·.1) = false := by rfl) :
    PE X (.Call (.Attribute (.Subscript (.Name x px) ix spos) "insert" apos) [e, f] [] cpos) (tBM X.K "list" rIns (tOp (rIxL X.K) (tVar i) (tA ρ (int (k : Int)))) (tCons (tA ρ (int (z : Int))) (tCons (tA ρ (sc w)) tNil))) :=
  pe_bm PySem.F.plainAttrs_list PySem.F.slot_list_insert PySem.F.type_list_insert mt_insert (pe_ix ix_list (pe_var hN hv hd hcd) (sc_w hk) hp) (pa_cons he (pa_cons hf pa_nil hs2) hs) hbase hfew hline hs hplain
theorem pe_appN (i : Nat) {x : Str} {px apos cpos : Pos} {e : Expr} {l : List As} (he : EN X e ρ l) (hN : X.N[i]? = some x := by rfl) (hv : Vis X.env.scope x := by first | exact Or.inl rfl | exact Or.inr (Or.inl rfl) | exact Or.inr (Or.inr rfl)) (hd : (x == ("__debug__" : Str)) = false := by decide) (hcd : (x == ("__classdict__" : Str)) = false := by decide)
    (hbase : attributeBase (.Name x px) "append" X.env (eval (.Name x px) X.env) = eval (.Name x px) X.env := by rfl)
    (hfew : ((backTo cpos (starEach [e] X.env)).all (fun x => !x.1) && (backToKw cpos (keywordEach [] X.env)).all (fun x => x.1.isSome) && decide ([e].length + ([] : List Keyword).length + (if ([] : List Keyword).isEmpty then 0 else 1) < 30)) = true := by rfl)
    (hline : (apos.endLine == cpos.line) = true := by rfl) (hs : starEach [e] X.env = (false, eval e X.env) :: starEach [] X.env := by rfl) (hplain : (backTo cpos (starEach [] X.env)).any (·.1) = false := by rfl) :
    PE X (.Call (.Attribute (.Name x px) "append" apos) [e] [] cpos) (tBM X.K "list" rAppend (tVar i) (tCons (tN ρ l) tNil)) :=
  pe_bm PySem.F.plainAttrs_list PySem.F.slot_list_append PySem.F.type_list_append mt_append (pe_var hN hv hd hcd) (pa_cons he pa_nil hs) hbase hfew hline hs hplain
end
/-! ### the other slots -/
inductive ThA (Fs : Hp) : List En → Prop
  | nil : ThA Fs []
  | no {ρ : List En} : ThA Fs ρ → ThA Fs (.no :: ρ)
  | at {A : As} {ρ : List En} : ThA Fs ρ → ThA Fs (.fr (atA Fs A) :: ρ)
  | nl {A : As} {ρ : List En} : NoLst A → ThA Fs ρ → ThA Fs (.fr A :: ρ)
inductive ThX (Fs : Hp) : Nat → List En → Prop
  | here {e : En} {ρ : List En} : ThA Fs ρ → ThX Fs 0 (e :: ρ)
  | no {i : Nat} {ρ : List En} : ThX Fs i ρ → ThX Fs (i + 1) (.no :: ρ)
  | at {i : Nat} {A : As} {ρ : List En} : ThX Fs i ρ → ThX Fs (i + 1) (.fr (atA Fs A) :: ρ)
  | nl {i : Nat} {A : As} {ρ : List En} : NoLst A → ThX Fs i ρ → ThX Fs (i + 1) (.fr A :: ρ)
theorem ThA.all {Fs : Hp} {ρ : List En} (h : ThA Fs ρ) : ∀ (j : Nat) (e : En), ρ[j]? = some e → Thw Fs e := by
  induction h with
  | nil => intro j e z; simp at z
  | no _ ih =>
    intro j e z
    cases j with
    | zero => exact .inl (by simpa using z.symm)
    | succ j => exact ih j e (by simpa using z)
  | «at» _ ih =>
    intro j e z
    cases j with
    | zero => exact .inr ⟨_, by simpa using z.symm, .inr ⟨_, rfl⟩⟩
    | succ j => exact ih j e (by simpa using z)
  | nl n _ ih =>
    intro j e z
    cases j with
    | zero => exact .inr ⟨_, by simpa using z.symm, .inl n⟩
    | succ j => exact ih j e (by simpa using z)
theorem ThX.oth {Fs : Hp} {i : Nat} {ρ : List En} (h : ThX Fs i ρ) : ∀ (j : Nat) (e : En), j ≠ i → ρ[j]? = some e → Thw Fs e := by
  induction h with
  | here h =>
    intro j e n z
    cases j with
    | zero => exact absurd rfl n
    | succ j => exact h.all j e (by simpa using z)
  | no _ ih =>
    intro j e n z
    cases j with
    | zero => exact .inl (by simpa using z.symm)
    | succ j => exact ih j e (by omega) (by simpa using z)
  | «at» _ ih =>
    intro j e n z
    cases j with
    | zero => exact .inr ⟨_, by simpa using z.symm, .inr ⟨_, rfl⟩⟩
    | succ j => exact ih j e (by omega) (by simpa using z)
  | nl nn _ ih =>
    intro j e n z
    cases j with
    | zero => exact .inr ⟨_, by simpa using z.symm, .inl nn⟩
    | succ j => exact ih j e (by omega) (by simpa using z)
end Lk

set_option Elab.async false
set_option linter.all false
set_option maxRecDepth 100000
set_option maxHeartbeats 4000000
namespace Lk
open PySem PySem.Calls L2 PySem.Spec PyProof.Rows
/-! ### defs that give a list of one's own -/
/-- a list that is new since Fs -/
def lstN (Fs : Hp) (l : List As) : As := ⟨fun F v => ∃ (p : Addr) (xs : List V), v = .ref p ∧ F p = some (.lst xs) ∧ Fs p = none ∧ AllV F xs l, fun e ⟨p, xs, h1, h2, h3, h4⟩ => ⟨p, xs, h1, e p _ h2, h3, h4.mono e⟩⟩
def spXN {ι : Type} (pre : ι → Prop) (l : ι → List As) (A : ι → List As) : Sp := fun vs H Q _ => ∃ i, pre i ∧ ∃ F, Ex F H ∧ AllV F vs (l i) ∧ ∀ v H' F', Gr F H F' H' → (lstN F (A i)).p F' v → Q v H'
theorem sat_at {H0 F H : Hp} {σ : L2.St} {ρ : List En} (no : ρ.any En.mnB = false) (S : Sat H0 F σ H ρ) : Sat H0 F σ H (ρ.map (atE F)) := by
  have nm : ∀ {i : Nat} {y : En}, (ρ.map (atE F))[i]? = some y → ¬ y.Mn := fun {i y} e m => by
    rw [List.getElem?_map] at e
    cases z : ρ[i]? with
    | none => rw [z] at e; cases e
    | some x =>
      rw [z] at e
      have e : atE F x = y := by simpa using e
      cases x with
      | no => rw [← e] at m; exact m
      | own l => exact no_mn no z True.intro
      | ow B => exact no_mn no z True.intro
      | fr B => rw [← e] at m; exact m
  refine ⟨S.ex, fun i A e => ?_, fun i l e => (nm e True.intro).elim, fun i j l m p e _ m1 => (nm e m1).elim, by rw [List.length_map]; exact S.len, fun i B e => (nm e True.intro).elim⟩
  rw [List.getElem?_map] at e
  cases z : ρ[i]? with
  | none => rw [z] at e; cases e
  | some x =>
    rw [z] at e
    cases x with
    | no => cases e
    | own l => exact (no_mn no z True.intro).elim
    | ow B => exact (no_mn no z True.intro).elim
    | fr B =>
      have e : atA F B = A := by simpa [atE] using e
      subst e
      obtain ⟨v, h1, h2⟩ := S.fr i B z
      exact ⟨v, h1, Ex.refl F, h2⟩
theorem entry_no {N : List Str} {l : List As} : (entry N l).any En.mnB = false := by
  unfold entry
  rw [List.any_append, Bool.or_eq_false_iff, List.any_eq_false, List.any_eq_false]
  refine ⟨fun x h => ?_, fun x h => ?_⟩
  · obtain ⟨A, _, rfl⟩ := List.mem_map.mp h
    exact Bool.false_ne_true
  · rw [(List.mem_replicate.mp h).2]
    exact Bool.false_ne_true
theorem fn_okN {P : Program} {w : World} {K : PySem.W.Frag} {mg : Str → Option Value} {base : Heap} {x qual : Str} {st : Stmt} {f : Addr} {fd : FuncData} {N ps : List Str} {k : Nat} {ι : Type} {pre : ι → Prop} {l : ι → List As} {A : ι → List As} (F : Fun K x qual st f fd) (S : FnScope N ps (defScope st)) (hl : ∀ i, pre i → (l i).length = ps.length)
    (hb : ∀ (i : ι) (Fs : Hp) (cdv : Value) (B : Around) (outer : List Env) (s : Shared) (H : Hp) (E : XK), pre i → Room k (B.deeper (PyProof.Rows.envOfC qual (defScope st) s.heap.objs.size f cdv)) →
      BA (cxOf CX0 P w K mg base N qual (defScope st) f cdv B outer s H E).nox (defBody st) ((entry N (l i)).map (atE Fs)) (fun _ => False) { R := lstN Fs (A i) }) : FnOk P w K mg base CX0 (k + 1) f fd ps (spXN pre l A) := by
  refine F.ok S (fun vs H Q E h => ?_) (fun cdv B outer s H vs Q E hr h => ?_)
  · obtain ⟨i, hp, F, e, hv, _⟩ := h
    rw [hv.length, hl i hp]
  · obtain ⟨i, hp, F, e, hv, q⟩ := h
    exact ⟨_, hb i F cdv B outer s H E hp hr, F, H, F, .refl e, sat_at entry_no (sat_start (ps := ps) e hv), fun _ _ _ _ z => z.elim, fun v H' F' g' hv => q v H' F' g' hv, fun _ _ _ _ z => z.elim, fun _ _ _ _ z => z.elim, fun _ _ _ _ _ _ z => z.elim⟩
section
variable {X : Cx} {e o : Expr} {es : List Expr} {ρ : List En} {l la : List As} {pos apos p1 : Pos} {Nx : List En → Prop} {W : Wn} {Fs : Hp}
/-- return a new list -/
theorem sa_retNew (he : EN X e ρ l) (hR : W.R = lstN Fs l) (hF : ∃ (i0 : Nat) (B0 : As), ρ[i0]? = some (En.fr (atA Fs B0))) : SA X (.Return (some e) pos) ρ Nx W :=
  ps_imp (ps_ret he) fun D σ H ⟨F0, H0, F, g, S, q1, q2, _⟩ => by
    obtain ⟨i0, B0, hi0⟩ := hF
    obtain ⟨_, _, hFs, _⟩ := S.fr i0 _ hi0
    refine ⟨H0, F, S, fun p xs H' F' g' n1 n2 hp hx => q2 _ H' (upd F' p (.lst xs)) (g.trans (g'.take n1 n2 hp)) ?_⟩
    rw [hR]
    exact ⟨p, xs, rfl, upd_same, (hFs.trans g'.f).none n2, hx.mono (Ex.new n2)⟩
theorem gr_new {F H F1 H1 F' H' : Hp} {p : Addr} {xs : List V} (g1 : Gr F H F1 H1) (g : Gr F1 H1 F' H') (hp : F' p = some (.lst xs)) (fp : F1 p = none) : Gr F H (cutF F' p) H' ∧ H p = none ∧ H' p = some (.lst xs) ∧ ∀ a o, F' a = some o → (∀ ys, o ≠ .lst ys) → cutF F' p a = some o := by
  have h1 : H1 p = none := by
    cases e : H1 p with
    | none => rfl
    | some o =>
      have z := g.n p o e fp
      rw [hp] at z
      cases z
  have G := g1.trans g
  have nF : ∀ a o, F a = some o → a ≠ p := fun a o e z => by
    have := g1.f a o e
    rw [z, fp] at this
    cases this
  refine ⟨⟨fun a o e => ?_, G.h, fun a o e => ?_, fun a o e1 e2 => ?_⟩, g1.h.none h1, g.i p _ hp, fun a o e n => ?_⟩
  · unfold cutF
    rw [if_neg (nF a o e)]
    exact G.f a o e
  · unfold cutF at e
    by_cases hb : a = p
    · rw [if_pos hb] at e; cases e
    · rw [if_neg hb] at e
      exact G.i a o e
  · unfold cutF
    by_cases hb : a = p
    · rw [if_pos hb]
    · rw [if_neg hb]
      exact G.n a o e1 e2
  · unfold cutF
    by_cases hb : a = p
    · rw [hb, hp] at e
      exact absurd (by simpa using e.symm) (n xs)
    · rw [if_neg hb]
      exact e
theorem cutF_same {F : Hp} {p : Addr} : cutF F p p = none := if_pos rfl
variable {k : Nat} {ι : Type} {pre : ι → Prop} {li : ι → List As} {A : ι → List As} {ps : List Str} {C : Addr} {m x : Str} {fs : List (Str × As)}
theorem en_call (D : Df X.prog X.w X.K X.mg X.base k x ps (spXN pre li A)) (hr : Room k X.A) (i : ι) (hp : pre i) (hA : A i = l) (nl : ∀ B ∈ l, NoLst B) (ha : EAs X (e :: es) ρ (li i)) (hg : Gl X x := by rfl)
    (hdb : (x == ("__debug__" : Str)) = false := by decide) (he : starEach (e :: es) X.env = (false, eval e X.env) :: starEach es X.env := by rfl) (hpl : (backTo pos (starEach es X.env)).any (·.1) = false := by rfl) : EN X (.Call (.Name x p1) (e :: es) [] pos) ρ l := by
  subst hA
  obtain ⟨f, fd, G, hm, hk, hb⟩ := D.ex
  refine pe_imp (pe_call G hr hg hm hk hb .nil pass0 ha (hdb := hdb) (he := he) (hpl := hpl)) fun σ H Q ⟨H0, F, S, q⟩ => ⟨H0, F, S, fun vs H1 F1 g1 h1 => ?_⟩
  show spXN pre li A (vs ++ []) H1 Q E0
  rw [List.append_nil]
  refine ⟨i, hp, F1, g1.i, h1, fun v H' F' g ⟨p, xs, ev, z1, z2, z3⟩ => ?_⟩
  subst ev
  obtain ⟨G2, n1, n2, n3⟩ := gr_new g1 g z1 z2
  exact q p xs H' _ G2 n1 cutF_same n2 (nl_all n3 nl z3)
theorem en_meth {pl : Sem Bool} (D : Mf X.prog X.w X.K X.mg X.base k C m ps (spXN pre li A)) (hr : Room k X.A) (hC : Cls X.K C) (i : ι) (hp : pre i) (hA : A i = l) (nl : ∀ B ∈ l, NoLst B) (ho : EA X o ρ (insA C fs)) (hm : fs.lookup m = none) (ha : EAs X (e :: es) ρ la) (hl : li i = insA C fs :: la)
    (he : starEach (e :: es) X.env = (false, eval e X.env) :: starEach es X.env := by rfl) (hpl : (backTo pos (starEach es X.env)).any (·.1) = false := by rfl)
    (hev : eval (.Call (.Attribute o m apos) (e :: es) [] pos) X.env = (do
      let ov ← eval o X.env
      standAt apos.atName
      let (f, first) ← holding [ov] (getMethod ov m pl)
      callWith pos f first (backTo pos (starEach (e :: es) X.env)) (backToKw pos (keywordEach [] X.env))) := by rfl) : EN X (.Call (.Attribute o m apos) (e :: es) [] pos) ρ l := by
  subst hA
  obtain ⟨f, fd, G, hM, hb⟩ := D.ex
  refine pe_imp (pe_meth ho hC hM G hr hb .nil pass0 ha he hpl hev) fun σ H Q ⟨H0, F, S, q⟩ => ⟨H0, F, S, fun v H1 F1 g1 ⟨p, dx, vs, ev, h1, h2⟩ => ⟨p, dx, _, ev, g1.i p _ h1, zip_nolook h2 hm, H0, F1, S.gr g1, fun us H2 F2 g2 hu => ?_⟩⟩
  show spXN pre li A (v :: (us ++ [])) H2 Q E0
  rw [List.append_nil]
  refine ⟨i, hp, F2, g2.i, ?_, fun v H' F' g ⟨p, xs, ev, z1, z2, z3⟩ => ?_⟩
  · rw [hl]
    exact ⟨(insA C fs).mono g2.f ⟨p, dx, vs, ev, h1, h2⟩, hu⟩
  · subst ev
    obtain ⟨G2, n1, n2, n3⟩ := gr_new (g1.trans g2) g z1 z2
    exact q p xs H' _ G2 n1 cutF_same n2 (nl_all n3 nl z3)
theorem en_prop (D : Pf X.prog X.w X.K X.mg X.base k C m (spXN pre li A)) (hr : Room (k + 1) X.A) (hC : Cls X.K C) (i : ι) (hp : pre i) (hA : A i = l) (nl : ∀ B ∈ l, NoLst B) (ho : EA X o ρ (insA C fs)) (hl : li i = [insA C fs])
    (hab : attributeBase o m X.env (eval o X.env) = eval o X.env := by rfl) : EN X (.Attribute o m pos) ρ l := by
  subst hA
  obtain ⟨p, g, fd, G, hP, hb⟩ := D.ex
  refine pe_imp (pe_prop ho hC hP G hr hb .nil pass0 hab) fun σ H Q ⟨H0, F, S, q⟩ => ⟨H0, F, S, fun v H1 F1 g1 ⟨p, dx, vs, ev, h1, h2⟩ => ⟨p, dx, _, ev, g1.i p _ h1, i, hp, F1, g1.i, ?_, fun v H' F' g ⟨p, xs, ev, z1, z2, z3⟩ => ?_⟩⟩
  · rw [hl]
    exact ⟨⟨p, dx, vs, rfl, h1, h2⟩, trivial⟩
  · subst ev
    obtain ⟨G2, n1, n2, n3⟩ := gr_new g1 g z1 z2
    exact q p xs H' _ G2 n1 cutF_same n2 (nl_all n3 nl z3)
end
end Lk

set_option Elab.async false
set_option linter.all false
set_option maxRecDepth 100000
set_option maxHeartbeats 4000000
namespace Lk
open PySem PySem.Calls L2 PySem.Spec PyProof.Rows
/-! ### constructors whose objects hold none of the lists that were there -/
def spMkL {ι : Type} (C : Addr) (pre : ι → Prop) (l : ι → List As) (A : ι → As) : Sp := fun vs H Q _ => ∃ i, pre i ∧ ∃ (H1 F : Hp) (p dx : Addr) (as : List V), vs = .ref p :: as ∧ H = upd (upd H1 dx (.own p)) p (.ins C dx []) ∧ H1 p = none ∧ H1 dx = none ∧ dx ≠ p ∧ Ex F H1 ∧ AllV F as (l i) ∧
  ∀ H' F' F2, Gr F H1 F' H' → Ex F2 F' → (∀ a xs, H1 a = some (.lst xs) → F2 a = none) → (A i).p F2 (.ref p) → Q .non H'
/-- the answer stands apart from the lists that were there -/
def tAL (ρ : List En) (A : As) : TE := fun σ H Q => ∃ H0 F, Sat H0 F σ H ρ ∧ ∀ v H' F' F2, Gr F H F' H' → Ex F2 F' → (∀ a xs, H a = some (.lst xs) → F2 a = none) → A.p F2 v → Q v H'
abbrev EAL (X : Cx) (e : Expr) (ρ : List En) (A : As) : Prop := PE X e (tAL ρ A)
section
variable {X : Cx} {e : Expr} {es : List Expr} {ρ : List En} {A : As} {l : List As} {pos p1 : Pos} {k : Nat} {ι : Type} {pre : ι → Prop} {li : ι → List As} {AA : ι → As} {ps : List Str} {C : Addr} {x : Str}
theorem eal_ea (h : EAL X e ρ A) : EA X e ρ A := pe_imp h fun σ H Q ⟨H0, F, S, q⟩ => ⟨H0, F, S, fun v H' F' F2 g x2 _ hv => q v H' F' g (A.mono x2 hv)⟩
theorem eal_bor (i : Nat) (hi : ρ[i]? = some (.own l)) (h : EAL X e (ρ.set i (.fr (lstA l))) A) : EAL X e ρ A :=
  pe_imp h fun σ H Q ⟨H0, F, S, q⟩ => by
    obtain ⟨p, xs, h1, h2, h3, T⟩ := sat_bor S hi
    refine ⟨H0, _, T, fun v H' F' F2 g x2 hn hv => ?_⟩
    obtain ⟨g2, _⟩ := gr_bor h1 h3 g
    refine q v H' _ F2 g2 (fun a o e => ?_) hn hv
    have ne : a ≠ p := fun z => by rw [z, hn p xs h3] at e; cases e
    unfold cutF
    rw [if_neg ne]
    exact x2 a o e
theorem make_endL {i : ι} {F H1 H : Hp} {σ : L2.St} {Q : VK} {as : List V} (hp : pre i) (e : Ex F H1) (ha : AllV F as (li i)) (q : ∀ v H' F' F2, Gr F H1 F' H' → Ex F2 F' → (∀ a xs, H1 a = some (.lst xs) → F2 a = none) → (AA i).p F2 v → Q v H') :
    ∀ x dx, H1 x = none → H1 dx = none → dx ≠ x → spMkL C pre li AA (.ref x :: (as ++ [])) (upd (upd H1 dx (.own x)) x (.ins C dx [])) (fun v H2 => v = .non ∧ Q (.ref x) H2) E0 := fun x dx hx hdx hne =>
  ⟨i, hp, H1, F, x, dx, as, by rw [List.append_nil], rfl, hx, hdx, hne, e, ha, fun H' F' F2 g x2 hn hA => ⟨rfl, q _ H' F' F2 g x2 hn hA⟩⟩
theorem ea_makeL (D : Mk1 X.prog X.w X.K X.mg X.base k C x ps (spMkL C pre li AA)) (hr : Room (k + 1) X.A) (i : ι) (hp : pre i) (hA : AA i = A) (ha : EAs X (e :: es) ρ (li i)) (hg : Gl X x := by rfl)
    (hdb : (x == ("__debug__" : Str)) = false := by decide) (he : starEach (e :: es) X.env = (false, eval e X.env) :: starEach es X.env := by rfl) (hpl : (backTo pos (starEach es X.env)).any (·.1) = false := by rfl) : EAL X (.Call (.Name x p1) (e :: es) [] pos) ρ A := by
  subst hA
  obtain ⟨f, fd, G, hM, hb, hm⟩ := D.ex
  exact pe_imp (pe_make hM G hr hg hm hb .nil pass0 ha hdb he hpl) fun σ H Q ⟨H0, F, S, q⟩ => ⟨H0, F, S, fun us H1 F1 g1 hu => make_endL (H := H) (σ := σ) hp g1.i hu fun v H' F' F2 g x2 hn hv => q v H' F' F2 (g1.trans g) x2 (fun a xs z => hn a xs (g1.h a _ z)) hv⟩
end
end Lk

set_option Elab.async false
set_option linter.all false
set_option maxRecDepth 100000
set_option maxHeartbeats 4000000
namespace Lk
open PySem PySem.Calls L2 PySem.Spec PyProof.Rows
section
variable {X : Cx} {e : Expr} {es : List Expr} {ρ : List En} {A : As} {l : List As} {pos p1 : Pos} {Nx : List En → Prop} {W : Wn}
theorem pe_clr (i : Nat) {x : Str} {px apos cpos : Pos} (hN : X.N[i]? = some x := by rfl) (hv : Vis X.env.scope x := by first | exact Or.inl rfl | exact Or.inr (Or.inl rfl) | exact Or.inr (Or.inr rfl)) (hd : (x == ("__debug__" : Str)) = false := by decide) (hcd : (x == ("__classdict__" : Str)) = false := by decide)
    (hbase : attributeBase (.Name x px) "clear" X.env (eval (.Name x px) X.env) = eval (.Name x px) X.env := by rfl) (hline : (apos.endLine == cpos.line) = true := by rfl) :
    PE X (.Call (.Attribute (.Name x px) "clear" apos) [] [] cpos) (tBM0 X.K "list" rClear (tVar i)) :=
  pe_bm0 PySem.F.plainAttrs_list PySem.F.slot_list_clear PySem.F.type_list_clear mt_clear (pe_var hN hv hd hcd) hbase hline
/-- x.clear() -/
theorem sa_clr (i : Nat) (hr : ρ[i]? = some (En.own l)) (hb : PE X e (tBM0 X.K "list" rClear (tVar i))) (k : Nx (ρ.set i (.own []))) (hsw : swapsWith e none pos.line X.env = pure false := by rfl) : SA X (.Expr e pos) ρ Nx W := by
  refine ps_imp (ps_expr hb hsw) fun D σ H ⟨F0, H0, F, g, S, q, _⟩ => ?_
  obtain ⟨p, xs, e1, h2, h3, h4, h5⟩ := S.own i l hr
  refine ⟨_, e1, .inl ⟨rfl, _, SqL.of h4⟩, p, xs, rfl, rfl, h4, ?_⟩
  obtain ⟨g3, S3⟩ := sat_wr (ys := []) (m := []) g S hr e1 trivial
  exact q _ σ _ F k g3 S3
theorem ty_lst {K : PySem.W.Frag} : ∀ F H v, Ex F H → (lstA l).p F v → TyOf K H v (.type "list") := fun F H v e ⟨a, xs, ev, h1, _⟩ => by
  subst ev
  exact .lst (e a _ h1)
theorem kit_lst_lst {K : PySem.W.Frag} : PySem.W.kitOne K (.type "list") (.type "list") = some true := kit_ty (by decide +kernel)
theorem bo_list2 : bootBuiltins ("list" : Str) = some (.type "list") := by decide +kernel
theorem bo_tup2 : bootBuiltins ("tuple" : Str) = some (.type "tuple") := by decide +kernel
end
/-- where one argument is one of many -/
theorem spX_ex {ι τ : Type} {pre : ι → Prop} {l : ι → List As} {A : ι → As} {pre' : τ → Prop} {l' : τ → List As} {A' : τ → As} (h : ∀ t, pre' t → ∀ F vs, AllV F vs (l' t) → ∃ i, pre i ∧ AllV F vs (l i) ∧ ∀ F v, (A i).p F v → (A' t).p F v) : ∀ vs H Q E, spX pre' l' A' vs H Q E → spX pre l A vs H Q E := fun vs H Q E ⟨t, ht, F, e, hv, q⟩ => by
  obtain ⟨i, hi, hv2, hA⟩ := h t ht F vs hv
  exact ⟨i, hi, F, e, hv2, fun v H' F' g hv' => q v H' F' g (hA F' v hv')⟩
end Lk

set_option Elab.async false
set_option linter.all false
set_option maxRecDepth 100000
set_option maxHeartbeats 4000000
/-! dicts whose keys are numbers, texts, None and tuples of such, side by side: the level below the layer -/
namespace Nk
open PySem PySem.Calls
/-- v is the key k -/
def At (h : Heap) (k : NestedKey) (v : Value) : Prop := NestedIs h k v ∧ k.depth ≤ 8
theorem At.inj {h : Heap} {k l : NestedKey} {v : Value} (a : At h k v) (b : At h l v) : k = l := NestedIs.inj _ _ _ a.1 b.1
theorem At.keep {h h' : Heap} {k : NestedKey} {v : Value} {d : Addr} {o : Obj} {es ep} (a : At h k v) (ho : h.get? d = some o) (hd : o.data = .dict es ep) (sb : Heap.SameBut d h h') : At h' k v :=
  ⟨NestedIs.at (fun b ob vs n e1 e2 => (sb.2 b fun z => by rw [z, ho] at e1; cases e1; rw [hd] at e2; cases e2).trans e1) k _ a.1, a.2⟩
abbrev Row := NestedKey × Value × Value
def ent (w : World) (x : Row) : DictEntry := ⟨x.1.hash w, x.2.1, x.2.2⟩
/-- at d stands a dict with these rows -/
structure Is (w : World) (h : Heap) (d : Addr) (es : Array DictEntry) (ep : Nat) (xs : List Row) : Prop where
  ob : ∃ o, h.get? d = some o ∧ o.ExactDict ∧ o.data = .dict es ep
  es : es.toList = xs.map (ent w)
  ks : ∀ x ∈ xs, At h x.1 x.2.1
  nd : (xs.map (·.1)).Nodup
/-- where the key stands -/
def spot (xs : List Row) (k : NestedKey) (i : Nat) : Bool := match xs[i]? with
  | some x => decide (x.1 = k)
  | none => false
theorem spot_lt {xs : List Row} {k : NestedKey} {i : Nat} (h : spot xs k i = true) : ∃ x, xs[i]? = some x ∧ x.1 = k := by
  unfold spot at h
  cases e : xs[i]? with
  | none => rw [e] at h; cases h
  | some x => rw [e] at h; exact ⟨x, rfl, of_decide_eq_true h⟩
theorem spot_one {xs : List Row} {k : NestedKey} (nd : (xs.map (·.1)).Nodup) {i j : Nat} (hi : spot xs k i = true) (hj : spot xs k j = true) : i = j := by
  obtain ⟨x, e1, e2⟩ := spot_lt hi
  obtain ⟨y, e3, e4⟩ := spot_lt hj
  have a : (xs.map (·.1))[i]? = some k := by rw [List.getElem?_map, e1, ← e2]; rfl
  have b : (xs.map (·.1))[j]? = some k := by rw [List.getElem?_map, e3, ← e4]; rfl
  exact (List.getElem?_inj (List.getElem?_eq_some_iff.mp a).1 nd).mp (a.trans b.symm)
/-- the index of the key, by the list -/
theorem spot_idx (xs : List Row) (k : NestedKey) : (List.range xs.length).find? (spot xs k) = xs.findIdx? fun x => decide (x.1 = k) := by
  cases h : xs.findIdx? fun x => decide (x.1 = k) with
  | none =>
    rw [List.find?_eq_none]
    intro i _ hs
    obtain ⟨x, e1, e2⟩ := spot_lt hs
    have z := List.findIdx?_eq_none_iff.mp h x (List.mem_of_getElem? e1)
    rw [decide_eq_true e2] at z
    cases z
  | some i =>
    obtain ⟨hl, hp, hb⟩ := List.findIdx?_eq_some_iff_getElem.mp h
    have si : spot xs k i = true := by
      unfold spot
      rw [List.getElem?_eq_getElem hl]
      exact hp
    rw [List.find?_range_eq_some]
    refine ⟨si, List.mem_range.mpr hl, fun j hj => ?_⟩
    have hj' : j < xs.length := Nat.lt_trans hj hl
    have q := hb j hj
    unfold spot
    rw [List.getElem?_eq_getElem hj']
    simpa using q
section
variable {P : Program} {w : World} {A : Around} {E : Value → Shared → Prop} {s : Shared} {d b : Addr} {es : Array DictEntry} {ep : Nat} {xs : List Row} {k : NestedKey}
theorem Is.row {h : Heap} (I : Is w h d es ep xs) (j : Nat) : es[j]? = (xs[j]?).map (ent w) := by
  rw [← Array.getElem?_toList, I.es, List.getElem?_map]
theorem Is.size {h : Heap} (I : Is w h d es ep xs) : es.size = xs.length := by
  rw [← Array.length_toList, I.es, List.length_map]
theorem tell (ka : At s.heap k (.ref b)) {vs : List Value} (hv : ∀ v ∈ vs, ∃ l, At s.heap l v) {Q : Bool → Shared → Prop} (q : Q false s) : wpAny (model P w) A (tableMayTell (.ref b) vs) Q E s := by
  unfold tableMayTell
  by_cases he : vs.isEmpty = true
  · rw [if_pos he]
    exact wpAny_pure q
  · rw [if_neg he]
    refine wpAny_bind (quiet_key k _ 8 s ka.1 ka.2 A E _ ?_)
    simp only [Bool.not_true, Bool.false_eq_true, if_false]
    refine wpAny_bind (wpAny_forIn_list _ (fun rs c s1 => s1 = s ∧ c = (none, ()) ∧ ∀ v ∈ rs, ∃ l, At s.heap l v) _ ?_ ?_ _ _ ⟨rfl, rfl, hv⟩)
    · rintro v rs c s1 ⟨rfl, rfl, hr⟩
      obtain ⟨l, hl⟩ := hr v (List.mem_cons_self ..)
      refine wpAny_bind (quiet_key l _ 8 s1 hl.1 hl.2 A E _ ?_)
      simp only [Bool.not_true, Bool.false_eq_true, if_false]
      exact wpAny_pure ⟨rfl, rfl, fun u hu => hr u (List.mem_cons_of_mem _ hu)⟩
    · rintro c s1 ⟨rfl, rfl, _⟩
      exact wpAny_pure q
/-- a tuple is looked for -/
theorem find (hu : A.units + 8 < cLine) (ka : At s.heap k (.ref b)) (I : Is w s.heap d es ep xs) {Q : Option Nat → Shared → Prop} (q : Q (xs.findIdx? fun x => decide (x.1 = k)) s) : wpAny (model P w) A (dictFind d (.ref b) (k.hash w)) Q E s := by
  obtain ⟨o, ho, _, hd⟩ := I.ob
  have hes := I.row
  have hsz := I.size
  rw [← spot_idx, ← hsz] at q
  -- the places of this hash
  let hit : Nat → Bool := fun i => (es[i]?.map (·.hash)) == some (k.hash w)
  have hs_hit : ∀ i, spot xs k i = true → hit i = true := fun i h => by
    obtain ⟨x, e1, e2⟩ := spot_lt h
    show ((es[i]?.map (·.hash)) == some (k.hash w)) = true
    rw [hes i, e1, ← e2]
    simp [ent]
  have hfind : (List.range es.size).find? (spot xs k) = ((List.range es.size).filter hit).find? (spot xs k) := by
    rw [List.find?_filter]
    congr 1
    funext i
    cases c : spot xs k i with
    | false => simp
    | true => simp [hs_hit i c]
  rw [hfind] at q
  have rows : ∀ e ∈ es, ∃ x ∈ xs, e = ent w x := fun e h => by
    have h2 : e ∈ xs.map (ent w) := I.es ▸ Array.mem_toList_iff.mpr h
    obtain ⟨x, h3, h4⟩ := List.mem_map.mp h2
    exact ⟨x, h3, h4.symm⟩
  have same : ¬ (es.any fun e => e.key == Value.ref b && e.hash != k.hash w) = true := by
    rw [← Array.any_toList, List.any_eq_true]
    rintro ⟨e, h1, h2⟩
    obtain ⟨x, h3, rfl⟩ := rows e (Array.mem_toList_iff.mp h1)
    simp only [ent, Bool.and_eq_true, beq_iff_eq, bne_iff_ne, ne_eq] at h2
    have a := I.ks x h3
    rw [h2.1] at a
    exact h2.2 (by rw [a.inj ka])
  have keys : ∀ v ∈ ((List.range es.size).filter hit).filterMap (fun i => es[i]?.map (·.key)), ∃ l, At s.heap l v := fun v h => by
    obtain ⟨i, _, h2⟩ := List.mem_filterMap.mp h
    rw [hes i] at h2
    cases e : xs[i]? with
    | none => rw [e] at h2; cases h2
    | some x =>
      rw [e] at h2
      have h2 : x.2.1 = v := by simpa [ent] using h2
      exact ⟨x.1, h2 ▸ I.ks x (List.mem_of_getElem? e)⟩
  have pdef : placesWithHash es.size (fun i => es[i]?.map (·.hash)) (k.hash w) = (List.range es.size).filter hit := rfl
  unfold dictFind
  try with_reducible refine wpAny_holding ?_
  refine wpAny_bind (wpAny_dictEntries ho hd ?_)
  dsimp only
  rw [pdef]
  have nd : ((List.range es.size).filter hit).Nodup := List.Pairwise.filter _ List.nodup_range
  generalize hpl : (List.range es.size).filter hit = pl at q keys nd ⊢
  have inpl : ∀ i ∈ pl, i < es.size := fun i h => by
    rw [← hpl] at h
    exact List.mem_range.mp (List.mem_filter.mp h).1
  generalize hst : pl.filterMap (fun i => es[i]?.map (·.key)) = st at keys ⊢
  rw [if_neg (show ¬ ((Value.ref b :: st).all carriedByValue) = true by simp [carriedByValue]), if_neg same]
  by_cases hone : (st == [Value.ref b]) = true <;> (first | rw [if_pos hone] | rw [if_neg hone]) <;> (first | refine wpAny_bind (wpAny_pure ?_) | refine wpAny_bind (tell ka keys ?_)) <;> (
    rw [if_neg (by simp)]
    refine wpAny_bind (wpAny_forIn_list _ (fun rs c s1 => s1 = s ∧ ∃ pre, c = (none, pre.find? (spot xs k)) ∧ pl = pre ++ rs) _ ?_ ?_ _ _ ⟨rfl, [], rfl, rfl⟩)
    · rintro i rs c s1 ⟨rfl, pre, rfl, hp⟩
      have hi : i ∈ pl := by rw [hp]; simp
      have hlt := inpl i hi
      obtain ⟨x, hx⟩ : ∃ x, xs[i]? = some x := ⟨_, List.getElem?_eq_getElem (by rw [← hsz]; exact hlt)⟩
      have hex : es[i]? = some (ent w x) := by rw [hes i, hx]; rfl
      have ax := I.ks x (List.mem_of_getElem? hx)
      have hsp : spot xs k i = decide (x.1 = k) := by unfold spot; rw [hx]
      have dx := ax.2
      have dk := ka.2
      have hnext : pl = (pre ++ [i]) ++ rs := by rw [hp]; simp
      have hprei : i ∉ pre := fun z => by
        rw [hp] at nd
        exact (List.nodup_append.mp nd).2.2 i z i (List.mem_cons_self ..) rfl
      rw [hex]
      dsimp only
      by_cases hh : ((ent w x).hash == k.hash w) = true
      · rw [if_pos hh]
        refine wpAny_bind (wpAny_dictEpoch ho hd (wpAny_bind (eqAt_key x.1 k A s1 _ _ ax.1 ka.1 (by omega) _ _ _ _ ?_)))
        rw [← NestedKey.decide_eq]
        refine wpAny_bind (wpAny_dictEpoch ho hd ?_)
        rw [if_neg (show ¬ (ep != ep) = true by simp)]
        by_cases hk : x.1 = k
        · rw [decide_eq_true hk]
          have hpre : pre.find? (spot xs k) = none := by
            rw [List.find?_eq_none]
            intro j hj hc
            exact hprei (spot_one I.nd hc (hsp.trans (decide_eq_true hk)) ▸ hj)
          have hsome : pl.find? (spot xs k) = some i := by
            rw [hp, List.find?_append, hpre]
            simp [List.find?_cons, hsp, hk]
          rw [hpre]
          first | rw [if_pos rfl] | skip
          simp only [Option.isSome_none, Bool.false_eq_true, if_false]
          first | refine wpAny_bind (wpAny_pure ?_) | skip
          refine wpAny_bind (wpAny_rule ?_)
          rw [hsome] at q
          split
          · exact wpAny_pure (wpAny_pure q)
          · exact wpAny_pure ⟨rfl, pre ++ [i], by rw [List.find?_append, hpre]; simp [List.find?_cons, hsp, hk], hnext⟩
        · rw [decide_eq_false hk]
          simp only [Bool.false_eq_true, if_false]
          refine wpAny_bind (wpAny_rule ?_)
          first | rw [if_neg (by simp)] | skip
          have step : (pre ++ [i]).find? (spot xs k) = pre.find? (spot xs k) := by
            rw [List.find?_append]
            simp [List.find?_cons, hsp, hk]
          first
            | exact wpAny_pure ⟨rfl, pre ++ [i], by rw [step], hnext⟩
            | exact wpAny_bind (wpAny_pure (wpAny_pure ⟨rfl, pre ++ [i], by rw [step], hnext⟩))
      · rw [if_neg hh]
        have hk : ¬ x.1 = k := fun z => hh (by rw [show (ent w x).hash = x.1.hash w from rfl, z]; simp)
        refine wpAny_pure ⟨rfl, pre ++ [i], ?_, hnext⟩
        rw [List.find?_append]
        simp [List.find?_cons, hsp, hk]
    · rintro c s1 ⟨rfl, pre, rfl, hp⟩
      rw [List.append_nil] at hp
      rw [hp] at q
      exact wpAny_pure q)
theorem findIdx?_same {α : Type} {f g : α → Bool} : ∀ {l : List α}, (∀ a ∈ l, f a = g a) → l.findIdx? f = l.findIdx? g
  | [], _ => rfl
  | a :: l, h => by
    rw [List.findIdx?_cons, List.findIdx?_cons, h a (List.mem_cons_self ..), findIdx?_same fun b hb => h b (List.mem_cons_of_mem _ hb)]
/-- what stands under the key -/
def val (xs : List Row) (k : NestedKey) : Option Value := (xs.find? fun x => decide (x.1 = k)).map (·.2.2)
/-- in its place, or at the end -/
def put (xs : List Row) (k : NestedKey) (u v : Value) : List Row := match xs.findIdx? fun x => decide (x.1 = k) with
  | some i => xs.modify i fun x => (x.1, x.2.1, v)
  | none => xs ++ [(k, u, v)]
theorem val_idx (xs : List Row) (k : NestedKey) : val xs k = match xs.findIdx? fun x => decide (x.1 = k) with
  | some i => (xs[i]?).map (·.2.2)
  | none => none := by
  unfold val
  induction xs with
  | nil => rfl
  | cons x xs ih =>
    rw [List.find?_cons, List.findIdx?_cons]
    cases c : decide (x.1 = k) with
    | true => rfl
    | false =>
      show Option.map (·.2.2) (xs.find? _) = _
      rw [ih]
      cases e : xs.findIdx? fun x => decide (x.1 = k) with
      | none => rfl
      | some i => rfl
/-- all keys are texts, and a text is looked for: the first that is it -/
theorem find_str {x : Str} {t : Tok} (hk : k = .text x) (I : Is w s.heap d es ep xs) (ht : ∀ r ∈ xs, ∃ y, r.1 = .text y) {Q : Option Nat → Shared → Prop} (q : Q (xs.findIdx? fun x => decide (x.1 = k)) s) : wpAny (model P w) A (dictFind d (.str x t) (k.hash w)) Q E s := by
  obtain ⟨o, ho, _, hd⟩ := I.ob
  have rows : ∀ e ∈ es, ∃ r ∈ xs, e = ent w r := fun e h => by
    have h2 : e ∈ xs.map (ent w) := I.es ▸ Array.mem_toList_iff.mpr h
    obtain ⟨r, h3, h4⟩ := List.mem_map.mp h2
    exact ⟨r, h3, h4.symm⟩
  have txs : ∀ r ∈ xs, ∃ y u, r.1 = .text y ∧ r.2.1 = .str y u := fun r hr => by
    obtain ⟨y, hy⟩ := ht r hr
    have a := (I.ks r hr).1
    rw [hy] at a
    generalize r.2.1 = v at a
    cases a with
    | text _ u => exact ⟨y, u, hy, rfl⟩
  have all : (es.all fun e => isExactStrKey e.key) = true := by
    rw [Array.all_eq_true_iff_forall_mem]
    intro e he
    obtain ⟨r, hr, rfl⟩ := rows e he
    obtain ⟨y, u, _, h2⟩ := txs r hr
    show isExactStrKey r.2.1 = true
    rw [h2]
    rfl
  have idx : (es.findIdx? fun e => e.key.isStr x) = xs.findIdx? fun r => decide (r.1 = k) := by
    have e1 : (es.findIdx? fun e => e.key.isStr x) = es.toList.findIdx? fun e => e.key.isStr x := by
      obtain ⟨l⟩ := es
      simp
    rw [e1, I.es, List.findIdx?_map]
    refine findIdx?_same fun r hr => ?_
    obtain ⟨y, u, h1, h2⟩ := txs r hr
    show (r.2.1).isStr x = decide (r.1 = k)
    rw [h1, h2, hk]
    by_cases e : y = x
    · rw [e]; simp [Value.isStr]
    · have ne : ¬ NestedKey.text y = NestedKey.text x := fun z => e (by simpa using z)
      rw [decide_eq_false ne]
      simp [Value.isStr, e]
  unfold dictFind
  try with_reducible refine wpAny_holding ?_
  refine wpAny_bind (wpAny_dictEntries ho hd ?_)
  dsimp only
  rw [if_pos all]
  unfold foundByValue
  rw [idx]
  cases f : xs.findIdx? fun r => decide (r.1 = k) with
  | none =>
    rw [f] at q
    first
    | exact wpAny_bind (wpAny_pure (wpAny_pure q))
    | exact wpAny_pure q
  | some i =>
    rw [f] at q
    obtain ⟨hl, hp, _⟩ := List.findIdx?_eq_some_iff_getElem.mp f
    have hx : xs[i]? = some xs[i] := List.getElem?_eq_getElem hl
    obtain ⟨y, u, h1, h2⟩ := txs _ (List.getElem_mem hl)
    have hy : y = x := by
      have z : xs[i].1 = k := by simpa using hp
      rw [h1, hk] at z
      simpa using z
    have hex : es[i]? = some (ent w xs[i]) := by rw [I.row i, hx]; rfl
    simp only [hex]
    have hkey : (ent w xs[i]).key = .str x u := by show xs[i].2.1 = _; rw [h2, hy]
    rw [hkey]
    first
    | refine wpAny_bind (wpAny_bind (wpAny_dictEpoch ho hd (wpAny_bind (wpAny_eqBool_str (wpAny_bind (wpAny_dictEpoch ho hd ?_))))))
    | refine wpAny_bind (wpAny_dictEpoch ho hd (wpAny_bind (wpAny_eqBool_str (wpAny_bind (wpAny_dictEpoch ho hd ?_)))))
    rw [if_neg (show ¬ (ep != ep) = true by simp)]
    simp only [decide_true, beq_self_eq_true, if_true]
    first
    | exact wpAny_bind (wpAny_rule (wpAny_pure (wpAny_pure q)))
    | exact wpAny_bind (wpAny_rule (wpAny_pure q))
/-- how a key may be looked for among others -/
def Fd (l : List NestedKey) (k : NestedKey) : Prop := (∃ ks, k = .tup ks) ∨ ((∃ x, k = .text x) ∧ ∀ j ∈ l, ∃ y, j = .text y)
theorem find_k {u : Value} (hu : A.units + 8 < cLine) (ka : At s.heap k u) (I : Is w s.heap d es ep xs) (fd : Fd (xs.map (·.1)) k) {Q : Option Nat → Shared → Prop} (q : Q (xs.findIdx? fun x => decide (x.1 = k)) s) : wpAny (model P w) A (dictFind d u (k.hash w)) Q E s := by
  rcases fd with ⟨ks, rfl⟩ | ⟨⟨x, rfl⟩, hall⟩
  · obtain ⟨ka1, ka2⟩ := ka
    cases ka1 with
    | tup h1 h2 h3 h4 => exact find hu ⟨.tup h1 h2 h3 h4, ka2⟩ I q
  · obtain ⟨ka1, ka2⟩ := ka
    cases ka1 with
    | text _ t => exact find_str rfl I (fun r hr => hall r.1 (List.mem_map.mpr ⟨r, hr, rfl⟩)) q
theorem get {u : Value} (hu : A.units + 8 < cLine) (ka : At s.heap k u) (I : Is w s.heap d es ep xs) (fd : Fd (xs.map (·.1)) k) {Q : Option Value → Shared → Prop} (q : Q (val xs k) { s with toks := s.toks + k.draws }) : wpAny (model P w) A (dictGet d u) Q E s := by
  obtain ⟨o, ho, _, hd⟩ := I.ob
  have I2 : Is w ({ s with toks := s.toks + k.draws } : Shared).heap d es ep xs := I
  have d1 := ka.2
  rw [val_idx] at q
  unfold dictGet
  try with_reducible refine wpAny_holding ?_
  refine wpAny_bind (pyHash_key k _ A s _ ka.1 (by omega) (wpAny_bind (find_k hu (s := { s with toks := s.toks + k.draws }) ka I2 fd ?_)))
  cases e : xs.findIdx? fun x => decide (x.1 = k) with
  | none =>
    rw [e] at q
    exact wpAny_pure q
  | some i =>
    rw [e] at q
    have q : Q ((xs[i]?).map (·.2.2)) { s with toks := s.toks + k.draws } := q
    refine wpAny_bind (wpAny_dictEntries (s := { s with toks := s.toks + k.draws }) ho hd ?_)
    rw [I.row i]
    cases f : xs[i]? with
    | none => rw [f] at q; exact wpAny_pure q
    | some x => rw [f] at q; exact wpAny_pure q
theorem mod_keys (v : Value) : ∀ (xs : List Row) (i : Nat), (xs.modify i fun x => (x.1, x.2.1, v)).map (·.1) = xs.map (·.1)
  | [], i => by simp
  | x :: xs, 0 => by simp
  | x :: xs, i + 1 => by simp [mod_keys v xs i]
theorem mod_ent (w : World) (v : Value) : ∀ (xs : List Row) (i : Nat), (xs.map (ent w)).modify i (fun e => { e with val := v }) = (xs.modify i fun x => (x.1, x.2.1, v)).map (ent w)
  | [], i => by simp
  | x :: xs, 0 => by simp [ent]
  | x :: xs, i + 1 => by simp [mod_ent w v xs i]
theorem mod_mem (v : Value) {y : Row} : ∀ {xs : List Row} {i : Nat}, y ∈ xs.modify i (fun x => (x.1, x.2.1, v)) → ∃ x ∈ xs, x.1 = y.1 ∧ x.2.1 = y.2.1
  | [], i, h => by simp at h
  | x :: xs, 0, h => by
    rcases List.mem_cons.mp (by simpa using h : y ∈ (x.1, x.2.1, v) :: xs) with rfl | h
    · exact ⟨x, List.mem_cons_self .., rfl, rfl⟩
    · exact ⟨y, List.mem_cons_of_mem _ h, rfl, rfl⟩
  | x :: xs, i + 1, h => by
    rcases List.mem_cons.mp (by simpa using h : y ∈ x :: xs.modify i (fun x => (x.1, x.2.1, v))) with rfl | h
    · exact ⟨y, List.mem_cons_self .., rfl, rfl⟩
    · obtain ⟨z, h1, h2⟩ := mod_mem v h
      exact ⟨z, List.mem_cons_of_mem _ h1, h2⟩
/-- the dict behind a store -/
def Put (P : Program) (w : World) (d : Addr) (xs' : List Row) (n : Nat) (s : Shared) (Q : Unit → Shared → Prop) : Prop := ∀ h' es' ep', Is w h' d es' ep' xs' → Heap.SameBut d s.heap h' → Q () { s with heap := h', toks := s.toks + n }
theorem set_at {u v : Value} (ka : At s.heap k u) (I : Is w s.heap d es ep xs) (hz : xs.length ≤ sizeLine) {Q : Unit → Shared → Prop} (q : Put P w d (put xs k u v) k.draws s Q)
    (fnd : ∀ {Q2 : Option Nat → Shared → Prop}, Q2 (xs.findIdx? fun x => decide (x.1 = k)) { s with toks := s.toks + k.draws } → wpAny (model P w) A (dictFind d u (k.hash w)) Q2 E { s with toks := s.toks + k.draws }) (hu : A.units + 8 < cLine) : wpAny (model P w) A (dictSet d u v) Q E s := by
  obtain ⟨o, ho, hx, hd⟩ := I.ob
  have d1 := ka.2
  unfold dictSet
  try with_reducible refine wpAny_holding ?_
  refine wpAny_bind (pyHash_key k _ A s _ ka.1 (by omega) ?_)
  unfold dictSetHashed
  try with_reducible refine wpAny_holding ?_
  refine wpAny_bind (fnd ?_)
  unfold Put put at q
  cases e : xs.findIdx? fun x => decide (x.1 = k) with
  | none =>
    rw [e] at q
    have nk : ∀ x ∈ xs, x.1 ≠ k := fun x hm z => by
      have y := List.findIdx?_eq_none_iff.mp e x hm
      rw [decide_eq_true z] at y
      cases y
    refine wpAny_bind (wpAny_rule (wpAny_updateDictKeys (hz := by have e := I.size; omega) (s := { s with toks := s.toks + k.draws }) ho hd (q _ _ (ep + 1) ⟨⟨_, Heap.get?_update_self _ ho (Obj.isFreed_of_dict (Obj.data_mapDictKeys hd _)), hx.mapDictKeys _, Obj.data_mapDictKeys hd _⟩, ?_, ?_, ?_⟩ (Heap.SameBut.update ..))))
    · simp [I.es, ent]
    · intro x hm
      rcases List.mem_append.mp hm with hm | hm
      · exact (I.ks x hm).keep ho hd (Heap.SameBut.update ..)
      · obtain rfl := List.mem_singleton.mp hm
        exact ka.keep ho hd (Heap.SameBut.update ..)
    · rw [List.map_append, List.nodup_append]
      refine ⟨I.nd, by simp, fun x hm y hy z => ?_⟩
      have hy : y = k := by simpa using hy
      obtain ⟨r, h1, h2⟩ := List.mem_map.mp hm
      exact nk r h1 (h2.trans (z.trans hy))
  | some i =>
    rw [e] at q
    refine wpAny_bind (wpAny_rule (wpAny_bind (wpAny_updateDict (s := { s with toks := s.toks + k.draws }) ho hd (wpAny_point (q _ _ ep ⟨⟨_, Heap.get?_update_self _ ho (Obj.isFreed_of_dict (Obj.data_mapDict hd _)), hx.mapDict _, Obj.data_mapDict hd _⟩, ?_, ?_, ?_⟩ (Heap.SameBut.update ..))))))
    · have z := mod_ent w v xs i
      rw [← I.es] at z
      obtain ⟨l⟩ := es
      simpa using z
    · intro y hm
      obtain ⟨x, h1, h2, h3⟩ := mod_mem v hm
      rw [← h2, ← h3]
      exact (I.ks x h1).keep ho hd (Heap.SameBut.update ..)
    · show ((xs.modify i fun x => (x.1, x.2.1, v)).map (·.1)).Nodup
      rw [mod_keys]
      exact I.nd
theorem set_k {u v : Value} (hu : A.units + 8 < cLine) (ka : At s.heap k u) (I : Is w s.heap d es ep xs) (fd : Fd (xs.map (·.1)) k) (hz : xs.length ≤ sizeLine) {Q : Unit → Shared → Prop} (q : Put P w d (put xs k u v) k.draws s Q) : wpAny (model P w) A (dictSet d u v) Q E s :=
  set_at ka I hz q (fun q2 => find_k hu (s := { s with toks := s.toks + k.draws }) ka I fd q2) hu
/-- anything into an empty dict -/
theorem find_none {u : Value} (ns : ∀ x t, u ≠ .str x t) (ka : At s.heap k u) (I : Is w s.heap d es ep []) {Q : Option Nat → Shared → Prop} (q : Q none s) : wpAny (model P w) A (dictFind d u (k.hash w)) Q E s := by
  obtain ⟨o, ho, _, hd⟩ := I.ob
  have he : es = #[] := by
    have z := I.es
    obtain ⟨l⟩ := es
    simpa using z
  subst he
  unfold dictFind
  try with_reducible refine wpAny_holding ?_
  refine wpAny_bind (wpAny_dictEntries ho hd ?_)
  have pe : placesWithHash (#[] : Array DictEntry).size (fun i => (#[] : Array DictEntry)[i]?.map (·.hash)) (k.hash w) = [] := rfl
  cases u with
  | str x t => exact (ns x t rfl).elim
  | ref a =>
    dsimp only
    rw [pe]
    simp only [List.filterMap_nil, carriedByValue, List.all_cons, List.all_nil, Bool.and_true, Bool.false_eq_true, if_false]
    simp only [tableMayTell]
    simp
    exact wpAny_pure q
  | _ =>
    dsimp only
    rw [pe]
    simp [carriedByValue, dictWalkPlain]
    exact wpAny_pure q
theorem set_first {u v : Value} (hu : A.units + 8 < cLine) (ns : ∀ x t, u ≠ .str x t) (ka : At s.heap k u) (I : Is w s.heap d es ep []) {Q : Unit → Shared → Prop} (q : Put P w d [(k, u, v)] k.draws s Q) : wpAny (model P w) A (dictSet d u v) Q E s :=
  set_at ka I (Nat.zero_le _) q (fun q2 => find_none (s := { s with toks := s.toks + k.draws }) ns ka I q2) hu
end
end Nk

set_option Elab.async false
set_option linter.all false
set_option maxRecDepth 100000
set_option maxHeartbeats 4000000
/-! d[k], k in d, d[k] = v of such dicts -/
namespace Nk
open PySem PySem.Calls
section
variable {P : Program} {w : World} {A : Around} {E : Value → Shared → Prop} {s : Shared} {d b : Addr} {es : Array DictEntry} {ep : Nat} {xs : List Row} {k : NestedKey} {u : Value}
theorem Is.ty {s : Shared} (I : Is w s.heap d es ep xs) : s.TypeIs (.ref d) "dict" := let ⟨o, ho, hx, _⟩ := I.ob; ⟨o, ho, hx.1⟩
theorem item {v : Value} (hu : A.units + 9 < cLine) (ka : At s.heap k u) (I : Is w s.heap d es ep xs) (fd : Fd (xs.map (·.1)) k) (hv : val xs k = some v) {Q : Value → Shared → Prop} (q : Q v { s with toks := s.toks + k.draws }) : wpAny (model P w) A (getItem (.ref d) u) Q E s := by
  have u1 : A.in1.units + 8 < cLine := by show A.units + 1 + 8 < cLine; omega
  unfold getItem
  try with_reducible refine wpAny_holding ?_
  refine wpAny_bind (wpAny_sequenceKey I.ty (by decide) (wpAny_bind (wpAny_callSpecial?_slot (name := Str.ofString "__getitem__") I.ty slot_dict_getitem (wpAny_call_entry slot_dict_getitem I.ty entry_dict_getitem ?_ (args_dict_getitem _ _)))))
  refine wpAny_bind (m := dictGet d u) (get u1 ka I fd ?_)
  rw [hv]
  exact wpAny_pure ⟨v, rfl, wpAny_pure q⟩
theorem has (hu : A.units + 9 < cLine) (ka : At s.heap k u) (hd : (d == sysModules) = false) (I : Is w s.heap d es ep xs) (fd : Fd (xs.map (·.1)) k) {Q : Bool → Shared → Prop} (q : Q (val xs k).isSome { s with toks := s.toks + k.draws }) : wpAny (model P w) A (contains (.ref d) u) Q E s := by
  have u1 : A.in1.units + 8 < cLine := by show A.units + 1 + 8 < cLine; omega
  refine wpAny_contains_slot I.ty F.slot_dict_contains (wpAny_call_entry F.slot_dict_contains I.ty F.entry_dict_contains ?_ (F.args_dict_contains_2 _ _))
  refine wpAny_bind (m := dictGet d u) (get u1 ka I fd ?_)
  cases e : val xs k with
  | some v =>
    rw [e] at q
    exact wpAny_pure ⟨_, rfl, wpAny_truthy_bool q⟩
  | none =>
    rw [e] at q
    exact wpAny_bind (m := Builtin.Dict.pendingKey? d u) (wpAny_pendingKey_other hd (wpAny_pure ⟨_, rfl, wpAny_truthy_bool q⟩))
theorem isIn (hu : A.units + 9 < cLine) (ka : At s.heap k u) (hd : (d == sysModules) = false) (I : Is w s.heap d es ep xs) (fd : Fd (xs.map (·.1)) k) {Q : Value → Shared → Prop} (q : Q (.bool (val xs k).isSome) { s with toks := s.toks + k.draws }) : wpAny (model P w) A (compareOp .In u (.ref d)) Q E s :=
  show wpAny _ _ (do return .bool (← contains (.ref d) u)) Q E s from wpAny_bind (has hu ka hd I fd (wpAny_pure q))
theorem notIn (hu : A.units + 9 < cLine) (ka : At s.heap k u) (hd : (d == sysModules) = false) (I : Is w s.heap d es ep xs) (fd : Fd (xs.map (·.1)) k) {Q : Value → Shared → Prop} (q : Q (.bool (!(val xs k).isSome)) { s with toks := s.toks + k.draws }) : wpAny (model P w) A (compareOp .NotIn u (.ref d)) Q E s :=
  show wpAny _ _ (do return .bool (!(← contains (.ref d) u))) Q E s from wpAny_bind (has hu ka hd I fd (wpAny_pure q))
theorem store {v : Value} (hu : A.units + 9 < cLine) (ka : At s.heap k u) (I : Is w s.heap d es ep xs) (fd : Fd (xs.map (·.1)) k) (hz : xs.length ≤ sizeLine) {Q : Unit → Shared → Prop} (q : Put P w d (put xs k u v) k.draws s Q) : wpAny (model P w) A (setItem (.ref d) u v) Q E s := by
  have u1 : A.in1.units + 8 < cLine := by show A.units + 1 + 8 < cLine; omega
  unfold setItem
  try with_reducible refine wpAny_holding ?_
  refine wpAny_bind (wpAny_sequenceKey I.ty (by decide) (wpAny_bind (wpAny_callSpecial?_slot (name := Str.ofString "__setitem__") I.ty slot_dict_setitem (wpAny_call_entry slot_dict_setitem I.ty entry_dict_setitem ?_ (args_dict_setitem _ _ _)))))
  refine wpAny_bind (m := Builtin.Dict.notOrdered "__setitem__" ⟨[.ref d, u, v], []⟩) (wpAny_notOrdered_dict I.ty ?_)
  refine wpAny_bind (m := dictSet d u v) (set_k u1 ka I fd hz fun h' es' ep' I' sb => wpAny_pure ⟨.none, rfl, wpAny_pure (q h' es' ep' I' sb)⟩)
end
end Nk
namespace Lk
open PySem PySem.Calls L2 PySem.Spec PyProof.Rows
/-! ### keys -/
mutual
def NkA (F : Hp) : NestedKey → V → Prop
  | .none, v => v = .non
  | .num i, v => v = .int i
  | .text x, v => v = .str x
  | .tup ks, v => ∃ a xs, v = .ref a ∧ F a = some (.tup xs) ∧ NkAll F ks xs
def NkAll (F : Hp) : List NestedKey → List V → Prop
  | [], [] => True
  | k :: ks, v :: vs => NkA F k v ∧ NkAll F ks vs
  | [], _ :: _ => False
  | _ :: _, [] => False
end
mutual
theorem NkA.mono {F F' : Hp} (e : Ex F F') : ∀ (k : NestedKey) (v : V), NkA F k v → NkA F' k v
  | .none, v, h => h
  | .num i, v, h => h
  | .text x, v, h => h
  | .tup ks, v, h => by
    unfold NkA at h ⊢
    obtain ⟨a, xs, h1, h2, h3⟩ := h
    exact ⟨a, xs, h1, e a _ h2, NkAll.mono e ks xs h3⟩
theorem NkAll.mono {F F' : Hp} (e : Ex F F') : ∀ (ks : List NestedKey) (vs : List V), NkAll F ks vs → NkAll F' ks vs
  | [], [], h => h
  | k :: ks, v :: vs, h => by
    unfold NkAll at h ⊢
    exact ⟨NkA.mono e k v h.1, NkAll.mono e ks vs h.2⟩
  | [], _ :: _, h => h.elim
  | _ :: _, [], h => h.elim
end
def nkA (k : NestedKey) : As := ⟨fun F v => NkA F k v ∧ k.depth ≤ 8, fun e h => ⟨h.1.mono e, h.2⟩⟩
section
variable {P : Program} {w : World} {H : Hp} {h : Heap}
mutual
theorem nk_is (ok : HOk P w H h) : ∀ (k : NestedKey) (v : V) (u : Value), NkA H k v → RelV v u → NestedIs h k u
  | .none, v, u, a, r => by
    obtain rfl : v = .non := a
    cases r
    exact .none
  | .num i, v, u, a, r => by
    obtain rfl : v = .int i := a
    obtain ⟨t, rfl⟩ := r
    exact .int i t
  | .text x, v, u, a, r => by
    obtain rfl : v = .str x := a
    obtain ⟨t, rfl⟩ := r
    exact .text x t
  | .tup ks, v, u, a, r => by
    unfold NkA at a
    obtain ⟨b, xs, rfl, h2, h3⟩ := a
    cases r
    obtain ⟨_, its, rv, o, h4, h5, n, h6⟩ := (show ObjOk P w H h b (.tup xs) from ok b _ h2)
    exact .tup h4 h5 h6 (by simpa using nk_all ok ks xs its h3 rv)
theorem nk_all (ok : HOk P w H h) : ∀ (ks : List NestedKey) (vs : List V) (us : List Value), NkAll H ks vs → Vals vs us → NestedAll h ks us
  | [], [], _, _, r => by
    cases r
    exact .nil
  | k :: ks, v :: vs, _, a, r => by
    cases r with
    | cons r1 r2 =>
      unfold NkAll at a
      exact .cons (nk_is ok k v _ a.1 r1) (nk_all ok ks vs _ a.2 r2)
  | [], _ :: _, _, a, _ => a.elim
  | _ :: _, [], _, a, _ => a.elim
end
theorem nk_at (ok : HOk P w H h) {k : NestedKey} {v : V} {u : Value} (a : (nkA k).p H v) (r : RelV v u) : Nk.At h k u := ⟨nk_is ok k v u a.1 r, a.2⟩
end
/-! ### the object -/
def ndO (a : Addr) (es : Array DictEntry) (ep : Nat) : HO := .ext fun h => ∃ o, h.get? a = some o ∧ o.ExactDict ∧ o.data = .dict es ep
/-- one row: the key, what is said of the value -/
def RowA (F : Hp) (x : NestedKey × As) (r : Nk.Row) : Prop := r.1 = x.1 ∧ ∃ y z, RelV y r.2.1 ∧ RelV z r.2.2 ∧ (nkA x.1).p F y ∧ x.2.p F z
def RowsA (F : Hp) : List (NestedKey × As) → List Nk.Row → Prop
  | [], [] => True
  | x :: l, r :: rs => RowA F x r ∧ RowsA F l rs
  | [], _ :: _ => False
  | _ :: _, [] => False
theorem RowA.mono {F F' : Hp} (e : Ex F F') {x : NestedKey × As} {r : Nk.Row} (h : RowA F x r) : RowA F' x r := by
  obtain ⟨h0, y, z, h1, h2, h3, h4⟩ := h
  exact ⟨h0, y, z, h1, h2, (nkA x.1).mono e h3, x.2.mono e h4⟩
theorem RowsA.mono {F F' : Hp} (e : Ex F F') : ∀ {l : List (NestedKey × As)} {rs : List Nk.Row}, RowsA F l rs → RowsA F' l rs
  | [], [], h => h
  | _ :: _, _ :: _, h => ⟨h.1.mono e, RowsA.mono e h.2⟩
  | [], _ :: _, h => h.elim
  | _ :: _, [], h => h.elim
theorem RowsA.len {F : Hp} : ∀ {l : List (NestedKey × As)} {rs : List Nk.Row}, RowsA F l rs → l.length = rs.length
  | [], [], _ => rfl
  | _ :: _, _ :: _, h => congrArg (· + 1) (RowsA.len h.2)
  | [], _ :: _, h => h.elim
  | _ :: _, [], h => h.elim
theorem RowsA.keys {F : Hp} : ∀ {l : List (NestedKey × As)} {rs : List Nk.Row}, RowsA F l rs → rs.map (·.1) = l.map (·.1)
  | [], [], _ => rfl
  | _ :: _, _ :: _, h => by rw [List.map_cons, List.map_cons, RowsA.keys h.2, h.1.1]
  | [], _ :: _, h => h.elim
  | _ :: _, [], h => h.elim
/-- what a dict with these rows is -/
structure NdP (w : World) (l : List (NestedKey × As)) (F : Hp) (a : Addr) (o : HO) : Prop where
  sys : (a == sysModules) = false
  ex : ∃ es ep rs, o = ndO a es ep ∧ es.toList = rs.map (Nk.ent w) ∧ (l.map (·.1)).Nodup ∧ RowsA F l rs
def ndOb (w : World) (l : List (NestedKey × As)) : Ob := ⟨fun F a o => NdP w l F a o, fun e h => ⟨h.sys, let ⟨es, ep, rs, h1, h2, h3, h4⟩ := h.ex; ⟨es, ep, rs, h1, h2, h3, h4.mono e⟩⟩⟩
def ndA (w : World) (l : List (NestedKey × As)) : As := ⟨fun F v => ∃ a o, v = .ref a ∧ F a = some o ∧ NdP w l F a o, fun e ⟨a, o, h1, h2, h3⟩ => ⟨a, o, h1, e a _ h2, (ndOb w l).mono e h3⟩⟩
theorem nd_is {P : Program} {w : World} {H F : Hp} {h : Heap} (ok : HOk P w H h) (e : Ex F H) {l : List (NestedKey × As)} {a : Addr} {o : HO} (ha : H a = some o) (n : NdP w l F a o) : ∃ es ep rs, o = ndO a es ep ∧ Nk.Is w h a es ep rs ∧ RowsA F l rs := by
  obtain ⟨es, ep, rs, rfl, h1, h2, h3⟩ := n.ex
  obtain ⟨⟨ob, q1, q2, q3⟩, _⟩ := (show ObjOk P w H h a (ndO a es ep) from ok a _ ha)
  refine ⟨es, ep, rs, rfl, ⟨⟨ob, q1, q2, q3⟩, h1, ?_, by rw [h3.keys]; exact h2⟩, h3⟩
  have h4 := h3.mono e
  clear h1 h2 h3 n q1 q2 q3
  induction l generalizing rs with
  | nil =>
    cases rs with
    | nil => intro x hx; simp at hx
    | cons _ _ => exact h4.elim
  | cons x l ih =>
    cases rs with
    | nil => exact h4.elim
    | cons r rs =>
      intro y hy
      rcases List.mem_cons.mp hy with rfl | hy
      · obtain ⟨e0, v, z, r1, _, k1, _⟩ := h4.1
        rw [e0]
        exact nk_at ok k1 r1
      · exact ih rs h4.2 y hy
/-- a look-up by keys -/
def lookN {α : Type} (l : List (NestedKey × α)) (k : NestedKey) : Option α := (l.find? fun x => decide (x.1 = k)).map (·.2)
theorem rows_val {F : Hp} {k : NestedKey} : ∀ {l : List (NestedKey × As)} {rs : List Nk.Row}, RowsA F l rs → (lookN l k = none ∧ Nk.val rs k = none) ∨ ∃ A u z, lookN l k = some A ∧ Nk.val rs k = some u ∧ RelV z u ∧ A.p F z
  | [], [], _ => .inl ⟨rfl, rfl⟩
  | x :: l, r :: rs, h => by
    obtain ⟨e0, y, z, r1, r2, k1, k2⟩ := h.1
    unfold lookN Nk.val
    rw [List.find?_cons, List.find?_cons, e0]
    cases c : decide (x.1 = k) with
    | true => exact .inr ⟨x.2, r.2.2, z, rfl, rfl, r2, k2⟩
    | false => exact rows_val h.2
  | [], _ :: _, h => h.elim
  | _ :: _, [], h => h.elim
def putN {α : Type} (l : List (NestedKey × α)) (k : NestedKey) (a : α) : List (NestedKey × α) := match l.findIdx? fun x => decide (x.1 = k) with
  | some i => l.modify i fun x => (x.1, a)
  | none => l ++ [(k, a)]
theorem rows_snoc {F : Hp} {x : NestedKey × As} {r : Nk.Row} : ∀ {l : List (NestedKey × As)} {rs : List Nk.Row}, RowsA F l rs → RowA F x r → RowsA F (l ++ [x]) (rs ++ [r])
  | [], [], _, h => ⟨h, trivial⟩
  | _ :: _, _ :: _, h, k => ⟨h.1, rows_snoc h.2 k⟩
  | [], _ :: _, h, _ => h.elim
  | _ :: _, [], h, _ => h.elim
theorem rows_idx {F : Hp} {k : NestedKey} : ∀ {l : List (NestedKey × As)} {rs : List Nk.Row}, RowsA F l rs → (rs.findIdx? fun x => decide (x.1 = k)) = l.findIdx? fun x => decide (x.1 = k)
  | [], [], _ => rfl
  | x :: l, r :: rs, h => by rw [List.findIdx?_cons, List.findIdx?_cons, h.1.1, rows_idx h.2]
  | [], _ :: _, h => h.elim
  | _ :: _, [], h => h.elim
theorem rows_mod {F : Hp} {A : As} {u : Value} {z : V} (r : RelV z u) (a : A.p F z) : ∀ {l : List (NestedKey × As)} {rs : List Nk.Row} (i : Nat), RowsA F l rs → RowsA F (l.modify i fun x => (x.1, A)) (rs.modify i fun x => (x.1, x.2.1, u))
  | [], [], i, h => by simpa using h
  | x :: l, y :: rs, 0, h => by
    obtain ⟨e0, v, z', r1, r2, k1, k2⟩ := h.1
    exact ⟨⟨e0, v, z, r1, r, k1, a⟩, h.2⟩
  | x :: l, y :: rs, i + 1, h => ⟨h.1, rows_mod r a i h.2⟩
  | [], _ :: _, _, h => h.elim
  | _ :: _, [], _, h => h.elim
theorem rows_put {F : Hp} {k : NestedKey} {A : As} {y z : V} {u v : Value} {l : List (NestedKey × As)} {rs : List Nk.Row} (h : RowsA F l rs) (r1 : RelV y u) (k1 : (nkA k).p F y) (r2 : RelV z v) (a : A.p F z) : RowsA F (putN l k A) (Nk.put rs k u v) := by
  unfold putN Nk.put
  rw [rows_idx h]
  cases l.findIdx? fun x => decide (x.1 = k) with
  | none => exact rows_snoc h ⟨rfl, y, z, r1, r2, k1, a⟩
  | some i => exact rows_mod r2 a i h
theorem putN_len {α : Type} (l : List (NestedKey × α)) (k : NestedKey) (a : α) : (putN l k a).length ≤ l.length + 1 := by
  unfold putN
  split
  · rw [List.length_modify]; omega
  · rw [List.length_append]; exact Nat.le_refl _
theorem nd_new {P : Program} {w : World} {H : Hp} {h : Heap} (b : sysModules < h.objs.size) : ObjOk P w H (h.push { cls := .type "dict", data := .dict #[] }) h.objs.size (ndO h.objs.size #[] 0) :=
  ⟨⟨_, Heap.get?_push_size _ rfl, ⟨rfl, rfl, rfl⟩, rfl⟩, ⟨_, Heap.get?_push_size _ rfl⟩, fun h1 h2 ⟨o, e, q⟩ k => ⟨o, k o e, q⟩⟩
end Lk

set_option Elab.async false
set_option linter.all false
set_option maxRecDepth 100000
set_option maxHeartbeats 4000000
namespace Lk
open PySem PySem.Calls L2 PySem.Spec PyProof.Rows
theorem fdT {l : List NestedKey} {ks : List NestedKey} : Nk.Fd l (.tup ks) := .inl ⟨ks, rfl⟩
theorem fdS {l : List NestedKey} {x : Str} (h : ∀ j ∈ l, ∃ y, j = .text y) : Nk.Fd l (.text x) := .inr ⟨⟨x, rfl⟩, h⟩
section
variable {X : Cx} {o e i value : Expr} {td ty tv : TE} {pos pos' : Pos}
/-- {} -/
def tNNew (w : World) : TE := fun _ H Q => ∀ p ob, H p = none → (∀ F, NdP w [] F p ob) → Q (.ref p) (upd H p ob)
theorem pe_nnew : PE X (.Dict [] [] pos) (tNNew X.w) := ⟨fun pins s σ H Q I h => by
  have hb : (s.heap.objs.size == sysModules) = false := beq_eq_false_iff_ne.mpr (Ne.symm (Nat.ne_of_lt I.big))
  exact wpAny_Dict_empty ⟨.ref s.heap.objs.size, _, I.laid (a := s.heap.objs.size) (o := ndO s.heap.objs.size #[] 0) (t' := s.toks) (fun _ _ q => Heap.get?_push_of_some _ q) (Nat.le_refl _) (nd_new I.big), rfl,
    h _ _ (I.hok.fresh (Nat.le_refl _)) fun F => ⟨hb, #[], 0, [], rfl, rfl, List.nodup_nil, trivial⟩⟩⟩
/-- d[k] = v -/
def sNPut (w : World) (td ty tv : TE) : TS := fun D σ H => tv σ H fun v H1 => td σ H1 fun x H2 => ty σ H2 fun y H3 => ∃ a F l ky A o, x = .ref a ∧ H3 a = some o ∧ Ex F H3 ∧ NdP w l F a o ∧ (nkA ky).p F y ∧ Nk.Fd (l.map (·.1)) ky ∧ A.p F v ∧ l.length < sizeLine ∧
  ∀ o', NdP w (putN l ky A) F a o' → D.nx σ (upd H3 a o')
theorem ps_nput (hu : X.A.units + 9 < cLine) (ho : PE X o td) (hi : PE X i ty) (hv : PE X value tv) (hs : swapsWith value (some (.Subscript o i pos')) pos.line X.env = pure false) :
    PS X (.Assign [.Subscript o i pos'] value pos) (sNPut X.w td ty tv) := by
  refine ⟨fun pins s σ H D I h => ?_⟩
  refine wpAny_Assign_Subscript (thn (hv.run pins s σ H _ I h) fun r s1 ⟨v, H1, I1, rv, q1⟩ => thn (ho.run pins s1 σ H1 _ I1 q1) fun u s2 ⟨x, H2, I2, rx, q2⟩ => thn (hi.run pins s2 σ H2 _ I2 q2) fun iv s3 ⟨y, H3, I3, ry, a, F, l, ky, A, o, ex, ha, xF, nd, kA, fd, vA, hz, q3⟩ => ?_) hs
  subst ex
  obtain rfl : u = Value.ref a := rx
  obtain ⟨es, ep, rs, rfl, is, rows⟩ := nd_is I3.hok xF ha nd
  refine Nk.store hu (nk_at I3.hok ((nkA _).mono xF kA) ry) is (by rw [rows.keys]; exact fd) (by rw [← rows.len]; omega) fun h' es' ep' is' sb => ?_
  have rows' := rows_put rows ry kA rv vA
  obtain ⟨ob, w1, w2, w3⟩ := is'.ob
  refine ⟨σ, _, d_write I3 (by rw [ha]; exact True.intro) sb ⟨ob, w1⟩ ?_, q3 (ndO a es' ep') ⟨nd.sys, es', ep', _, rfl, is'.es, by rw [← rows'.keys]; exact is'.nd, rows'⟩⟩
  exact ⟨⟨ob, w1, w2, w3⟩, ⟨ob, w1⟩, fun h1 h2 ⟨o, e, q⟩ k => ⟨o, k o e, q⟩⟩
/-- d[k] -/
def tNGet (w : World) (td ty : TE) : TE := fun σ H Q => td σ H fun x H1 => ty σ H1 fun y H2 => ∃ a F l ky A o, x = .ref a ∧ H2 a = some o ∧ Ex F H2 ∧ NdP w l F a o ∧ (nkA ky).p F y ∧ Nk.Fd (l.map (·.1)) ky ∧ lookN l ky = some A ∧ ∀ z, A.p F z → Q z H2
theorem pe_nget (hu : X.A.units + 9 < cLine) (ho : PE X o td) (hi : PE X i ty) (hs : NoSl i) : PE X (.Subscript o i pos) (tNGet X.w td ty) := by
  refine ⟨fun pins s σ H Q I h => ?_⟩
  refine subD_of PySem.F.slot_dict_getitem.lookup hs (thn (ho.run pins s σ H _ I h) fun u s1 ⟨x, H1, I1, rx, q1⟩ => thn (hi.run pins s1 σ H1 _ I1 q1) fun iv s2 ⟨y, H2, I2, ry, a, F, l, ky, A, o, ex, ha, xF, nd, kA, fd, hl, q2⟩ => ?_)
  subst ex
  obtain rfl : u = Value.ref a := rx
  obtain ⟨es, ep, rs, rfl, is, rows⟩ := nd_is I2.hok xF ha nd
  refine ⟨is.ty, ?_⟩
  rcases rows_val (k := ky) rows with ⟨z, _⟩ | ⟨B, u, z, h1, h2, h3, h4⟩
  · rw [hl] at z; cases z
  · rw [hl] at h1
    obtain rfl : A = B := by simpa using h1
    exact Nk.item hu (nk_at I2.hok ((nkA _).mono xF kA) ry) is (by rw [rows.keys]; exact fd) h2 ⟨z, H2, I2.tok _, h3, q2 z h4⟩
/-- k in d, k not in d -/
def tNIn (w : World) (ng : Bool) (ty td : TE) : TE := fun σ H Q => ty σ H fun y H1 => td σ H1 fun x H2 => ∃ a F l ky o, x = .ref a ∧ H2 a = some o ∧ Ex F H2 ∧ NdP w l F a o ∧ (nkA ky).p F y ∧ Nk.Fd (l.map (·.1)) ky ∧ Q (.bl (ng ^^ (lookN l ky).isSome)) H2
theorem pc_nin (hu : X.A.units + 9 < cLine) (hi : PE X i ty) (ho : PE X o td) : PC X .In i o (tNIn X.w false ty td) := by
  refine ⟨fun pins s σ H Q I h => ?_⟩
  refine thn (hi.run pins s σ H _ I h) fun iv s1 ⟨y, H1, I1, ry, q1⟩ => thn (ho.run pins s1 σ H1 _ I1 q1) fun u s2 ⟨x, H2, I2, rx, a, F, l, ky, o, ex, ha, xF, nd, kA, fd, q2⟩ => ?_
  subst ex
  obtain rfl : u = Value.ref a := rx
  obtain ⟨es, ep, rs, rfl, is, rows⟩ := nd_is I2.hok xF ha nd
  have e : (Nk.val rs ky).isSome = (lookN l ky).isSome := by
    rcases rows_val (k := ky) rows with ⟨z1, z2⟩ | ⟨B, u, z, h1, h2, _⟩
    · rw [z1, z2]; rfl
    · rw [h1, h2]; rfl
  refine Nk.isIn hu (nk_at I2.hok ((nkA _).mono xF kA) ry) nd.sys is (by rw [rows.keys]; exact fd) ⟨.bl _, H2, I2.tok _, rfl, ?_⟩
  rw [e]
  simpa using q2
theorem pc_nnotin (hu : X.A.units + 9 < cLine) (hi : PE X i ty) (ho : PE X o td) : PC X .NotIn i o (tNIn X.w true ty td) := by
  refine ⟨fun pins s σ H Q I h => ?_⟩
  refine thn (hi.run pins s σ H _ I h) fun iv s1 ⟨y, H1, I1, ry, q1⟩ => thn (ho.run pins s1 σ H1 _ I1 q1) fun u s2 ⟨x, H2, I2, rx, a, F, l, ky, o, ex, ha, xF, nd, kA, fd, q2⟩ => ?_
  subst ex
  obtain rfl : u = Value.ref a := rx
  obtain ⟨es, ep, rs, rfl, is, rows⟩ := nd_is I2.hok xF ha nd
  have e : (Nk.val rs ky).isSome = (lookN l ky).isSome := by
    rcases rows_val (k := ky) rows with ⟨z1, z2⟩ | ⟨B, u, z, h1, h2, _⟩
    · rw [z1, z2]; rfl
    · rw [h1, h2]; rfl
  refine Nk.notIn hu (nk_at I2.hok ((nkA _).mono xF kA) ry) nd.sys is (by rw [rows.keys]; exact fd) ⟨.bl _, H2, I2.tok _, rfl, ?_⟩
  rw [e]
  simpa using q2
end
section
variable {X : Cx} {o i value : Expr} {sts : List Stmt} {ρ : List En} {A : As} {l : List (NestedKey × As)} {ky : NestedKey} {k : Nat} {pos pos' : Pos} {Nx : List En → Prop} {W : Wn}
theorem un9 (hr : Room k X.A) : X.A.units + 9 < cLine := by have := hr.un; omega
/-- reading a dict that stays -/
theorem ea_getN (hr : Room k X.A) (ho : EA X o ρ (ndA X.w l)) (hi : EA X i ρ (nkA ky)) (fd : Nk.Fd (l.map (·.1)) ky) (hl : lookN l ky = some A) (hs : NoSl i := by exact fun _ _ => rfl) : EA X (.Subscript o i pos) ρ A :=
  pe_imp (pe_nget (un9 hr) ho hi hs) fun σ H Q ⟨H0, F, S, q⟩ => ⟨H0, F, S, fun v H1 F1 g1 ⟨a, ob, ev, h1, h2⟩ => ⟨H0, F1, S.gr g1, fun y H2 F2 g2 hy =>
    ⟨a, F2, l, ky, A, ob, ev, g2.h a _ (g1.i a _ h1), g2.i, (ndOb X.w l).mono g2.f h2, hy, fd, hl, fun z hz => q z H2 F2 (g1.trans g2) hz⟩⟩⟩
theorem et_inN (hr : Room k X.A) (hi : EA X i ρ (nkA ky)) (ho : EA X o ρ (ndA X.w l)) (fd : Nk.Fd (l.map (·.1)) ky) (hm : behindInMarks .In o = false) : ET X (.Compare i [.In] [o] pos) ρ (lookN l ky).isSome :=
  pt_imp (pt_cmp (pc_nin (un9 hr) hi ho) hm) fun σ H Q ⟨H0, F, S, q⟩ => ⟨H0, F, S, fun y H1 F1 g1 hy => ⟨H0, F1, S.gr g1, fun v H2 F2 g2 ⟨a, ob, ev, h1, h2⟩ =>
    ⟨a, F2, l, ky, ob, ev, g2.i a _ h1, g2.i, h2, (nkA _).mono g2.f hy, fd, _, rfl, by simpa using q H2 F2 (g1.trans g2)⟩⟩⟩
theorem et_notinN (hr : Room k X.A) (hi : EA X i ρ (nkA ky)) (ho : EA X o ρ (ndA X.w l)) (fd : Nk.Fd (l.map (·.1)) ky) (hm : behindInMarks .NotIn o = false) : ET X (.Compare i [.NotIn] [o] pos) ρ (!(lookN l ky).isSome) :=
  pt_imp (pt_cmp (pc_nnotin (un9 hr) hi ho) hm) fun σ H Q ⟨H0, F, S, q⟩ => ⟨H0, F, S, fun y H1 F1 g1 hy => ⟨H0, F1, S.gr g1, fun v H2 F2 g2 ⟨a, ob, ev, h1, h2⟩ =>
    ⟨a, F2, l, ky, ob, ev, g2.i a _ h1, g2.i, h2, (nkA _).mono g2.f hy, fd, _, rfl, by simpa using q H2 F2 (g1.trans g2)⟩⟩⟩
/-- a dict of one's own: made, written -/
theorem sa_newD (i : Nat) {x : Str} {px p0 : Pos} (hN : X.N.Nodup) (k : Nx (ρ.set i (.ow (ndOb X.w [])))) (hi : X.N[i]? = some x := by rfl) (hx : Loc X.env.scope x := by first | exact .inl rfl | exact .inr rfl) (hs : swapsWith (.Dict [] [] p0) (some (.Name x px)) pos.line X.env = pure false := by rfl)
    (hf : X.fn x = true ∨ X.env.scope.names.lookup x = some .local := by first | exact .inl rfl | exact .inr rfl | assumption) : SA X (.Assign [.Name x px] (.Dict [] [] p0) pos) ρ Nx W :=
  ps_imp (ps_set hN hi hx pe_nnew hs hf) fun D σ H ⟨F0, H0, F, g, S, q, _⟩ p ob hp nd =>
    q _ _ _ F k (g.trans (.newH S.ex hp)) ((S.gr (.newH S.ex hp)).setM (g.h.none hp) (S.ex.none hp) upd_same (.inr ⟨_, rfl, nd F⟩) (S.newAt hp _))
theorem pe_own (i : Nat) {x : Str} {px : Pos} (hN : X.N[i]? = some x := by rfl) (hv : Vis X.env.scope x := by first | exact Or.inl rfl | exact Or.inr (Or.inl rfl) | exact Or.inr (Or.inr rfl)) (hd : (x == ("__debug__" : Str)) = false := by decide) (hcd : (x == ("__classdict__" : Str)) = false := by decide) : PE X (.Name x px) (tVar i) := pe_var hN hv hd hcd
theorem sa_putD (j : Nat) (hr : Room k X.A) (hj : ρ[j]? = some (.ow (ndOb X.w l))) (hv : EA X value ρ A) (ho : PE X o (tVar j)) (hi : EA X i ρ (nkA ky)) (fd : Nk.Fd (l.map (·.1)) ky) (hz : l.length < sizeLine) (kk : Nx (ρ.set j (.ow (ndOb X.w (putN l ky A)))))
    (hs : swapsWith value (some (.Subscript o i pos')) pos.line X.env = pure false := by rfl) : SA X (.Assign [.Subscript o i pos'] value pos) ρ Nx W := by
  refine ps_imp (ps_nput (un9 hr) ho hi hv hs) fun D σ H ⟨F0, H0, F, g, S, q, _⟩ => ⟨H0, F, S, fun v H1 F1 g1 hv1 => ?_⟩
  have S1 := S.gr g1
  obtain ⟨p, ob, h1, h2, h3, h4, h5⟩ := S1.ow j _ hj
  refine ⟨_, h1, H0, F1, S1, fun y H2 F2 g2 hy => ?_⟩
  have S2 := S1.gr g2
  obtain ⟨p', ob', h1', h2', h3', h4', h5'⟩ := S2.ow j _ hj
  obtain rfl : p' = p := by
    rw [h1] at h1'
    simpa using h1'.symm
  refine ⟨p', F2, l, ky, A, ob', rfl, h4', S2.ex, h5', hy, fd, A.mono g2.f hv1, hz, fun o' nd => ?_⟩
  obtain ⟨g3, S3⟩ := sat_wrM ((g.trans g1).trans g2) S2 hj True.intro h1' (.inr ⟨ndOb X.w (putN l ky A), rfl, nd⟩)
  exact q _ σ _ F2 kk g3 S3
/-- .. let go -/
theorem sat_freeW {H0 F0 F H : Hp} {σ : L2.St} {i : Nat} {B : Ob} (hB : ∀ F p o, F p = some o → B.p F p o → A.p F (.ref p)) (g : Gr F0 H0 F H) (S : Sat H0 F σ H ρ) (hi : ρ[i]? = some (En.ow B)) : ∃ F', Gr F0 H0 F' H ∧ Sat H0 F' σ H (ρ.set i (.fr A)) := by
  obtain ⟨p, ob, h1, h2, h3, h4, h5⟩ := S.ow i B hi
  have g' : Gr F0 H0 (upd F p ob) H := g.take h3 h2 h4
  have hi' : i < ρ.length := (List.getElem?_eq_some_iff.mp hi).1
  have at_ : ∀ {j : Nat} {y : En}, (ρ.set i (.fr A))[j]? = some y → y.Mn → i ≠ j ∧ ρ[j]? = some y := fun {j y} e m => by
    by_cases hj : i = j
    · subst hj
      rw [List.getElem?_set_self hi'] at e
      have e : En.fr A = y := by simpa using e
      rw [← e] at m
      exact m.elim
    · rw [List.getElem?_set_ne hj] at e
      exact ⟨hj, e⟩
  refine ⟨upd F p ob, g', ⟨g'.i, fun j C e => ?_, fun j m e => ?_, fun j k y z q e1 e2 m1 m2 q1 q2 => ?_, by rw [List.length_set]; exact S.len, fun j C e => ?_⟩⟩
  · by_cases hj : i = j
    · subst hj
      rw [List.getElem?_set_self hi'] at e
      obtain rfl : A = C := by simpa using e
      exact ⟨_, h1, hB _ p ob upd_same (B.mono (Ex.new h2) h5)⟩
    · rw [List.getElem?_set_ne hj] at e
      obtain ⟨v, e1, e2⟩ := S.fr j C e
      exact ⟨v, e1, C.mono (Ex.new h2) e2⟩
  · obtain ⟨hj, e⟩ := at_ e True.intro
    obtain ⟨q, ys, e1, e2, e3, e4, e5⟩ := S.own j m e
    have nq : q ≠ p := fun z => hj (S.sep i j _ _ p hi e True.intro True.intro h1 (z ▸ e1))
    exact ⟨q, ys, e1, by rw [upd_ne nq]; exact e2, e3, e4, e5.mono (Ex.new h2)⟩
  · obtain ⟨n1, e1⟩ := at_ e1 m1
    obtain ⟨n2, e2⟩ := at_ e2 m2
    exact S.sep j k y z q e1 e2 m1 m2 q1 q2
  · obtain ⟨hj, e⟩ := at_ e True.intro
    obtain ⟨q, ys, e1, e2, e3, e4, e5⟩ := S.ow j C e
    have nq : q ≠ p := fun z => hj (S.sep i j _ _ p hi e True.intro True.intro h1 (z ▸ e1))
    exact ⟨q, ys, e1, by rw [upd_ne nq]; exact e2, e3, e4, C.mono (Ex.new h2) e5⟩
theorem ba_freeD {i : Nat} (hi : ρ[i]? = some (En.ow (ndOb X.w l))) (h : BA X sts (ρ.set i (.fr (ndA X.w l))) Nx W) : BA X sts ρ Nx W := by
  refine ⟨fun pins s σ H D I ⟨F0, H0, F, g, S, q⟩ => ?_⟩
  obtain ⟨F', g', T⟩ := sat_freeW (A := ndA X.w l) (fun F p o e n => ⟨p, o, rfl, e, n⟩) g S hi
  exact h.run pins s σ H D I ⟨F0, H0, F', g', T, q⟩
/-- keys, by what is said of their parts -/
theorem nk_non {F : Hp} {v : V} (h : non.p F v) : (nkA .none).p F v := ⟨h, by decide⟩
theorem nk_int {F : Hp} {i : Int} {v : V} (h : (int i).p F v) : (nkA (.num i)).p F v := ⟨h, Nat.zero_le _⟩
theorem nk_str {F : Hp} {s : Str} {v : V} (h : (str s).p F v) : (nkA (.text s)).p F v := ⟨h, Nat.zero_le _⟩
theorem nk_allV {F : Hp} : ∀ {ks : List NestedKey} {vs : List V}, AllV F vs (ks.map nkA) → NkAll F ks vs
  | [], [], _ => trivial
  | k :: ks, v :: vs, h => ⟨h.1.1, nk_allV h.2⟩
  | [], _ :: _, h => h.elim
  | _ :: _, [], h => h.elim
theorem nk_tup {F : Hp} {ks : List NestedKey} {v : V} (hd : NestedKey.depthAll ks ≤ 7) (h : (tupA (ks.map nkA)).p F v) : (nkA (.tup ks)).p F v := by
  obtain ⟨a, xs, e, h1, h2⟩ := h
  refine ⟨?_, ?_⟩
  · unfold NkA
    exact ⟨a, xs, e, h1, nk_allV h2⟩
  · simp only [NestedKey.depth]
    omega
end
end Lk

set_option Elab.async false
set_option linter.all false
set_option maxRecDepth 100000
set_option maxHeartbeats 4000000
namespace Lk
open PySem PySem.Calls L2 PySem.Spec PyProof.Rows NdefX
section
variable {X : Cx} {e a : Expr} {es : List Expr} {ρ : List En} {pos p1 p2 : Pos} {m : Str} {j k : Nat}
/-! ### f'..{t!r}', t a tuple of texts -/
def tReprT (K : PySem.W.Frag) (te : TE) : TE := fun σ H Q => te σ H fun x H1 => ∃ (b : Addr) (l : List Str), x = .ref b ∧ SqT K H1 b (l.map V.str) ∧ (∀ y ∈ l, ∀ c ∈ y.cps.toList, c < 16 ^ 8) ∧ fmtCost l + 7 ≤ sizeLine ∧ ∀ z : Str, z.length ≤ fmtCost l + 7 → Q (.str z) H1
theorem pe_reprT {te : TE} (hr : Room k X.A) (he : PE X e te) : PE X (.FormattedValue e 114 none pos) (tReprT X.K te) := by
  refine ⟨fun pins s σ H Q I h => ?_⟩
  refine wpAny_FormattedValue_repr (thn (he.run pins s σ H _ I h) fun v s1 ⟨x, H1, I1, r1, b, l, ex, ht, hc, hz, q⟩ => ?_)
  subst ex
  cases r1
  obtain ⟨its, rv, ⟨o, ho, hcl, n, hd⟩, _⟩ := I1.tuple ht
  have z1 := fmt_piled l hc
  have z2 := fmt_text (l.map reprText)
  have hu := hr.units
  refine wpAny_pyReprObj_slot (by omega) ⟨o, ho, hcl⟩ F.slot_tuple_repr (fmt_tuple_repr (ts := l.map reprText) ho hcl hd (repr_all rv fun y hy => ?_) (by omega) fun t u tk ht => ⟨t, u, rfl, ?_⟩)
  · have z3 := StrLaws.reprText_len y (hc y hy)
    have z4 := fmtCost_mem hy
    omega
  · exact wpAny_formatField_str ⟨.str t, H1, I1.tok _, ⟨u, rfl⟩, q t (by omega)⟩ ⟨.str t, H1, (I1.tok _).tok _, ⟨_, rfl⟩, q t (by omega)⟩ (by omega)
theorem ea_fsT {l : List Str} (hr : Room k X.A) (he : EA X e ρ (tupA (l.map str))) (hc : ∀ y ∈ l, ∀ c ∈ y.cps.toList, c < 16 ^ 8) (hl : fmtCost l ≤ 10000000) (hm : m.length ≤ 100000) : EA X (.JoinedStr [.Constant (.str m) j p1, .FormattedValue e 114 none p2] pos) ρ anyS :=
  pe_imp (pe_joined (.cons (ea_str (ρ := ρ) (s := m)) (.cons (pe_reprT hr he) .nil))) fun σ H Q ⟨H0, F, S, q⟩ => ⟨H0, F, S, fun v H1 F1 g1 h1 => by
    have h1 : v = .str m := h1
    subst h1
    refine ⟨m, rfl, ?_, H0, F1, S.gr g1, fun v H2 F2 g2 h2 => ?_⟩
    · show (Str.empty ++ m).length ≤ sizeLine
      rw [app_len, sizeLine_eq]
      have : Str.empty.length = 0 := rfl
      omega
    · obtain ⟨b, rfl, hb⟩ := strs_at h2
      refine ⟨b, l, rfl, SqT.of (g2.i b _ hb), hc, by rw [sizeLine_eq]; omega, fun z hz => ⟨z, rfl, ?_, q _ H2 F2 (g1.trans g2) ⟨_, trivial, rfl⟩⟩⟩
      rw [app_len, app_len, sizeLine_eq]
      have : Str.empty.length = 0 := rfl
      omega⟩
/-! ### xs.count(True) -/
def isT (v : Value) : Bool := match v with
  | .bool b => b
  | _ => false
theorem bls_eq : ∀ {us : List Value} {bs : List Bool}, Vals (bs.map V.bl) us → us = bs.map Value.bool
  | _, [], .nil => rfl
  | _, b :: bs, .cons r t => by
    obtain rfl := r
    rw [bls_eq t]
    rfl
theorem cnt_bls : ∀ bs : List Bool, (bs.map Value.bool).countP isT = bs.count true
  | [] => rfl
  | b :: bs => by
    rw [List.map_cons, List.countP_cons, List.count_cons, cnt_bls bs]
    cases b <;> rfl
def rCntB (K : PySem.W.Frag) : V → List V → Hp → VK → Prop := fun x xs H Q => ∃ (p : Addr) (bs : List Bool), x = .ref p ∧ xs = [.bl true] ∧ SqL K H p (bs.map V.bl) ∧ Q (.int (bs.count true : Nat)) H
theorem mt_cntB : MtR X "list.count" (rCntB X.K) := by
  intro pins s σ H x xs v us Q I rx rxs h
  obtain ⟨p, bs, rfl, rfl, hs, q⟩ := h
  cases rx
  obtain ⟨u, rfl, ru⟩ := rxs.one
  obtain rfl : u = .bool true := ru
  obtain ⟨its, rv, ⟨⟨cls, dd, data, sl⟩, n, ho, hc, hdn, hd⟩, hlen⟩ := I.list hs
  simp only at hc hd
  subst hc hd
  obtain rfl := bls_eq rv
  refine call_meets PySem.F.slot_list_count ⟨_, ho, rfl⟩ PySem.F.entry_list_count (PySem.F.args_list_count_2 _ _)
    (SeqAt.list_countAt p (bs.map Value.bool).toArray n dd sl (.bool true) isT) ⟨ho, fun y hy => ?_, ?_⟩
  · obtain ⟨b, _, rfl⟩ := List.mem_map.mp (by simpa using hy : y ∈ bs.map Value.bool)
    refine SeqAt.EqAt.cast (b := b == true) ?_ (by cases b <;> rfl)
    exact SeqAt.EqAt.bool_bool b true
  · refine ⟨.int (bs.count true : Nat), H, I.tok _, ⟨s.toks, ?_⟩, q⟩
    show Value.int ((((bs.map Value.bool).toArray.toList.countP isT : Nat)) : Int) s.toks = Value.int ((bs.count true : Nat) : Int) s.toks
    rw [List.toList_toArray, cnt_bls]
theorem ea_cntB {bs : List Bool} {apos cpos : Pos} {jj} (ho : EL X a ρ (bs.map bl)) (hbase : attributeBase a "count" X.env (eval a X.env) = eval a X.env := by rfl)
    (hfew : ((backTo cpos (starEach [Expr.Constant (.bool true) jj p1] X.env)).all (fun x => !x.1) && (backToKw cpos (keywordEach [] X.env)).all (fun x => x.1.isSome) && decide ([Expr.Constant (.bool true) jj p1].length + ([] : List Keyword).length + (if ([] : List Keyword).isEmpty then 0 else 1) < 30)) = true := by rfl)
    (hline : (apos.endLine == cpos.line) = true := by rfl) (hs : starEach [Expr.Constant (.bool true) jj p1] X.env = (false, eval (.Constant (.bool true) jj p1) X.env) :: starEach [] X.env := by rfl) (hplain : (backTo cpos (starEach [] X.env)).any (·.1) = false := by rfl) :
    EA X (.Call (.Attribute a "count" apos) [.Constant (.bool true) jj p1] [] cpos) ρ (nat (bs.count true)) :=
  pe_imp (pe_bm PySem.F.plainAttrs_list PySem.F.slot_list_count PySem.F.type_list_count mt_cntB ho (pa_cons (ea_bl (ρ := ρ)) pa_nil hs) hbase hfew hline hs hplain) fun σ H Q ⟨H0, F, S, q⟩ => ⟨H0, F, S, fun p xs H1 F1 g1 h1 h2 => ⟨.inl ⟨rfl, _, SqL.of h1⟩, H0, F1, S.gr g1, fun v H2 F2 g2 hv => by
    have hv : v = .bl true := hv
    subst hv
    have e : xs = bs.map V.bl := AllV.scs (F := F1) (by rw [List.map_map]; exact h2)
    subst e
    exact ⟨p, bs, rfl, rfl, SqL.of (g2.h p _ h1), q _ H2 F2 (g1.trans g2) rfl⟩⟩⟩
/-! ### two side by side, for == -/
theorem dpPair {K : PySem.W.Frag} {A B : As} {d e : PyData} (h1 : Dat K A d) (h2 : Dat K B e) : Dat K (tupA [A, B]) (.tuple [d, e]) := fun H v ⟨a, xs, ev, z1, z2⟩ => by
  subst ev
  match xs, z2 with
  | [x, y], ⟨k1, k2, _⟩ => exact .tup (SqT.of z1) (.cons (h1 _ _ k1) (.cons (h2 _ _ k2) .nil))
theorem enc_two {K : PySem.W.Frag} {α β : Type} [DecidableEq α] [DecidableEq β] {n : Nat} {f : α → As} {g : β → As} {ok1 : α → Prop} {ok2 : β → Prop} (h1 : Enc K n f ok1) (h2 : Enc K n g ok2) : Enc K (n + 1) (fun x : α × β => tupA [f x.1, g x.2]) (fun x => ok1 x.1 ∧ ok2 x.2) := by
  obtain ⟨d, a1, a2, a3, a4⟩ := h1.ex
  obtain ⟨e, b1, b2, b3, b4⟩ := h2.ex
  refine ⟨fun x => .tuple [d x.1, e x.2], fun x => dpPair (a1 x.1) (b1 x.2), fun x y => ?_, fun x => ?_, fun x hx => ?_⟩
  · rw [PyData.eqv, PyData.eqvAll, PyData.eqvAll, PyData.eqvAll, a2, b2, Bool.and_true, Bool.eq_iff_iff]
    simp [Prod.ext_iff]
  · have z1 := a3 x.1
    have z2 := b3 x.2
    simp only [PyData.depth, PyData.depthAll]
    omega
  · have z1 := a4 x.1 hx.1
    have z2 := b4 x.2 hx.2
    simp only [PyData.canLay0, PyData.canLayAll0]
    rw [z1, z2]
    rfl
theorem enc_up {K : PySem.W.Frag} {α : Type} [DecidableEq α] {n m : Nat} {f : α → As} {ok : α → Prop} (h : Enc K n f ok) (le : n ≤ m) : Enc K m f ok := let ⟨d, a1, a2, a3, a4⟩ := h.ex; ⟨d, a1, a2, fun a => Nat.le_trans (a3 a) le, a4⟩
end
end Lk

set_option Elab.async false
set_option linter.all false
set_option maxRecDepth 100000
set_option maxHeartbeats 4000000
namespace Lk
open PySem PySem.Calls L2 NdefX
/-! ### what a law's top has written -/
section
variable {P : Program} {w : World} {K : PySem.W.Frag} {mg : Str → Option Value} {base h : Heap} {C : Addr}
/-- a def of the module -/
structure FnAt (K : PySem.W.Frag) (x : Str) (st : Stmt) : Prop where
  ex : ∃ f fd, PySem.W.nsIn K mainGlobals x = some (some (.ref f)) ∧ Fun K x x st f fd
theorem fn_at {x : Str} {st : Stmt} {f : Addr} {oc : Value} {od an : Option Addr} {osl : Array (Option Value)} {kV doc pm cdv ct : Value} (a : PySem.W.nsIn K mainGlobals x = some (some (.ref f))) (l : K.lookup f = some ⟨oc, od, .func (PySem.W.fnOf x x (defArgs st) (defBody st) (defScope st) .none kV doc pm an cdv ct), osl⟩)
    (c : PySem.W.codeIn K cdv x = true) (k : PySem.W.keepIn K (.ref f) = true) : FnAt K x st := ⟨f, _, a, fun_mk l c k⟩
/-- a method -/
structure MtAt (K : PySem.W.Frag) (C : Addr) (m qual : Str) (st : Stmt) : Prop where
  ex : ∃ f fd, Meth K C m f ∧ Fun K m qual st f fd
theorem mt_at {m qual : Str} {st : Stmt} {f : Addr} {oc : Value} {od an : Option Addr} {osl : Array (Option Value)} {kV doc pm cdv ct : Value} (a : PySem.W.findIn K (.ref C) m = some (some (.ref f))) (i : PySem.W.isFn K (.ref f) = true) (l : K.lookup f = some ⟨oc, od, .func (PySem.W.fnOf m qual (defArgs st) (defBody st) (defScope st) .none kV doc pm an cdv ct), osl⟩)
    (c : PySem.W.codeIn K cdv qual = true) (k : PySem.W.keepIn K (.ref f) = true) : MtAt K C m qual st := ⟨f, _, ⟨a, i, k⟩, fun_mk l c k⟩
/-- a property -/
structure PrAt (K : PySem.W.Frag) (C : Addr) (m qual : Str) (st : Stmt) : Prop where
  ex : ∃ p g fd, PropOf K C m p g ∧ Fun K m qual st g fd
theorem pr_at {m qual : Str} {st : Stmt} {p g : Addr} {rest : List Value} {oc : Value} {od an : Option Addr} {osl : Array (Option Value)} {kV doc pm cdv ct : Value} (a : PySem.W.findIn K (.ref C) m = some (some (.ref p))) (gt : PySem.W.specialIn K (.ref p) "__get__" = some (some (.builtin "property.__get__"))) (tk : PySem.W.takesIn K (.ref p) = some true) (rc : PySem.W.recIn K p "property" = some (.ref g :: rest))
    (l : K.lookup g = some ⟨oc, od, .func (PySem.W.fnOf m qual (defArgs st) (defBody st) (defScope st) .none kV doc pm an cdv ct), osl⟩) (c : PySem.W.codeIn K cdv qual = true) (k : PySem.W.keepIn K (.ref g) = true) : PrAt K C m qual st := ⟨p, g, _, ⟨a, gt, tk, ⟨rest, rc⟩⟩, fun_mk l c k⟩
/-- the constructor of a class -/
structure MkAt (K : PySem.W.Frag) (C : Addr) (x qual : Str) (st : Stmt) (dvs : List V) : Prop where
  nm : PySem.W.nsIn K mainGlobals x = some (some (.ref C))
  ex : ∃ f fd, Mk K C f ∧ FunD K "__init__" qual (defArgs st) (defBody st) (defScope st) dvs [] f fd
theorem mk_at0 {x qual : Str} {st : Stmt} {f : Addr} {oc : Value} {od an : Option Addr} {osl : Array (Option Value)} {kV doc pm cdv ct : Value} (n : PySem.W.nsIn K mainGlobals x = some (some (.ref C))) (m : PySem.W.makesIn K C = true) (kc : PySem.W.keepIn K (.ref C) = true) (a : PySem.W.findIn K (.ref C) "__init__" = some (some (.ref f))) (i : PySem.W.isFn K (.ref f) = true)
    (l : K.lookup f = some ⟨oc, od, .func (PySem.W.fnOf "__init__" qual (defArgs st) (defBody st) (defScope st) .none kV doc pm an cdv ct), osl⟩) (c : PySem.W.codeIn K cdv qual = true) (k : PySem.W.keepIn K (.ref f) = true) : MkAt K C x qual st [] := ⟨n, f, _, ⟨m, a, i, kc⟩, ⟨⟨oc, od, .none, kV, doc, pm, an, cdv, ct, osl, rfl, l, c, .inl ⟨rfl, rfl⟩, .inl rfl⟩, k⟩⟩
theorem mk_at1 {x qual : Str} {st : Stmt} {f tt ea : Addr} {oc tc : Value} {od an td : Option Addr} {osl tsl : Array (Option Value)} {kV doc pm cdv ct : Value} {tn : Nat} (n : PySem.W.nsIn K mainGlobals x = some (some (.ref C))) (m : PySem.W.makesIn K C = true) (kc : PySem.W.keepIn K (.ref C) = true) (a : PySem.W.findIn K (.ref C) "__init__" = some (some (.ref f))) (i : PySem.W.isFn K (.ref f) = true)
    (l : K.lookup f = some ⟨oc, od, .func (PySem.W.fnOf "__init__" qual (defArgs st) (defBody st) (defScope st) (.ref tt) kV doc pm an cdv ct), osl⟩) (lt : K.lookup tt = some ⟨tc, td, .seq #[.ref ea] tn, tsl⟩) (c : PySem.W.codeIn K cdv qual = true) (k : PySem.W.keepIn K (.ref f) = true) : MkAt K C x qual st [.ref ea] :=
  ⟨n, f, _, ⟨m, a, i, kc⟩, ⟨⟨oc, od, .ref tt, kV, doc, pm, an, cdv, ct, osl, rfl, l, c, .inr ⟨by simp, tt, _, [.ref ea], tn, rfl, lt, rfl, .cons rfl .nil⟩, .inl rfl⟩, k⟩⟩
/-- the def of a constructor without defaults -/
theorem MkAt.plain {x qual : Str} {st : Stmt} (M : MkAt K C x qual st []) : ∃ f fd, Mk K C f ∧ Fun K "__init__" qual st f fd := by
  obtain ⟨f, fd, h, FM⟩ := M.ex
  refine ⟨f, fd, h, ?_⟩
  obtain ⟨oc, od, dV, kV, doc, pm, an, cdv, ct, osl, rfl, lk, hcd, hD, _⟩ := FM.ex
  rcases hD with ⟨_, rfl⟩ | ⟨e, _⟩
  · exact ⟨⟨oc, od, kV, doc, pm, an, cdv, ct, osl, rfl, lk, hcd⟩, FM.kp⟩
  · exact absurd rfl e
/-- an error class caught by one above it -/
theorem exm_sub {S D : Addr} (h1 : PySem.W.subIn K (.ref D) (.type "BaseException") = some true) (h2 : PySem.W.isClsIn K D = true) (h3 : PySem.W.typeIn K (.ref D) = some (.type "type")) (h4 : PySem.W.subIn K (.ref S) (.ref D) = some true) : PySem.W.exmOne K (.ref S) (.ref D) = some true := by
  have e1 : (PySem.W.subIn K (.ref D) (.type "BaseException") == some true) = true := by rw [h1] <;> rfl
  have e2 : ((PySem.W.clsIn K D).isSome && PySem.W.typeIn K (.ref D) == some (.type "type")) = true := by
    have h2' : (PySem.W.clsIn K D).isSome = true := h2
    rw [h2', h3] <;> rfl
  show (if (PySem.W.subIn K (.ref D) (.type "BaseException") == some true) = true then (if ((PySem.W.clsIn K D).isSome && PySem.W.typeIn K (.ref D) == some (.type "type")) = true then PySem.W.subIn K (.ref S) (.ref D) else none) else none) = some true
  rw [if_pos e1, if_pos e2]
  exact h4
end
end Lk

set_option Elab.async false
set_option linter.all false
set_option maxRecDepth 100000
set_option maxHeartbeats 4000000
namespace Lk
open PySem PySem.Calls L2 PySem.Spec PyProof.Rows
/-! ### an instance of one's own, being made -/
def insOb (C p : Addr) (fs : List (Str × As)) : Ob := ⟨fun F a o => a = p ∧ ∃ dx vs, o = .ins C dx ((fs.map Prod.fst).zip vs) ∧ AllV F vs (fs.map Prod.snd), fun e ⟨h, dx, vs, h1, h2⟩ => ⟨h, dx, vs, h1, h2.mono e⟩⟩
theorem ins_free {C p : Addr} {fs : List (Str × As)} : ∀ F a o, F a = some o → (insOb C p fs).p F a o → (insA C fs).p F (.ref a) := fun F a o e ⟨_, dx, vs, h1, h2⟩ => ⟨a, dx, vs, rfl, by rw [e, h1], h2⟩
theorem putF_new {f : Str} {v : V} : ∀ {fs : List (Str × V)}, fs.lookup f = none → putF f v fs = fs ++ [(f, v)]
  | [], _ => rfl
  | (g, u) :: fs, h => by
    rw [List.lookup] at h
    cases c : f == g with
    | true => rw [c] at h; cases h
    | false =>
      rw [c] at h
      have ih := putF_new (v := v) h
      have ne : ¬ g = f := fun z => by rw [z] at c; simp at c
      simp only [putF]
      first
      | rw [if_neg ne, ih]; rfl
      | simp [ne, ih]
theorem zip_snoc {α β : Type} {a : α} {b : β} : ∀ {l : List α} {m : List β}, l.length = m.length → (l ++ [a]).zip (m ++ [b]) = l.zip m ++ [(a, b)]
  | [], [], _ => rfl
  | x :: l, y :: m, h => by
    rw [List.cons_append, List.cons_append, List.zip_cons_cons, List.zip_cons_cons, zip_snoc (by simpa using h)]
    rfl
  | [], _ :: _, h => by simp at h
  | _ :: _, [], h => by simp at h
def entryI (C p : Addr) (N : List Str) (l : List As) : List En := .ow (insOb C p []) :: (l.map En.fr ++ List.replicate (N.length - 1 - l.length) En.no)
section
variable {X : Cx} {o value : Expr} {ρ : List En} {A : As} {fs : List (Str × As)} {f : Str} {C p : Addr} {pos pos' : Pos} {Nx : List En → Prop} {W : Wn}
/-- self.f = e, a new field -/
theorem sa_fldI (i : Nat) (hi : ρ[i]? = some (.ow (insOb C p fs))) (hv : EA X value ρ A) (ho : PE X o (tVar i)) (hC : Cls X.K C) (hn : NoAttr X.K C f) (hf : fs.lookup f = none) (hz : fs.length < 1000) (k : Nx (ρ.set i (.ow (insOb C p (fs ++ [(f, A)])))))
    (hs : swapsWith value (some (.Attribute o f pos')) pos.line X.env = pure false := by rfl) : SA X (.Assign [.Attribute o f pos'] value pos) ρ Nx W := by
  refine ps_imp (ps_fld ho hv hs) fun D σ H ⟨F0, H0, F, g, S, q, _⟩ => ⟨H0, F, S, fun v H1 F1 g1 hv1 => ?_⟩
  have S1 := S.gr g1
  obtain ⟨a, ob, h1, h2, h3, h4, rfl, dx, vs, rfl, h5⟩ := S1.ow i _ hi
  have hl : (fs.map Prod.fst).length = vs.length := by rw [h5.length, List.length_map, List.length_map]
  have hno := zip_nolook (f := f) h5 hf
  refine ⟨_, h1, a, C, dx, _, rfl, h4, hC, hn, by rw [List.length_zip, List.length_map]; omega, ?_⟩
  rw [putF_new hno, ← zip_snoc hl]
  obtain ⟨g3, S3⟩ := sat_wrM (o' := .ins C dx ((fs.map Prod.fst ++ [f]).zip (vs ++ [v]))) (x' := .ow (insOb C a (fs ++ [(f, A)]))) (g.trans g1) S1 hi True.intro h1 (.inr ⟨_, rfl, rfl, dx, vs ++ [v], by rw [List.map_append]; rfl, by rw [List.map_append]; exact h5.snoc hv1⟩)
  exact q _ σ _ F1 k g3 S3
/-- self.f -/
theorem ea_fldI (i : Nat) (hi : ρ[i]? = some (.ow (insOb C p fs))) (ho : PE X o (tVar i)) (hC : Cls X.K C) (hn : NoAttr X.K C f) (hf : fs.lookup f = some A) (hb : attributeBase o f X.env (eval o X.env) = eval o X.env := by rfl) : EA X (.Attribute o f pos) ρ A :=
  pe_imp (pe_fld ho hb) fun σ H Q ⟨H0, F, S, q⟩ => by
    obtain ⟨a, ob, h1, h2, h3, h4, rfl, dx, vs, rfl, h5⟩ := S.ow i _ hi
    obtain ⟨u, hu, hA⟩ := zip_lookup h5 hf
    exact ⟨_, h1, a, C, dx, _, u, rfl, h4, hC, hn, hu, q u H F (.refl S.ex) hA⟩
end
theorem fn_okMk {P : Program} {w : World} {K : PySem.W.Frag} {mg : Str → Option Value} {base : Heap} {qual : Str} {st : Stmt} {f C : Addr} {fd : FuncData} {N ps : List Str} {k : Nat} {ι : Type} {pre : ι → Prop} {l : ι → List As} {A : ι → As} (F : Fun K "__init__" qual st f fd) (S : FnScope N ps (defScope st)) (hl : ∀ i, pre i → (l i).length + 1 = ps.length)
    (hb : ∀ (i : ι) (p : Addr) (cdv : Value) (B : Around) (outer : List Env) (s : Shared) (H : Hp) (E : XK), pre i → Room k (B.deeper (PyProof.Rows.envOfC qual (defScope st) s.heap.objs.size f cdv)) →
      BA (cxOf CX0 P w K mg base N qual (defScope st) f cdv B outer s H E).nox (defBody st) (entryI C p N (l i)) (fun ρ' => ∃ fs, ρ'[0]? = some (.ow (insOb C p fs)) ∧ ∀ F v, (insA C fs).p F v → (A i).p F v) { R := ⟨fun _ _ => False, fun _ h => h⟩ }) : FnOk P w K mg base CX0 (k + 1) f fd ps (spMk C pre l A) := by
  refine F.ok S (fun vs H Q E h => ?_) (fun cdv B outer s H vs Q E hr h => ?_)
  · obtain ⟨i, hp, H1, F1, p, dx, as, rfl, _, _, _, _, _, hv, _⟩ := h
    rw [List.length_cons, hv.length, hl i hp]
  · obtain ⟨i, hp, H1, F1, p, dx, as, rfl, rfl, hn, hdx, hne, ex, hall, q⟩ := h
    have x0 : Ex H1 (upd (upd H1 dx (.own p)) p (.ins C dx [])) := fun a o z => by
      rw [upd_ne (ne_of_none z hn), upd_ne (ne_of_none z hdx)]
      exact z
    have f1p : F1 p = none := ex.none hn
    have hlen := hall.length
    have la : (l i).length + 1 = ps.length := hl i hp
    have nm : ∀ {j : Nat} {y : En}, (entryI C p N (l i))[j]? = some y → y.Mn → j = 0 ∧ y = .ow (insOb C p []) := fun {j y} e m => by
      cases j with
      | zero => exact ⟨rfl, by simpa [entryI] using e.symm⟩
      | succ j =>
        exfalso
        have e : ((l i).map En.fr ++ List.replicate (N.length - 1 - (l i).length) En.no)[j]? = some y := by simpa [entryI] using e
        rcases List.mem_append.mp (List.mem_of_getElem? e) with z | z
        · obtain ⟨B, _, rfl⟩ := List.mem_map.mp z
          exact m
        · rw [(List.mem_replicate.mp z).2] at m
          exact m
    have hps : ps.length ≤ N.length := by
      have z := congrArg List.length S.pre
      rw [List.length_take] at z
      omega
    have S0 : Sat H1 F1 (L2.start N (.ref p :: as)) (upd (upd H1 dx (.own p)) p (.ins C dx [])) (entryI C p N (l i)) := by
      refine ⟨ex.trans x0, fun j B e => ?_, fun j m e => ?_, fun j j' y y' a e1 e2 m1 m2 _ _ => ?_, ?_, fun j B e => ?_⟩
      · cases j with
        | zero => simp [entryI] at e
        | succ j =>
          have e : ((l i).map En.fr ++ List.replicate (N.length - 1 - (l i).length) En.no)[j]? = some (.fr B) := by simpa [entryI] using e
          by_cases hj : j < (l i).length
          · rw [List.getElem?_append_left (by simpa using hj), List.getElem?_map] at e
            cases z : (l i)[j]? with
            | none => rw [z] at e; cases e
            | some B' =>
              rw [z] at e
              obtain rfl : B' = B := by simpa using e
              obtain ⟨v, h1, h2⟩ := hall.get z
              refine ⟨v, ?_, h2⟩
              unfold L2.start
              rw [List.map_cons, List.cons_append, List.getElem?_cons_succ, List.getElem?_append_left (by simpa [hlen] using hj), List.getElem?_map, h1]
              rfl
          · rw [List.getElem?_append_right (by simpa using Nat.le_of_not_lt hj)] at e
            cases (List.mem_replicate.mp (List.mem_of_getElem? e)).2
      · cases (nm e True.intro).2
      · rw [(nm e1 m1).1, (nm e2 m2).1]
      · unfold entryI L2.start
        simp only [List.length_cons, List.length_append, List.length_map, List.length_replicate]
        omega
      · obtain ⟨rfl, z⟩ := nm e True.intro
        obtain rfl : B = insOb C p [] := by simpa using z
        exact ⟨p, _, rfl, f1p, hn, upd_same, rfl, dx, [], rfl, trivial⟩
    refine ⟨_, hb i p cdv B outer s _ E hp hr, F1, H1, F1, ⟨Ex.refl F1, x0, ex.trans x0, fun _ _ _ h => h⟩, S0, fun ρ' σ' H' F' ⟨fs, h0, hA⟩ g S' => ?_, fun v H' F' g z => z.elim, fun _ _ _ _ z => z.elim, fun _ _ _ _ z => z.elim, fun _ _ _ _ _ _ z => z.elim⟩
    obtain ⟨a, o, h1, h2, h3, h4, h5⟩ := S'.ow 0 _ h0
    obtain rfl : a = p := h5.1
    exact q H' (upd F' a o) (g.take h3 h2 h4) (hA _ _ (ins_free _ a o upd_same ((insOb C a fs).mono (Ex.new h2) h5)))
end Lk

set_option Elab.async false
set_option linter.all false
set_option maxRecDepth 100000
set_option maxHeartbeats 4000000
namespace Lk
open PySem PySem.Calls L2 PySem.Spec PyProof.Rows
/-! ### the keys and the values of such a dict, walked -/
def ItR (d : Addr) (o : HO) (ys : List V) : It := ⟨fun i H => H d = some o ∧ i < ys.length, fun i H x H' => H' = H ∧ ys[i]? = some x, fun i H => H d = some o ∧ ys.length ≤ i⟩
theorem srcR {d : Addr} {o : HO} {ys : List V} : Src (ItR d o ys) ys (fun H => H d = some o) := fun i H q => ⟨fun x hx => ⟨q, (List.getElem?_eq_some_iff.mp hx).1⟩, fun _ x H' y => y, fun z => ⟨q, z⟩⟩
theorem raw_of {P : Program} {w : World} {H : Hp} {h : Heap} (ok : HOk P w H h) {d : Addr} {es : Array DictEntry} {ep : Nat} (e : H d = some (ndO d es ep)) : h.DictRaw d es ep := (show ObjOk P w H h d (ndO d es ep) from ok d _ e).1
section
variable {P : Program} {w : World} {K : PySem.W.Frag} {tg : Expr} {d it : Addr} {es : Array DictEntry} {ep : Nat} {ys : List V}
theorem turn_rawK (hy : Vals ys (es.toList.map (·.key))) : Turn P w K tg (ItR d (ndO d es ep) ys) [it] it (fun i h => h.IsKeyIter it d i es.size ep) where
  mem := List.mem_singleton.mpr rfl
  obj := fun i h st b hb => by
    obtain rfl : b = it := List.mem_singleton.mp hb
    obtain ⟨ob, e1, e2, e3⟩ := st
    exact ⟨ob, e1, fun v z => by rw [e3] at z; cases z⟩
  keep := fun i h h' st k => st.at fun ob e => k it (List.mem_singleton.mpr rfl) ob e
  item := by
    intro X hP hw hK hc i pins s σ H E I hf st ⟨hd, hi⟩
    subst hP hw hK
    obtain ⟨f0, f1, f2, f3, f4, f5⟩ := hf it (List.mem_singleton.mpr rfl)
    have hl : ys.length = es.size := by
      have z := hy.length
      simpa using z
    have hlt : i < es.size := by omega
    obtain ⟨u, h1, h2⟩ := hy.get (List.getElem?_eq_getElem hi)
    have eu : u = es[i].key := by
      rw [List.getElem?_map, Array.getElem?_toList, Array.getElem?_eq_getElem hlt] at h1
      simpa using h1.symm
    refine wpAny_pyNext_keys_item_raw st (raw_of I.hok hd) hlt fun h' st' sb => ?_
    have I1 : Inv X pins σ H { s with heap := h' } := I.turned (t' := s.toks) (fun b ob hb e => (sb.2 b hb).trans e) f0 f1 f3 f4 f5
    obtain ⟨ob, e1, e2, e3⟩ := id st'
    exact ⟨_, rfl, go_of (s := { s with heap := h' }) e1 e2 e3 (by decide) ⟨ys[i], H, I1, eu ▸ h2, ⟨rfl, List.getElem?_eq_getElem hi⟩, st', fun b hb => (hf b hb).1⟩⟩
  done := by
    intro X hP hw hK hc i pins s σ H E I hf st ⟨hd, hi⟩
    subst hP hw hK
    obtain ⟨f0, f1, f2, f3, f4, f5⟩ := hf it (List.mem_singleton.mpr rfl)
    have hl : ys.length = es.size := by
      have z := hy.length
      simpa using z
    exact wpAny_pyNext_keys_end_raw (I.ok.hd hc) st (raw_of I.hok hd) (by omega) fun h' eb => ⟨rfl, I.turned (t' := s.toks) (fun b ob hb e => eb b ob hb e) f0 f1 f3 f4 f5⟩
  self := fun A i s Q E st h => wpAny_pyIter_keyiter st h
theorem turn_rawV (hy : Vals ys (es.toList.map (·.val))) : Turn P w K tg (ItR d (ndO d es ep) ys) [it] it (fun i h => h.IsValIter it d i es.size ep) where
  mem := List.mem_singleton.mpr rfl
  obj := fun i h st b hb => by
    obtain rfl : b = it := List.mem_singleton.mp hb
    obtain ⟨ob, e1, e2, e3⟩ := st
    exact ⟨ob, e1, fun v z => by rw [e3] at z; cases z⟩
  keep := fun i h h' st k => let ⟨ob, e1, e2⟩ := st; ⟨ob, k it (List.mem_singleton.mpr rfl) ob e1, e2⟩
  item := by
    intro X hP hw hK hc i pins s σ H E I hf st ⟨hd, hi⟩
    subst hP hw hK
    obtain ⟨f0, f1, f2, f3, f4, f5⟩ := hf it (List.mem_singleton.mpr rfl)
    have hl : ys.length = es.size := by
      have z := hy.length
      simpa using z
    have hlt : i < es.size := by omega
    obtain ⟨u, h1, h2⟩ := hy.get (List.getElem?_eq_getElem hi)
    have eu : u = es[i].val := by
      rw [List.getElem?_map, Array.getElem?_toList, Array.getElem?_eq_getElem hlt] at h1
      simpa using h1.symm
    refine wpAny_pyNext_values_item_raw st (raw_of I.hok hd) hlt fun h' st' sb => ?_
    have I1 : Inv X pins σ H { s with heap := h' } := I.turned (t' := s.toks) (fun b ob hb e => (sb.2 b hb).trans e) f0 f1 f3 f4 f5
    obtain ⟨ob, e1, e2, e3⟩ := id st'
    exact ⟨_, rfl, go_of (s := { s with heap := h' }) e1 e2 e3 (by decide) ⟨ys[i], H, I1, eu ▸ h2, ⟨rfl, List.getElem?_eq_getElem hi⟩, st', fun b hb => (hf b hb).1⟩⟩
  done := by
    intro X hP hw hK hc i pins s σ H E I hf st ⟨hd, hi⟩
    subst hP hw hK
    obtain ⟨f0, f1, f2, f3, f4, f5⟩ := hf it (List.mem_singleton.mpr rfl)
    have hl : ys.length = es.size := by
      have z := hy.length
      simpa using z
    exact wpAny_pyNext_values_end_raw (I.ok.hd hc) st (raw_of I.hok hd) (by omega) fun h' eb => ⟨rfl, I.turned (t' := s.toks) (fun b ob hb e => eb b ob hb e) f0 f1 f3 f4 f5⟩
  self := fun A i s Q E st h => wpAny_pyIter_valiter st h
/-- the keys, the values, as the walk gives them -/
theorem rows_keysV {F : Hp} : ∀ {l : List (NestedKey × As)} {rs : List Nk.Row}, RowsA F l rs → ∃ ys, Vals ys (rs.map (·.2.1)) ∧ AllV F ys (l.map fun x => nkA x.1)
  | [], [], _ => ⟨[], .nil, trivial⟩
  | x :: l, r :: rs, h => by
    obtain ⟨ys, h1, h2⟩ := rows_keysV h.2
    obtain ⟨_, y, z, r1, r2, k1, k2⟩ := h.1
    exact ⟨y :: ys, .cons r1 h1, k1, h2⟩
  | [], _ :: _, h => h.elim
  | _ :: _, [], h => h.elim
theorem rows_valsV {F : Hp} : ∀ {l : List (NestedKey × As)} {rs : List Nk.Row}, RowsA F l rs → ∃ ys, Vals ys (rs.map (·.2.2)) ∧ AllV F ys (l.map Prod.snd)
  | [], [], _ => ⟨[], .nil, trivial⟩
  | x :: l, r :: rs, h => by
    obtain ⟨ys, h1, h2⟩ := rows_valsV h.2
    obtain ⟨_, y, z, r1, r2, k1, k2⟩ := h.1
    exact ⟨z :: ys, .cons r2 h1, k2, h2⟩
  | [], _ :: _, h => h.elim
  | _ :: _, [], h => h.elim
end
section
variable {X : Cx} {tg e : Expr} {ρ : List En} {l : List (NestedKey × As)} {apos cpos : Pos}
def iRaw (w : World) (td : TE) (sel : NestedKey × As → As) : TI := fun σ H R => td σ H fun x H1 => ∃ d o F l, x = .ref d ∧ H1 d = some o ∧ Ex F H1 ∧ NdP w l F d o ∧ ∀ ys, AllV F ys (l.map sel) → R (ItR d o ys) H1
theorem pi_rawK {td : TE} (he : PE X e td) : PI X tg e (iRaw X.w td fun x => nkA x.1) := by
  refine ⟨fun pins s σ H R I h => ?_⟩
  refine thn (he.run pins s σ H _ I h) fun u s1 ⟨x, H1, I1, rx, d, o, F, l, ex, hd, xF, nd, q⟩ => ?_
  subst ex
  obtain rfl : u = Value.ref d := rx
  obtain ⟨es, ep, rs, rfl, is, rows⟩ := nd_is I1.hok xF hd nd
  obtain ⟨ys, h1, h2⟩ := rows_keysV rows
  have hk : es.toList.map (·.key) = rs.map (·.2.1) := by rw [is.es, List.map_map]; rfl
  rw [← hk] at h1
  exact wpAny_pyIter_dict_raw nd.sys (raw_of I1.hok hd) (pi_one (tk := s1.toks) I1 _ (turn_rawK h1) ⟨_, Heap.get?_push_size _ rfl, rfl, rfl⟩ (q ys h2))
theorem es_keysN (h : EA X e ρ (ndA X.w l)) : ES X tg e ρ (l.map fun x => nkA x.1) := pi_imp (pi_rawK h) fun σ H R ⟨H0, F, S, k⟩ => ⟨H0, F, S, fun v H1 F1 g1 ⟨a, o, ev, h1, h2⟩ => ⟨a, o, F1, l, ev, g1.i a _ h1, g1.i, h2, fun ys hy =>
  k _ _ ys H1 F1 g1 hy srcR fun H' e => e a _ h1⟩⟩
theorem pi_rawV {td : TE} (he : PE X e td) (hbase : attributeBase e "values" X.env (eval e X.env) = eval e X.env := by rfl) (hline : (apos.endLine == cpos.line) = true := by rfl) : PI X tg (.Call (.Attribute e "values" apos) [] [] cpos) (iRaw X.w td Prod.snd) := by
  refine ⟨fun pins s σ H R I h => ?_⟩
  refine wpAny_Call_method (T := "dict") (id := "dict.values") hbase rfl hline PySem.F.plainAttrs_dict PySem.F.slot_dict_values PySem.F.type_dict_values (thn (he.run pins s σ H _ I h) fun u s1 ⟨x, H1, I1, rx, d, o, F, l, ex, hd, xF, nd, q⟩ => ?_)
  subst ex
  obtain rfl : u = Value.ref d := rx
  obtain ⟨es, ep, rs, rfl, is, rows⟩ := nd_is I1.hok xF hd nd
  obtain ⟨ys, h1, h2⟩ := rows_valsV rows
  have hk : es.toList.map (·.val) = rs.map (·.2.2) := by rw [is.es, List.map_map]; rfl
  rw [← hk] at h1
  have raw := raw_of I1.hok hd
  refine ⟨raw.typeIs, fun b q => by
    cases q
    obtain ⟨ob, e1, e2, _⟩ := raw
    exact ⟨ob, e1, e2.2.1⟩, ?_⟩
  have I2 : Inv X pins σ H1 { s1 with heap := s1.heap.push { cls := .type "dict_values", data := .fields #[.ref d] } } := I1.kept (t' := s1.toks) fun b ob q => Heap.get?_push_of_some _ q
  have fin : wpAny (model X.prog X.w) X.A (pyIter (.ref s1.heap.objs.size)) (PIE X pins σ tg R) X.xe { s1 with heap := s1.heap.push { cls := .type "dict_values", data := .fields #[.ref d] } } :=
    wpAny_pyIter_values_raw ⟨_, Heap.get?_push_size _ rfl, rfl, rfl⟩ (raw_of I2.hok hd) (pi_one (tk := s1.toks) I2 _ (turn_rawV h1) ⟨_, Heap.get?_push_size _ rfl, rfl, rfl⟩ (q ys h2))
  show wpAny _ _ (callWith cpos (.builtin "dict.values") [.ref d] [] []) _ X.xe s1
  exact method_meetsIn PySem.F.slot_dict_values PySem.F.entry_dict_values rfl (PySem.evalArgs_none ⟨rfl, raw.typeIs, PySem.F.args_dict_values_1 _, _, meets_dict_values_raw d nd.sys, ⟨⟨es, ep, raw⟩, fin⟩⟩)
theorem es_valsN (h : EA X e ρ (ndA X.w l)) (hbase : attributeBase e "values" X.env (eval e X.env) = eval e X.env := by rfl) (hline : (apos.endLine == cpos.line) = true := by rfl) : ES X tg (.Call (.Attribute e "values" apos) [] [] cpos) ρ (l.map Prod.snd) :=
  pi_imp (pi_rawV h hbase hline) fun σ H R ⟨H0, F, S, k⟩ => ⟨H0, F, S, fun v H1 F1 g1 ⟨a, o, ev, h1, h2⟩ => ⟨a, o, F1, l, ev, g1.i a _ h1, g1.i, h2, fun ys hy =>
    k _ _ ys H1 F1 g1 hy srcR fun H' e => e a _ h1⟩⟩
end
end Lk

set_option Elab.async false
set_option linter.all false
set_option maxRecDepth 100000
set_option maxHeartbeats 4000000
namespace Lk
open PySem PySem.Calls L2 PySem.Spec PyProof.Rows
/-! ### sources with targets of any form -/
/-- J gives the data l, one after another, as long as what is known stays; the target's names are then as ρ1 says -/
structure SrcG {α : Type} (J : It) (g : TG) (vs : List Nat) (σ : L2.St) (H0 F1 H1 : Hp) (l : List α) (ρ1 : α → List En) : Prop where
  stop : ∀ F' H', Gr F1 H1 F' H' → J.stop l.length H'
  go : ∀ i a F' H', Gr F1 H1 F' H' → l[i]? = some a → J.go i H'
  turn : ∀ i a F' H' x H'', Gr F1 H1 F' H' → l[i]? = some a → J.yld i H' x H'' → ∀ K : L2.St → Hp → Prop, (∀ σ2 H2 F2, Gr F' H' F2 H2 → Sat H0 F2 σ2 H2 (ρ1 a) → L2.wipe σ2 vs = L2.wipe σ vs → K σ2 H2) → g x (L2.wipe σ vs) H'' K
def iSG {α : Type} (ρ : List En) (g : TG) (vs : List Nat) (l : List α) (ρ1 : α → List En) : TI := fun σ H R => ∃ H0 F, Sat H0 F σ H ρ ∧ ∀ J H1 F1, Gr F H F1 H1 → SrcG J g vs σ H0 F1 H1 l ρ1 → R J H1
abbrev ESG {α : Type} (X : Cx) (tg it : Expr) (ρ : List En) (g : TG) (vs : List Nat) (l : List α) (ρ1 : α → List En) : Prop := PI X tg it (iSG ρ g vs l ρ1)
section
variable {X : Cx} {tg it a : Expr} {ρ : List En} {vs : List Nat} {j j1 j2 : Nat} {α : Type} {l : List α} {enc : α → As}
/-- one name -/
theorem esg_name (hj : j ∈ vs) (h : ES X tg it ρ (l.map enc)) : ESG X tg it ρ (gName j) vs l (fun a => (wipeE ρ vs).set j (.fr (enc a))) := pi_imp h fun σ H R ⟨H0, F, S, k⟩ => ⟨H0, F, S, fun J G xs H1 F1 g1 hall src keep => k J H1 F1 g1 (by
  have hl : xs.length = l.length := by rw [hall.length, List.length_map]
  have G' : ∀ F' H', Gr F1 H1 F' H' → G H' := fun F' H' g => keep H' (g.f.trans g.i)
  refine ⟨fun F' H' g => ?_, fun i a F' H' g ha => ?_, fun i a F' H' x H'' g ha y K hK => ?_⟩
  · rw [← hl]
    exact (src xs.length H' (G' F' H' g)).2.2 (Nat.le_refl _)
  · have hi : i < xs.length := by rw [hl]; exact (List.getElem?_eq_some_iff.mp ha).1
    exact (src i H' (G' F' H' g)).1 xs[i] (List.getElem?_eq_getElem hi)
  · have hi : i < xs.length := by rw [hl]; exact (List.getElem?_eq_some_iff.mp ha).1
    obtain ⟨rfl, hx⟩ := (src i H' (G' F' H' g)).2.1 hi x H'' y
    obtain ⟨u, hu, hA⟩ := hall.get (i := i) (A := enc a) (by rw [List.getElem?_map, ha]; rfl)
    obtain rfl : x = u := by rw [hx] at hu; simpa using hu
    exact hK _ _ F' (.refl g.i) ((((S.gr g1).gr g).wipe vs).set ((enc a).mono g.f hA)) (wipe_set hj))⟩
/-- what enumerate gives -/
def enumL (l : List α) : List (Nat × α) := (List.range l.length).zip l
theorem enum_get {i : Nat} {x : Nat × α} (h : (enumL l)[i]? = some x) : x.1 = i ∧ l[i]? = some x.2 := by
  obtain ⟨h1, h2⟩ := List.getElem?_zip_eq_some.mp h
  have hi : i < l.length := (List.getElem?_eq_some_iff.mp h2).1
  rw [List.getElem?_range hi] at h1
  exact ⟨by simpa using h1.symm, h2⟩
theorem enum_len : (enumL l).length = l.length := by unfold enumL; rw [List.length_zip, List.length_range, Nat.min_self]
abbrev gTwo (K : PySem.W.Frag) (j1 j2 : Nat) : TG := gTup K 2 (gCons (gName j1) (gCons (gName j2) gNil))
theorem wipe_twice {σ : L2.St} (hj : j ∈ vs) : L2.wipe (L2.wipe σ vs) vs = L2.wipe σ vs := (wipe_setG (τ := L2.wipe σ vs) (x := none) hj).symm.trans (wipe_set hj)
/-- enumerate(xs), xs a list that stays -/
theorem esg_enum {elts : List Expr} {kk : Nat} {tpos p pos : Pos} (hj1 : j1 ∈ vs) (hj2 : j2 ∈ vs) (h : EA X a ρ (lstA (l.map enc))) (hm : X.mg "enumerate" = none) (hg : Gl X "enumerate" := by rfl) (hs : starEach [a] X.env = [(false, eval a X.env)] := by rfl) :
    ESG X (.Tuple elts kk tpos) (.Call (.Name "enumerate" p) [a] [] pos) ρ (gTwo X.K j1 j2) vs (enumL l) (fun x => ((wipeE ρ vs).set j1 (.fr (nat x.1))).set j2 (.fr (enc x.2))) :=
  pi_imp (pi_enum hg hm (pa_cons h pa_nil hs) hs) fun σ H R ⟨H0, F, S, k⟩ => ⟨H0, F, S, fun v H1 F1 g1 ⟨b, xs, ev, h1, h2⟩ => by
    subst ev
    have hl : xs.length = l.length := by rw [h2.length, List.length_map]
    have at_ : ∀ F' H', Gr F1 H1 F' H' → SqL X.K H' b xs := fun F' H' g => SqL.of (g.i b _ (g.f b _ h1))
    refine ⟨b, xs, rfl, SqL.of (g1.i b _ h1), k _ H1 F1 g1 ⟨fun F' H' g => ?_, fun i x F' H' g ha => ?_, fun i x F' H' y H'' g ha yl K hK => ?_⟩⟩
    · exact ⟨xs, at_ F' H' g, by rw [enum_len]; omega⟩
    · obtain ⟨_, h3⟩ := enum_get ha
      have hi : i < xs.length := by rw [hl]; exact (List.getElem?_eq_some_iff.mp h3).1
      exact ⟨xs, xs[i], at_ F' H' g, List.getElem?_eq_getElem hi⟩
    · obtain ⟨h3, h4⟩ := enum_get ha
      obtain ⟨T, u, rfl, hT, rfl, hu⟩ := yl
      have hu := hu xs (at_ F' H' g)
      obtain ⟨u', hu', hA⟩ := h2.get (i := i) (A := enc x.2) (by rw [List.getElem?_map, h4]; rfl)
      obtain rfl : u = u' := by rw [hu] at hu'; simpa using hu'
      refine ⟨T, [.int (i : Nat), u], rfl, SqT.of upd_same, rfl, .int (i : Nat), [u], rfl, u, [], rfl, rfl, ?_⟩
      have gT : Gr F' H' F' (upd H' T (.tup [.int (i : Nat), u])) := .newH g.i hT
      refine hK _ _ F' gT ?_ (by rw [wipe_setG hj2, wipe_setG hj1, wipe_twice hj1])
      have S2 := (((S.gr g1).gr g).gr gT).wipe vs
      exact (S2.set (i := j1) (A := nat x.1) (by rw [h3]; exact rfl)).set (i := j2) ((enc x.2).mono g.f hA)⟩
end
section
variable {α : Type} {X : Cx} {ρ : List En} {pos spos : Pos} {elt kx vx tg it : Expr} {ifs : List Expr} {scope : Scope} {Nx : List En → Prop} {W : Wn} {g : TG} {ρ1 : α → List En}
/-! ### list comprehensions over them -/
theorem tlc_g {σ : L2.St} {H : Hp} {Q : VK} {l : List α} {p : α → Bool} {gv : α → As} {vs : List Nat} (hz : l.length < sizeLine) (h : tN ρ ((l.filter p).map gv) σ H Q) : tLc (iSG ρ g vs l ρ1) g (tTc ρ1 l p) (tEc ρ1 l p gv) vs σ H Q := by
  obtain ⟨H0, F, S, k⟩ := h
  refine ⟨H0, F, S, fun J H1 F1 g1 src D hD => ?_⟩
  refine ⟨fun i m H' => m = l.length - i ∧ i ≤ l.length ∧ Lcs F1 H1 D l p gv i H', ⟨l.length, rfl, Nat.zero_le _, F1, [], .newH g1.i hD, g1.i.none hD, upd_same, trivial⟩, ?_⟩
  rintro i m H' ⟨rfl, hi, L⟩
  obtain ⟨F', acc, G, fD, hDl, hall⟩ := L.ex
  by_cases hlt : i < l.length
  · have ha : l[i]? = some l[i] := List.getElem?_eq_getElem hlt
    generalize l[i] = a at ha
    have mem : a ∈ l := List.mem_of_getElem? ha
    have tk : l.take (i + 1) = l.take i ++ [a] := by rw [List.take_add_one, ha]; rfl
    refine .inr ⟨src.go i a F' H' G ha, Lcs F1 H1 D l p gv (i + 1), fun H2 L2 => ⟨_, by omega, rfl, hlt, L2⟩, fun x H'' y => ?_⟩
    refine src.turn i a F' H' x H'' G ha y _ fun σ2 H2 F2 g2 S2 w2 => ⟨w2, a, mem, H0, F2, S2, fun H3 F3 g3 => ?_⟩
    have G3 := (G.trans g2).trans g3
    have f2 : F2 D = none := g2.n D _ hDl fD
    have h2 : H2 D = some (.lst acc) := g2.h D _ hDl
    have f3 : F3 D = none := g3.n D _ h2 f2
    have h3 : H3 D = some (.lst acc) := g3.h D _ h2
    have hall3 := (hall.mono g2.f).mono g3.f
    cases hp : p a with
    | false =>
      refine ⟨F3, acc, G3, f3, h3, ?_⟩
      rw [tk, List.filter_append, List.filter_cons, hp]
      simpa using hall3
    | true =>
      refine ⟨a, mem, hp, H0, F3, S2.gr g3, fun u H4 F4 g4 hu => ⟨acc, g4.h D _ h3, ?_, ?_⟩⟩
      · rw [hall.length, List.length_map]
        have q := List.length_filter_le p (l.take i)
        rw [List.length_take] at q
        omega
      · have f4 : F4 D = none := g4.n D _ h3 f3
        have G4 := G3.trans g4
        refine ⟨F4, acc ++ [u], ⟨G4.f, fun b o z => ?_, fun b o z => ?_, G4.n⟩, f4, upd_same, ?_⟩
        · rw [upd_ne (ne_of_none z hD)]
          exact G4.h b o z
        · rw [upd_ne (ne_of_none z f4)]
          exact G4.i b o z
        · rw [tk, List.filter_append, List.map_append, show (List.filter p [a]).map gv = [gv a] by simp [hp]]
          exact (hall3.mono g4.f).snoc hu
  · have e : i = l.length := by omega
    subst e
    rw [List.take_length] at hall
    exact .inl ⟨src.stop F' H' G, k D acc H' F' (g1.trans G) (g1.h.none hD) fD hDl hall⟩
abbrev Blk (X : Cx) (scope : Scope) (T : Cx → Prop) : Prop := ∀ (s : Shared) (H : Hp) (C : Addr) (cl : List (Str × Addr)) (fp : List Addr), T (X.blk s H scope (compEnvC scope cl C X.env) fp)
theorem en_lcG {own : List (Str × Nat)} {l : List α} {p : α → Bool} {gv : α → As} (hc : X.calm = true) (hN : X.N.Nodup) (hi : ESG X tg it ρ g (own.map (·.2)) l ρ1) (hz : l.length < sizeLine) (ok : BlkOk X.N X.env.scope scope own)
    (hg : Blk X scope fun Y => PG Y tg g) (ht : Blk X scope fun Y => ∀ a ∈ l, PTs Y ifs (tTs (ρ1 a) (p a))) (he : Blk X scope fun Y => ∀ a ∈ l, p a = true → EA Y elt (ρ1 a) (gv a)) (hs : ∀ z, foldedSetIterable it X.env z = pure z := by intro _; rfl) :
    EN X (.ListComp elt [⟨tg, it, ifs, 0⟩] scope pos) ρ ((l.filter p).map gv) :=
  pe_imp (pe_lc (own := own) hc hN hi ok hg (fun s H C cl fp => pts_c (ht s H C cl fp)) (fun s H C cl fp => pe_c (he s H C cl fp)) hs) fun σ H Q h => tlc_g hz h
theorem sa_setLcG {own : List (Str × Nat)} (i : Nat) {y : Str} {py : Pos} {l : List α} {p : α → Bool} {gv : α → As} (hc : X.calm = true) (hN : X.N.Nodup) (hi : ESG X tg it ρ g (own.map (·.2)) l ρ1) (hz : l.length < sizeLine) (ok : BlkOk X.N X.env.scope scope own)
    (hg : Blk X scope fun Y => PG Y tg g) (ht : Blk X scope fun Y => ∀ a ∈ l, PTs Y ifs (tTs (ρ1 a) (p a))) (he : Blk X scope fun Y => ∀ a ∈ l, p a = true → EA Y elt (ρ1 a) (gv a)) (k : Nx (ρ.set i (.own ((l.filter p).map gv)))) (hy : X.N[i]? = some y := by rfl) (hyl : X.env.scope.names.lookup y = some .local := by rfl)
    (hsw : swapsWith (.ListComp elt [⟨tg, it, ifs, 0⟩] scope pos) (some (.Name y py)) spos.line X.env = pure true := by exact sw_true rfl rfl rfl (by decide +kernel)) (hs : ∀ z, foldedSetIterable it X.env z = pure z := by intro _; rfl) :
    SA X (.Assign [.Name y py] (.ListComp elt [⟨tg, it, ifs, 0⟩] scope pos) spos) ρ Nx W :=
  ps_imp (ps_setLc (own := own) (i := i) hc hN hy hyl hsw hi ok hg (fun s H C cl fp => pts_c (ht s H C cl fp)) (fun s H C cl fp => pe_c (he s H C cl fp)) hs) fun D σ H ⟨F0, H0, F, g0, S, q, _⟩ => tlc_g hz ⟨H0, F, S, fun p' xs H' F' g' n1 n2 hp hv => q _ _ H' F' k (g0.trans g') ((S.gr g').setN (g0.h.none n1) n2 hp hv (S.newAt n1 _))⟩
/-! ### dict comprehensions, keys numbers -/
theorem tdc_g {σ : L2.St} {H : Hp} {Q : VK} {l : List α} {p : α → Bool} {kf : α → Int} {gv : α → As} {vs : List Nat} (hz : l.length < sizeLine) (h : tA ρ (diA (dcA (l.filter p) kf gv)) σ H Q) : tDc (iSG ρ g vs l ρ1) g (tTc ρ1 l p) (tKc ρ1 l p kf) (tEc ρ1 l p gv) vs σ H Q := by
  obtain ⟨H0, F, S, k⟩ := h
  refine ⟨H0, F, S, fun J H1 F1 g1 src D hD => ?_⟩
  refine ⟨fun i m H' => m = l.length - i ∧ i ≤ l.length ∧ Dcs F1 H1 D l p kf gv i H', ⟨l.length, rfl, Nat.zero_le _, F1, [], .newH g1.i hD, g1.i.none hD, by simp [dcA, upd_same], trivial⟩, ?_⟩
  rintro i m H' ⟨rfl, hi, L⟩
  obtain ⟨F', us, G, fD, hDl, hall⟩ := L.ex
  by_cases hlt : i < l.length
  · have ha : l[i]? = some l[i] := List.getElem?_eq_getElem hlt
    generalize l[i] = a at ha
    have mem : a ∈ l := List.mem_of_getElem? ha
    have tk : l.take (i + 1) = l.take i ++ [a] := by rw [List.take_add_one, ha]; rfl
    refine .inr ⟨src.go i a F' H' G ha, Dcs F1 H1 D l p kf gv (i + 1), fun H2 L2 => ⟨_, by omega, rfl, hlt, L2⟩, fun x H'' y => ?_⟩
    refine src.turn i a F' H' x H'' G ha y _ fun σ2 H2 F2 g2 S2 w2 => ⟨w2, a, mem, H0, F2, S2, fun H3 F3 g3 => ?_⟩
    have G3 := (G.trans g2).trans g3
    have f2 : F2 D = none := g2.n D _ hDl fD
    have h2 : H2 D = some _ := g2.h D _ hDl
    have f3 : F3 D = none := g3.n D _ h2 f2
    have h3 : H3 D = some _ := g3.h D _ h2
    have hall3 := (hall.mono g2.f).mono g3.f
    cases hp : p a with
    | false =>
      refine ⟨F3, us, G3, f3, ?_, ?_⟩
      · rw [tk, List.filter_append, List.filter_cons, hp]
        simpa using h3
      · rw [tk, List.filter_append, List.filter_cons, hp]
        simpa using hall3
    | true =>
      refine ⟨a, mem, hp, H0, F3, S2.gr g3, fun u H4 F4 g4 hu => ?_⟩
      have hu : u = .int (kf a) := hu
      subst hu
      have f4 : F4 D = none := g4.n D _ h3 f3
      have h4 : H4 D = some _ := g4.h D _ h3
      refine ⟨a, mem, hp, H0, F4, (S2.gr g3).gr g4, fun z H5 F5 g5 hz5 => ⟨_, kI (kf a), rfl, g5.h D _ h4, ?_, ?_⟩⟩
      · have q := dcA_len kf gv ((l.take i).filter p) []
        have q2 := List.length_filter_le p (l.take i)
        rw [List.length_take] at q2
        rw [List.length_zip, List.length_map]
        have q3 : (dcA ((l.take i).filter p) kf gv).length ≤ ((l.take i).filter p).length := by simpa [dcA] using q
        omega
      · have f5 : F5 D = none := g5.n D _ h4 f4
        have G5 := (G3.trans g4).trans g5
        obtain ⟨us', e1, e2⟩ := putK_zip (k := kf a) hz5 ((hall3.mono g4.f).mono g5.f)
        refine ⟨F5, us', ⟨G5.f, fun b o q => ?_, fun b o q => ?_, G5.n⟩, f5, ?_, ?_⟩
        · rw [upd_ne (ne_of_none q hD)]
          exact G5.h b o q
        · rw [upd_ne (ne_of_none q f5)]
          exact G5.i b o q
        · rw [upd_same, e1, tk, List.filter_append, show List.filter p [a] = [a] by simp [hp], dcA_snoc]
        · rw [tk, List.filter_append, show List.filter p [a] = [a] by simp [hp], dcA_snoc]
          exact e2
  · have e : i = l.length := by omega
    subst e
    rw [List.take_length] at hall hDl
    have G' := g1.trans G
    exact .inl ⟨src.stop F' H' G, k _ H' _ (G'.take (g1.h.none hD) fD hDl) ⟨D, us, rfl, upd_same, hall.mono (Ex.new fD)⟩⟩
theorem ea_dcG {own : List (Str × Nat)} {l : List α} {p : α → Bool} {kf : α → Int} {gv : α → As} (hc : X.calm = true) (hN : X.N.Nodup) (hi : ESG X tg it ρ g (own.map (·.2)) l ρ1) (hz : l.length < sizeLine) (ok : BlkOk X.N X.env.scope scope own)
    (hg : Blk X scope fun Y => PG Y tg g) (ht : Blk X scope fun Y => ∀ a ∈ l, PTs Y ifs (tTs (ρ1 a) (p a))) (hk : Blk X scope fun Y => ∀ a ∈ l, p a = true → EA Y kx (ρ1 a) (int (kf a))) (he : Blk X scope fun Y => ∀ a ∈ l, p a = true → EA Y vx (ρ1 a) (gv a)) (hs : ∀ z, foldedSetIterable it X.env z = pure z := by intro _; rfl) :
    EA X (.DictComp kx vx [⟨tg, it, ifs, 0⟩] scope pos) ρ (diA (dcA (l.filter p) kf gv)) :=
  pe_imp (pe_dc (own := own) hc hN hi ok hg (fun s H C cl fp => pts_c (ht s H C cl fp)) (fun s H C cl fp => pe_kc (hk s H C cl fp)) (fun s H C cl fp => pe_c (he s H C cl fp)) hs) fun σ H Q h => tdc_g hz h
end
end Lk

set_option Elab.async false
set_option linter.all false
set_option maxRecDepth 100000
set_option maxHeartbeats 4000000
namespace Lk
open PySem PySem.Calls L2 PySem.Spec PyProof.Rows
/-! ### dict comprehensions, keys of any kind -/
/-- a key that may be stored among these -/
def KeyFor (l : List NestedKey) (k : NestedKey) : Prop := Nk.Fd l k ∨ (l = [] ∧ ∀ x, k ≠ .text x)
/-- D[y] = z, ob what stands at D -/
def PutAt (w : World) (D : Addr) (y z : V) (H : Hp) (N : Hp → Prop) : Prop := ∃ F l k A ob, H D = some ob ∧ Ex F H ∧ NdP w l F D ob ∧ (nkA k).p F y ∧ A.p F z ∧ l.length < sizeLine ∧ KeyFor (l.map (·.1)) k ∧ ∀ ob', NdP w (putN l k A) F D ob' → N (upd H D ob')
theorem put_at {X : Cx} {pins : List (Addr × Obj)} {σ : L2.St} {H : Hp} {s : Shared} {D : Addr} {y z : V} {u r : Value} {E : Value → Shared → Prop} {Q : Unit → Shared → Prop} {N : Hp → Prop} (hu : X.A.units + 8 < cLine) (I : Inv X pins σ H s) (ry : RelV y u) (rz : RelV z r) (h : PutAt X.w D y z H N)
    (q : ∀ s' H', Inv X pins σ H' s' → N H' → Q () s') : wpAny (model X.prog X.w) X.A (dictSet D u r) Q E s := by
  obtain ⟨F, l, k, A, ob, hD, xF, nd, kA, vA, hz, kf, hn⟩ := h
  obtain ⟨es, ep, rs, rfl, is, rows⟩ := nd_is I.hok xF hD nd
  have ka := nk_at I.hok ((nkA _).mono xF kA) ry
  have hl : rs.length ≤ sizeLine := by rw [← rows.len]; omega
  have fin : Nk.Put X.prog X.w D (Nk.put rs k u r) k.draws s Q := fun h' es' ep' is' sb => by
    have rows' := rows_put rows ry kA rz vA
    obtain ⟨o', w1, w2, w3⟩ := is'.ob
    exact q _ _ (d_write (ob := ndO D es' ep') I (by rw [hD]; exact True.intro) sb ⟨o', w1⟩ ⟨⟨o', w1, w2, w3⟩, ⟨o', w1⟩, fun h1 h2 ⟨o, e, q⟩ k => ⟨o, k o e, q⟩⟩) (hn (ndO D es' ep') ⟨nd.sys, es', ep', _, rfl, is'.es, by rw [← rows'.keys]; exact is'.nd, rows'⟩)
  rcases kf with fd | ⟨he, ht⟩
  · exact Nk.set_k hu ka is (by rw [rows.keys]; exact fd) hl fin
  · have hrs : rs = [] := by
      have z := rows.keys
      rw [he] at z
      exact List.map_eq_nil_iff.mp z
    subst hrs
    refine Nk.set_first hu (fun x t e => ?_) ka is fin
    rw [e] at ka
    obtain ⟨k1, _⟩ := ka
    cases k1 with
    | text _ _ => exact ht _ rfl
/-- {k: v for target in iter if ..}: D the new dict -/
def tDn (w : World) (wi : TI) (g : TG) (tt : TT) (tk tv : TE) (vs : List Nat) : TE := fun σ H Q => wi σ H fun J H1 => ∀ D o0, H1 D = none → (∀ F, NdP w [] F D o0) → ∃ W : Nat → Nat → Hp → Prop, (∃ m, W 0 m (upd H1 D o0)) ∧ ∀ i m H, W i m H →
  (J.stop i H ∧ Q (.ref D) H) ∨ (J.go i H ∧ ∃ N : Hp → Prop, (∀ H', N H' → ∃ m', m' < m ∧ W (i + 1) m' H') ∧ ∀ x H', J.yld i H x H' → g x (L2.wipe σ vs) H' fun σ2 H2 => L2.wipe σ2 vs = L2.wipe σ vs ∧ tt σ2 H2 fun b H3 =>
    if b = true then tk σ2 H3 fun y H4 => tv σ2 H4 fun z H5 => PutAt w D y z H5 N else N H3)
section
variable {X : Cx} {scope : Scope} {own : List (Str × Nat)} {tg it kx vx : Expr} {ifs : List Expr} {pos pos2 : Pos} {wi : TI} {g : TG} {tt : TT} {tk tv : TE}
/-- the whole, in the block's own context -/
theorem dn_run {use : Option (Value → Sem Unit)} {Qf : Value → Shared → Prop} {pins : List (Addr × Obj)} {σ : L2.St} {H : Hp} {s : Shared} {Q : VK} (hu : X.A.units + 8 < cLine) (hc : X.calm = true) (hN : X.N.Nodup) (I : Inv X pins σ H s) (hi : PI X tg it wi) (ok : BlkOk X.N X.env.scope scope own)
    (hg : Blk X scope fun Y => PG Y tg g) (ht : Blk X scope fun Y => PTs Y ifs tt) (hk : Blk X scope fun Y => PE Y kx tk) (hv : Blk X scope fun Y => PE Y vx tv) (hs : ∀ z, foldedSetIterable it X.env z = pure z) (h : tDn X.w wi g tt tk tv (own.map (·.2)) σ H Q)
    (fin : ∀ D C s' m H', Inv X pins σ H' s' → Q (.ref D) H' → s'.heap.Ns C m → FpOk X pins H' C → compPost (model X.prog X.w) X.A X.xe use Qf (.ref D) C (.ok .next) s') :
    wpAny (model X.prog X.w) X.A (comprehension (.DictComp kx vx [⟨tg, it, ifs, 0⟩] scope pos) scope X.env pos2 newDict false (eval it X.env) use) Qf X.xe s := by
  have cells : ∀ y ∈ scope.names, y.2 = .free → ∃ c, X.env.cells.lookup y.1 = some c := fun y hy e => by
    rcases ok.free y hy e with z | z
    · exact I.ok.has _ (.inl z)
    · exact I.ok.has _ (.inr z)
  refine wpAny_comprehension_free (use := use) rfl hs (closure_ok cells) ok.kind (fun y hy e => by rw [ok.uniq y hy, e]) (thn (hi.run pins s σ H _ I h) fun xv s1 hx => thn hx fun itv s2 hit => ?_)
  obtain ⟨ia, fp, tn, J, H2, rfl, I2, T, st2, fpok, q⟩ := hit
  refine wpAny_newObj_type (newEnv_comp ?_)
  have big : (s2.heap.objs.size == sysModules) = false := beq_eq_false_iff_ne.mpr (Ne.symm (Nat.ne_of_lt I2.big))
  generalize eD : s2.heap.objs.size = D at big
  have Dfree : H2 D = none := I2.hok.fresh (Nat.le_of_eq eD)
  obtain ⟨W, ⟨m0, w0⟩, turn⟩ := q D (ndO D #[] 0) Dfree fun F => ⟨big, #[], 0, [], rfl, rfl, List.nodup_nil, trivial⟩
  generalize e3 : ({ s2 with heap := s2.heap.push { cls := .type "dict", data := .dict #[] } } : Shared) = s3
  have heap3 : s3.heap = s2.heap.push { cls := .type "dict", data := .dict #[] } := by rw [← e3]
  have I3 : Inv X pins σ (upd H2 D (ndO D #[] 0)) s3 := by
    rw [← e3]
    refine I2.laid (t' := s2.toks) (fun b o e => Heap.get?_push_of_some _ e) (Nat.le_of_eq eD) ?_
    rw [← eD]
    exact nd_new I2.big
  have below : ∀ b ∈ fp, b < s2.heap.objs.size := fun b hb => let ⟨o, e, _⟩ := T.obj _ _ st2 b hb; Heap.lt_size e
  have fp3 : ∀ b ∈ fp, FpOk X pins (upd H2 D (ndO D #[] 0)) b ∧ b < s3.heap.objs.size := fun b hb => by
    have lt := below b hb
    refine ⟨⟨?_, (fpok b hb).2⟩, by rw [heap3, Heap.size_push]; exact Nat.lt_succ_of_lt lt⟩
    rw [upd_ne (by rw [← eD]; exact Nat.ne_of_lt lt)]
    exact (fpok b hb).1
  have st3 : tn 0 s3.heap := T.keep _ _ _ st2 fun b _ o e => by rw [heap3]; exact Heap.get?_push_of_some _ e
  have I4 := block_start I3 ok hN fp3
  have Pg := hg s3 (upd H2 D (ndO D #[] 0)) s3.heap.objs.size (cellsFrom (s3.heap.objs.size + 1) scope.names (cloFrom X.env.cells scope.names [])) fp
  have Pt := ht s3 (upd H2 D (ndO D #[] 0)) s3.heap.objs.size (cellsFrom (s3.heap.objs.size + 1) scope.names (cloFrom X.env.cells scope.names [])) fp
  have Pk := hk s3 (upd H2 D (ndO D #[] 0)) s3.heap.objs.size (cellsFrom (s3.heap.objs.size + 1) scope.names (cloFrom X.env.cells scope.names [])) fp
  have Pv := hv s3 (upd H2 D (ndO D #[] 0)) s3.heap.objs.size (cellsFrom (s3.heap.objs.size + 1) scope.names (cloFrom X.env.cells scope.names [])) fp
  show codeAny _ _ (.compStart (.DictComp kx vx [⟨tg, it, ifs, 0⟩] scope pos) 0 (.ref ia) (.ref D) (compEnvC scope (cellsFrom (s3.heap.objs.size + 1) scope.names (cloFrom X.env.cells scope.names [])) s3.heap.objs.size X.env)) (compPost (model X.prog X.w) X.A X.xe use Qf (.ref D) s3.heap.objs.size) { s3 with heap := pushCells (s3.heap.push { cls := .type "dict", data := .dict #[] }) scope.names }
  have out : ∀ b ∈ fp, (upd H2 D (ndO D #[] 0)) b = none := fun b hb => (fp3 b hb).1.1
  generalize ece : compEnvC scope (cellsFrom (s3.heap.objs.size + 1) scope.names (cloFrom X.env.cells scope.names [])) s3.heap.objs.size X.env = ce at I4 Pg Pt Pk Pv ⊢
  have celoc : ce.locals = s3.heap.objs.size := by subst ece; rfl
  generalize eH3 : upd H2 D (ndO D #[] 0) = H3 at I3 I4 Pg Pt Pk Pv w0 out fp3
  generalize e4 : ({ s3 with heap := pushCells (s3.heap.push { cls := .type "dict", data := .dict #[] }) scope.names } : Shared) = s4 at I4 ⊢
  have st4 : tn 0 s4.heap := T.keep _ _ _ st3 fun b _ o e => by rw [← e4]; exact pushCells_keeps _ _ _ _ (Heap.get?_push_of_some _ e)
  have un8 : (X.blk s3 H3 scope ce fp).A.units + 8 < cLine := hu
  have fpIn : ∀ {σ' : L2.St} {H' : Hp} {s' : Shared}, Inv (X.blk s3 H3 scope ce fp) [] σ' H' s' → (∀ b ∈ fp, H' b = none) → ∀ b ∈ fp, FpOk (X.blk s3 H3 scope ce fp) [] H' b := fun {σ' H' s'} I' hn b hb =>
    ⟨hn b hb, (I'.ok.exf b hb).1, I'.ok.exfs b hb, .inl hb, fun x c e => (I'.ok.exf b hb).2 x c e, fun p hp => absurd (show p ∈ ([] : List (Addr × Obj)) ++ [] from hp) (by simp)⟩
  have loop : codeAny (model X.prog X.w) X.A (.compLoop (.DictComp kx vx [⟨tg, it, ifs, 0⟩] scope pos) 0 (.ref ia) (.ref D) ce) (compPost (model X.prog X.w) X.A X.xe use Qf (.ref D) s3.heap.objs.size) s4 := by
    refine compLoop_anyD (fun n s' => ∃ i H', Inv (X.blk s3 H3 scope ce fp) [] (L2.wipe σ (own.map (·.2))) H' s' ∧ tn i s'.heap ∧ (∀ b ∈ fp, H' b = none) ∧ W i n H') ?_ m0 ⟨0, H3, I4, st4, out, w0⟩
    rintro n s5 ⟨i, H5, I5, st5, out5, w5⟩
    rcases turn i n H5 w5 with ⟨stop, qq⟩ | ⟨go, N, hN', step⟩
    · refine thnF (T.done (X.blk s3 H3 scope ce fp) rfl rfl rfl hc i [] s5 _ H5 (fun _ _ => False) I5 (fpIn I5 out5) st5 stop) fun r s6 ⟨hr, I6⟩ => ?_
      subst hr
      have I7 : Inv X pins σ H5 s6 := I3.call' (ch := fp) I6.os I6.base I6.hok I6.bare fun b hb => ⟨(fp3 b hb).1.2.2.2.1, (fp3 b hb).1.2.1, (fp3 b hb).1.2.2.2.2.1, (fp3 b hb).1.2.2.2.2.2⟩
      have loc : H5 s3.heap.objs.size = none := celoc ▸ (I6.free : H5 ce.locals = none)
      obtain ⟨m, hm, _⟩ := I6.loc
      have hm : s6.heap.Ns ce.locals m := hm
      exact fin D s3.heap.objs.size s6 m H5 I7 qq (celoc ▸ hm) (I3.fpOk (Nat.le_refl _) loc)
    · refine thnF (T.item (X.blk s3 H3 scope ce fp) rfl rfl rfl hc i [] s5 _ H5 (fun _ _ => False) I5 (fpIn I5 out5) st5 go) fun r s6 ⟨u, hr, hlet⟩ => ?_
      subst hr
      refine thnF hlet fun _ s7 ⟨x, H7, I7, r7, y7, st7, out7⟩ => ?_
      have I8 := I7.pinned (fpIn I7 out7) (T.obj _ _ st7)
      refine thnF (Pg.run _ s7 _ H7 x u _ I8 r7 (step x H7 y7)) fun _ s9 ⟨σ9, H9, I9, w9, q9⟩ => ?_
      refine thnF (Pt.run _ s9 σ9 H9 _ I9 q9) fun b s10 ⟨H10, I10, q10⟩ => ?_
      have next : ∀ {s' : Shared} {H' : Hp}, Inv (X.blk s3 H3 scope ce fp) ([] ++ pinsAt fp s7.heap) σ9 H' s' → N H' → ∃ m, m < n ∧ ∃ i H', Inv (X.blk s3 H3 scope ce fp) [] (L2.wipe σ (own.map (·.2))) H' s' ∧ tn i s'.heap ∧ (∀ b ∈ fp, H' b = none) ∧ W i m H' := fun {s' H'} I' nx => by
        obtain ⟨m', hm, w'⟩ := hN' H' nx
        have pin : ∀ b ∈ fp, ∀ o, s7.heap.get? b = some o → s'.heap.get? b = some o ∧ H' b = none := fun b hb o e =>
          let z := I'.pin (b, o) (List.mem_append_right _ (List.mem_append_right _ (mem_pinsAt hb e)))
          ⟨z.1, z.2.1⟩
        refine ⟨m', hm, i + 1, H', (I'.unpinned (pins := [])).weak (by rw [← w9, wipe_length]) (fun j v e => ?_), T.keep _ _ _ st7 fun b hb o e => (pin b hb o e).1, fun b hb => ?_, w'⟩
        · rw [← w9] at e
          exact (wipe_some e).1
        · obtain ⟨o, e, _⟩ := T.obj _ _ st7 b hb
          exact (pin b hb o e).2
      cases b with
      | false =>
        simp only [Bool.false_eq_true, if_false] at q10 ⊢
        exact next I10 q10
      | true =>
        simp only [if_true] at q10 ⊢
        exact thnF (Pk.run _ s10 σ9 H10 _ I10 q10) fun kv s11 ⟨yk, H11, I11, r11, q11⟩ => thnF (Pv.run _ s11 σ9 H11 _ I11 q11) fun vv s12 ⟨yv, H12, I12, r12, q12⟩ => put_at (X := X.blk s3 H3 scope ce fp) un8 I12 r11 r12 q12 fun s13 H13 I13 nx => next I13 nx
  exact codeAny_compStart_dict loop (T.self X.A 0 _ _ _ st4 loop)
theorem pe_dn (hu : X.A.units + 8 < cLine) (hc : X.calm = true) (hN : X.N.Nodup) (hi : PI X tg it wi) (ok : BlkOk X.N X.env.scope scope own) (hg : Blk X scope fun Y => PG Y tg g) (ht : Blk X scope fun Y => PTs Y ifs tt) (hk : Blk X scope fun Y => PE Y kx tk) (hv : Blk X scope fun Y => PE Y vx tv)
    (hs : ∀ z, foldedSetIterable it X.env z = pure z := by intro _; rfl) : PE X (.DictComp kx vx [⟨tg, it, ifs, 0⟩] scope pos) (tDn X.w wi g tt tk tv (own.map (·.2))) := by
  refine ⟨fun pins s σ H Q I h => ?_⟩
  rw [arm_eval_DictComp]
  refine dn_run hu hc hN I hi ok hg ht hk hv hs h fun D C s' m H' I' q hn ⟨f0, f1, f2, f3, f4, f5⟩ => ⟨m, hn, fun h'' sb => ?_⟩
  exact ⟨.ref D, H', I'.turned (t' := s'.toks) (fun b o hb e => (sb.2 b hb).trans e) f0 f1 f3 f4 f5, rfl, q⟩
theorem ps_setDn {i : Nat} {y : Str} {py spos : Pos} (hu : X.A.units + 8 < cLine) (hc : X.calm = true) (hN : X.N.Nodup) (hy : X.N[i]? = some y) (hyl : X.env.scope.names.lookup y = some .local) (hsw : swapsWith (.DictComp kx vx [⟨tg, it, ifs, 0⟩] scope pos) (some (.Name y py)) spos.line X.env = pure true) (hi : PI X tg it wi) (ok : BlkOk X.N X.env.scope scope own)
    (hg : Blk X scope fun Y => PG Y tg g) (ht : Blk X scope fun Y => PTs Y ifs tt) (hk : Blk X scope fun Y => PE Y kx tk) (hv : Blk X scope fun Y => PE Y vx tv) (hs : ∀ z, foldedSetIterable it X.env z = pure z := by intro _; rfl) :
    PS X (.Assign [.Name y py] (.DictComp kx vx [⟨tg, it, ifs, 0⟩] scope pos) spos) (tAsg (tDn X.w wi g tt tk tv (own.map (·.2))) (gName i)) := by
  refine ⟨fun pins s σ H D I h => ?_⟩
  rw [exec_Assign_Name_used _ _ _ _ hsw]
  refine wpAny_bind (wpAny_standAt (wpAny_bind ?_))
  show wpAny _ X.A (do let _ ← comprehension (.DictComp kx vx [⟨tg, it, ifs, 0⟩] scope pos) scope X.env (firstIterPos [⟨tg, it, ifs, 0⟩] pos) newDict false (eval it X.env) (some (assign (.Name y py) X.env))) _ _ s
  have h : tDn X.w wi g tt tk tv (own.map (·.2)) σ H (fun x H1 => gName i x σ H1 D.nx) := h
  refine wpAny_bind (thn (dn_run (Qf := fun _ s' => SP X pins D .next s') hu hc hN I hi ok hg ht hk hv hs h fun L C s' m H' I' q hn ⟨f0, f1, f2, f3, f4, f5⟩ => ?_) fun _ s' hq => wpAny_pure (wpAny_pure hq))
  show wpAny _ _ (assign (.Name y py) X.env (.ref L)) _ _ _
  refine wpAny_assign_Name (store_ok2 (v := V.ref L) I' hN hy (.inl hyl) rfl (fun s2 I2 ⟨a, sb, ha⟩ => ?_) (.inr hyl))
  have neC : C ≠ a := by
    rcases ha with z | z
    · rw [z]; exact f1
    · exact fun e => f4 y a z e.symm
  exact ⟨m, hn.sameBut sb neC, fun h3 sb3 => ⟨_, H', I2.turned (t' := s2.toks) (fun b o hb e => (sb3.2 b hb).trans e) f0 f1 f3 f4 f5, q⟩⟩
end
section
variable {α : Type} {X : Cx} {ρ : List En} {pos spos : Pos} {kx vx tg it : Expr} {ifs : List Expr} {scope : Scope} {Nx : List En → Prop} {W : Wn} {g : TG} {ρ1 : α → List En}
/-- what such a comprehension makes -/
def dnA (l : List α) (kf : α → NestedKey) (gv : α → As) : List (NestedKey × As) := l.foldl (fun acc a => putN acc (kf a) (gv a)) []
theorem dnA_snoc (l : List α) (a : α) (kf : α → NestedKey) (gv : α → As) : dnA (l ++ [a]) kf gv = putN (dnA l kf gv) (kf a) (gv a) := by
  unfold dnA
  rw [List.foldl_append]
  rfl
theorem dnA_len (kf : α → NestedKey) (gv : α → As) : ∀ (l : List α) (acc : List (NestedKey × As)), (l.foldl (fun acc a => putN acc (kf a) (gv a)) acc).length ≤ acc.length + l.length
  | [], _ => Nat.le_refl _
  | a :: l, acc => by
    have h1 := dnA_len kf gv l (putN acc (kf a) (gv a))
    have h2 := putN_len acc (kf a) (gv a)
    rw [List.foldl_cons, List.length_cons]
    omega
def tKn (ρ : α → List En) (l : List α) (p : α → Bool) (kf : α → NestedKey) : TE := fun σ H Q => ∃ a, a ∈ l ∧ p a = true ∧ tA (ρ a) (nkA (kf a)) σ H Q
theorem pe_kn {e : Expr} {ρ : α → List En} {l : List α} {p : α → Bool} {kf : α → NestedKey} (h : ∀ a ∈ l, p a = true → EA X e (ρ a) (nkA (kf a))) : PE X e (tKn ρ l p kf) := ⟨fun pins s σ H Q I ⟨a, ha, hp, q⟩ => (h a ha hp).run pins s σ H Q I q⟩
theorem tdn_g {w : World} {σ : L2.St} {H : Hp} {Q : VK} {l : List α} {p : α → Bool} {kf : α → NestedKey} {gv : α → As} {vs : List Nat} (hz : l.length < sizeLine) (hkf : ∀ i a, l[i]? = some a → p a = true → KeyFor ((dnA ((l.take i).filter p) kf gv).map (·.1)) (kf a)) (h : tA ρ (ndA w (dnA (l.filter p) kf gv)) σ H Q) :
    tDn w (iSG ρ g vs l ρ1) g (tTc ρ1 l p) (tKn ρ1 l p kf) (tEc ρ1 l p gv) vs σ H Q := by
  obtain ⟨H0, F, S, k⟩ := h
  refine ⟨H0, F, S, fun J H1 F1 g1 src D o0 hD nd0 => ?_⟩
  refine ⟨fun i m H' => m = l.length - i ∧ i ≤ l.length ∧ ∃ F' ob, Gr F1 H1 F' H' ∧ F' D = none ∧ H' D = some ob ∧ NdP w (dnA ((l.take i).filter p) kf gv) F' D ob, ⟨l.length, rfl, Nat.zero_le _, F1, o0, .newH g1.i hD, g1.i.none hD, upd_same, nd0 F1⟩, ?_⟩
  rintro i m H' ⟨rfl, hi, F', ob, G, fD, hDl, hnd⟩
  by_cases hlt : i < l.length
  · have ha : l[i]? = some l[i] := List.getElem?_eq_getElem hlt
    generalize l[i] = a at ha
    have mem : a ∈ l := List.mem_of_getElem? ha
    have tk : l.take (i + 1) = l.take i ++ [a] := by rw [List.take_add_one, ha]; rfl
    refine .inr ⟨src.go i a F' H' G ha, fun H2 => ∃ F2 ob, Gr F1 H1 F2 H2 ∧ F2 D = none ∧ H2 D = some ob ∧ NdP w (dnA ((l.take (i + 1)).filter p) kf gv) F2 D ob, fun H2 L2 => ⟨_, by omega, rfl, hlt, L2⟩, fun x H'' y => ?_⟩
    refine src.turn i a F' H' x H'' G ha y _ fun σ2 H2 F2 g2 S2 w2 => ⟨w2, a, mem, H0, F2, S2, fun H3 F3 g3 => ?_⟩
    have G3 := (G.trans g2).trans g3
    have f2 : F2 D = none := g2.n D _ hDl fD
    have h2 : H2 D = some ob := g2.h D _ hDl
    have f3 : F3 D = none := g3.n D _ h2 f2
    have h3 : H3 D = some ob := g3.h D _ h2
    have hnd3 : NdP w (dnA ((l.take i).filter p) kf gv) F3 D ob := (ndOb w _).mono (g2.f.trans g3.f) hnd
    cases hp : p a with
    | false =>
      refine ⟨F3, ob, G3, f3, h3, ?_⟩
      rw [tk, List.filter_append, List.filter_cons, hp]
      simpa using hnd3
    | true =>
      refine ⟨a, mem, hp, H0, F3, S2.gr g3, fun u H4 F4 g4 hu => ?_⟩
      have f4 : F4 D = none := g4.n D _ h3 f3
      have h4 : H4 D = some ob := g4.h D _ h3
      refine ⟨a, mem, hp, H0, F4, (S2.gr g3).gr g4, fun z H5 F5 g5 hz5 => ?_⟩
      have f5 : F5 D = none := g5.n D _ h4 f4
      have G5 := (G3.trans g4).trans g5
      refine ⟨F5, _, kf a, gv a, ob, g5.h D _ h4, g5.i, (ndOb w _).mono (g4.f.trans g5.f) hnd3, (nkA _).mono g5.f hu, hz5, ?_, hkf i a ha hp, fun ob' nd' => ⟨F5, ob', ⟨G5.f, fun b o q => ?_, fun b o q => ?_, G5.n⟩, f5, upd_same, ?_⟩⟩
      · have q := dnA_len kf gv ((l.take i).filter p) []
        have q2 := List.length_filter_le p (l.take i)
        rw [List.length_take] at q2
        have q3 : (dnA ((l.take i).filter p) kf gv).length ≤ ((l.take i).filter p).length := by simpa [dnA] using q
        omega
      · rw [upd_ne (ne_of_none q hD)]
        exact G5.h b o q
      · rw [upd_ne (ne_of_none q f5)]
        exact G5.i b o q
      · rw [tk, List.filter_append, show List.filter p [a] = [a] by simp [hp], dnA_snoc]
        exact nd'
  · have e : i = l.length := by omega
    subst e
    rw [List.take_length] at hnd
    have G' := g1.trans G
    exact .inl ⟨src.stop F' H' G, k _ H' _ (G'.take (g1.h.none hD) fD hDl) ⟨D, ob, rfl, upd_same, (ndOb w _).mono (Ex.new fD) hnd⟩⟩
theorem ea_dcN {own : List (Str × Nat)} {k : Nat} {l : List α} {p : α → Bool} {kf : α → NestedKey} {gv : α → As} (hr : Room k X.A) (hc : X.calm = true) (hN : X.N.Nodup) (hi : ESG X tg it ρ g (own.map (·.2)) l ρ1) (hz : l.length < sizeLine) (hkf : ∀ i a, l[i]? = some a → p a = true → KeyFor ((dnA ((l.take i).filter p) kf gv).map (·.1)) (kf a)) (ok : BlkOk X.N X.env.scope scope own)
    (hg : Blk X scope fun Y => PG Y tg g) (ht : Blk X scope fun Y => ∀ a ∈ l, PTs Y ifs (tTs (ρ1 a) (p a))) (hk : Blk X scope fun Y => ∀ a ∈ l, p a = true → EA Y kx (ρ1 a) (nkA (kf a))) (he : Blk X scope fun Y => ∀ a ∈ l, p a = true → EA Y vx (ρ1 a) (gv a)) (hs : ∀ z, foldedSetIterable it X.env z = pure z := by intro _; rfl) :
    EA X (.DictComp kx vx [⟨tg, it, ifs, 0⟩] scope pos) ρ (ndA X.w (dnA (l.filter p) kf gv)) :=
  pe_imp (pe_dn (own := own) (by have := un9 hr; omega) hc hN hi ok hg (fun s H C cl fp => pts_c (ht s H C cl fp)) (fun s H C cl fp => pe_kn (hk s H C cl fp)) (fun s H C cl fp => pe_c (he s H C cl fp)) hs) fun σ H Q h => tdn_g hz hkf h
theorem sa_setDn {own : List (Str × Nat)} {k : Nat} (i : Nat) {y : Str} {py : Pos} {l : List α} {p : α → Bool} {kf : α → NestedKey} {gv : α → As} (hr : Room k X.A) (hc : X.calm = true) (hN : X.N.Nodup) (hi : ESG X tg it ρ g (own.map (·.2)) l ρ1) (hz : l.length < sizeLine) (hkf : ∀ i a, l[i]? = some a → p a = true → KeyFor ((dnA ((l.take i).filter p) kf gv).map (·.1)) (kf a)) (ok : BlkOk X.N X.env.scope scope own)
    (hg : Blk X scope fun Y => PG Y tg g) (ht : Blk X scope fun Y => ∀ a ∈ l, PTs Y ifs (tTs (ρ1 a) (p a))) (hk : Blk X scope fun Y => ∀ a ∈ l, p a = true → EA Y kx (ρ1 a) (nkA (kf a))) (he : Blk X scope fun Y => ∀ a ∈ l, p a = true → EA Y vx (ρ1 a) (gv a)) (kk : Nx (ρ.set i (.fr (ndA X.w (dnA (l.filter p) kf gv))))) (hy : X.N[i]? = some y := by rfl) (hyl : X.env.scope.names.lookup y = some .local := by rfl)
    (hsw : swapsWith (.DictComp kx vx [⟨tg, it, ifs, 0⟩] scope pos) (some (.Name y py)) spos.line X.env = pure true := by exact sw_trueD rfl rfl rfl (by decide +kernel)) (hs : ∀ z, foldedSetIterable it X.env z = pure z := by intro _; rfl) :
    SA X (.Assign [.Name y py] (.DictComp kx vx [⟨tg, it, ifs, 0⟩] scope pos) spos) ρ Nx W :=
  ps_imp (ps_setDn (own := own) (i := i) (by have := un9 hr; omega) hc hN hy hyl hsw hi ok hg (fun s H C cl fp => pts_c (ht s H C cl fp)) (fun s H C cl fp => pe_kn (hk s H C cl fp)) (fun s H C cl fp => pe_c (he s H C cl fp)) hs) fun D σ H ⟨F0, H0, F, g0, S, q, _⟩ => tdn_g hz hkf ⟨H0, F, S, fun v H' F' g' hv => q _ _ H' F' kk (g0.trans g') ((S.gr g').set hv)⟩
end
end Lk

set_option Elab.async false
set_option linter.all false
set_option maxRecDepth 100000
set_option maxHeartbeats 4000000
namespace Lk
open PySem PySem.Calls L2 PySem.Spec PyProof.Rows
theorem es_is {X : Cx} {tg it : Expr} {ρ : List En} {l m : List As} (h : ES X tg it ρ l) (i : l = m) : ES X tg it ρ m := i ▸ h
/-- the scope of a comprehension, as one within it sees it -/
def relabS (sc sc0 : Scope) : Scope := relabel sc { (default : Env) with scope := sc0 }
theorem blk_relS {N : List Str} {sc sc0 scope : Scope} {own : List (Str × Nat)} {cl : List (Str × Addr)} {C : Addr} {env : Env} (e : env.scope = sc0) (h : BlkOk N (relabS sc sc0) scope own) : BlkOk N (compEnvC sc cl C env).scope scope own := by
  subst e
  exact h
end Lk

set_option Elab.async false
set_option linter.all false
set_option maxRecDepth 100000
set_option maxHeartbeats 4000000
namespace Lk
open PySem PySem.Calls L2
/-! ### while -/
section
variable {X : Cx} {c : Expr} {ρ : List En} {pos : Pos} {sts : List Stmt} {Nx : List En → Prop} {W : Wn} {ι : Type}
def tcW (ok : ι → Prop) (env : ι → List En) (b : ι → Bool) : TT := fun σ H Q => ∃ i, ok i ∧ tTs (env i) (b i) σ H Q
def tbW (ok : ι → Prop) (env : ι → List En) (μ : ι → Nat) (b : ι → Bool) (W : Wn) (Nx : List En → Prop) : TS := fun D σ H => ∃ i, ok i ∧ b i = true ∧ sA (env i) (fun ρ2 => ∃ j, ok j ∧ μ j < μ i ∧ Le (env j) ρ2) { W with B := Nx, C := fun ρ2 => ∃ j, ok j ∧ μ j < μ i ∧ Le (env j) ρ2 } D σ H
/-- while c: .., by a measure; c has no effect -/
theorem sa_while (ok : ι → Prop) (env : ι → List En) (μ : ι → Nat) (b : ι → Bool) (hp : PassesOwn (model X.prog X.w) X.A X.env X.xe) (h0 : ∃ i, ok i ∧ Le (env i) ρ) (hc : ∀ i, ok i → ET X c (env i) (b i))
    (hs : ∀ i, ok i → b i = true → BA X sts (env i) (fun ρ2 => ∃ j, ok j ∧ μ j < μ i ∧ Le (env j) ρ2) { W with B := Nx, C := fun ρ2 => ∃ j, ok j ∧ μ j < μ i ∧ Le (env j) ρ2 }) (hd : ∀ i, ok i → b i = false → Nx (env i)) : SA X (.While c sts [] pos) ρ Nx W := by
  have pc : PT X c (tcW ok env b) := ⟨fun pins s σ H Q I ⟨i, hi, q⟩ => (hc i hi).run pins s σ H Q I q⟩
  have pb : PSs X sts (tbW ok env μ b W Nx) := ⟨fun pins s σ H D I ⟨i, hi, hb, q⟩ => (hs i hi hb).run pins s σ H D I q⟩
  refine ps_imp (ps_while hp pc pb) fun D σ H ⟨F0, H0, F, g, S, q1, q2, q3, q4, q5⟩ => ?_
  refine ⟨fun m σ' H' => ∃ i F', ok i ∧ m = μ i ∧ Gr F0 H0 F' H' ∧ Sat H0 F' σ' H' (env i), ?_, ?_⟩
  · obtain ⟨i, hi, le⟩ := h0
    exact ⟨μ i, i, F, hi, rfl, g, S.le le⟩
  rintro m σ' H' ⟨i, F', hi, rfl, g', S'⟩
  refine ⟨i, hi, H0, F', S', fun H1 F1 g1 => ?_⟩
  have g2 := g'.trans g1
  have S2 := S'.gr g1
  cases e : b i with
  | false => exact q1 _ σ' H1 F1 (hd i hi e) g2 S2
  | true =>
    refine ⟨fun σ2 H2 => ∃ j F2, ok j ∧ μ j < μ i ∧ Gr F0 H0 F2 H2 ∧ Sat H0 F2 σ2 H2 (env j), fun σ2 H2 ⟨j, F2, a1, a2, a3, a4⟩ => ⟨μ j, a2, j, F2, a1, rfl, a3, a4⟩, ?_⟩
    have fin : ∀ ρ2 σ2 H2 F2, (∃ j, ok j ∧ μ j < μ i ∧ Le (env j) ρ2) → Gr F0 H0 F2 H2 → Sat H0 F2 σ2 H2 ρ2 → ∃ j F2, ok j ∧ μ j < μ i ∧ Gr F0 H0 F2 H2 ∧ Sat H0 F2 σ2 H2 (env j) := fun ρ2 σ2 H2 F2 ⟨j, a1, a2, le⟩ g3 S3 => ⟨j, F2, a1, a2, g3, S3.le le⟩
    exact ⟨i, hi, e, F0, H0, F1, g2, S2, fin, q2, q1, fin, q5⟩
end
end Lk

set_option Elab.async false
set_option linter.all false
set_option maxRecDepth 100000
set_option maxHeartbeats 4000000
namespace Lk
open PySem PySem.Calls L2
/-! ### k in d, as a value -/
section
variable {X : Cx} {o i : Expr} {ρ : List En} {k : Nat} {pos : Pos}
theorem ea_inN {l : List (NestedKey × As)} {ky : NestedKey} (hr : Room k X.A) (hi : EA X i ρ (nkA ky)) (ho : EA X o ρ (ndA X.w l)) (fd : Nk.Fd (l.map (·.1)) ky) (hm : behindInMarks .In o = false) : EA X (.Compare i [.In] [o] pos) ρ (bl (lookN l ky).isSome) :=
  pe_imp (pe_cmp (pc_nin (un9 hr) hi ho) hm) fun σ H Q ⟨H0, F, S, q⟩ => ⟨H0, F, S, fun y H1 F1 g1 hy => ⟨H0, F1, S.gr g1, fun v H2 F2 g2 ⟨a, ob, ev, h1, h2⟩ =>
    ⟨a, F2, l, ky, ob, ev, g2.i a _ h1, g2.i, h2, (nkA _).mono g2.f hy, fd, by simpa using q _ H2 F2 (g1.trans g2) rfl⟩⟩⟩
theorem ea_inI {l : List (Int × As)} {s : Int} (hr : Room k X.A) (hi : EW X i ρ (int s)) (ho : EA X o ρ (diA l)) (hm : behindInMarks .In o = false) : EA X (.Compare i [.In] [o] pos) ρ (bl (l.lookup s).isSome) :=
  pe_imp (pe_cmp (pc_din (hu_of hr) hi ho) hm) fun σ H Q ⟨H0, F, S, q⟩ => ⟨H0, F, S, fun y H1 F1 g1 hy => ⟨H0, F1, S.gr g1, fun v H2 F2 g2 ⟨p, vs, ev, h1, h2⟩ => by
    have hy : y = .int s := hy
    subst hy
    refine ⟨p, _, ev, dget_i (F := F2) s g2.i h1, ?_⟩
    have z : (valV ((l.map fun x => kI x.1).zip vs) (kI s)).isSome = (l.lookup s).isSome := by
      cases hl : l.lookup s with
      | none =>
        rw [valV_nozip (r := kI) kI_inj h2 hl]
        rfl
      | some A =>
        obtain ⟨u, hu, _⟩ := valV_zip (r := kI) kI_inj h2 hl
        rw [hu]; rfl
    rw [z]
    exact q _ H2 F2 (g1.trans g2) rfl⟩⟩
theorem look_isN {l : List (NestedKey × As)} {k : NestedKey} : (lookN l k).isSome = decide (k ∈ l.map (·.1)) := by
  unfold lookN
  induction l with
  | nil => simp
  | cons x l ih =>
    rw [Bool.eq_iff_iff]
    by_cases c : x.1 = k
    · simp [c]
    · simp only [List.find?_cons, c, decide_false, List.map_cons, List.mem_cons]
      rw [Bool.eq_iff_iff] at ih
      simp only [decide_eq_true_eq] at ih
      rw [ih, decide_eq_true_eq]
      exact ⟨.inr, fun h => h.elim (fun e => absurd e.symm c) id⟩
end
end Lk

set_option Elab.async false
set_option linter.all false
set_option maxRecDepth 100000
set_option maxHeartbeats 4000000
namespace Lk
open PySem PySem.Calls L2 PySem.Spec PyProof.Rows
/-! ### reversed(xs), xs a list or a tuple -/
theorem src_rv {K : PySem.W.Frag} {a : Addr} {xs : List V} : Src (Itv K a xs.length) xs.reverse (fun H => SqL K H a xs) := fun i H q => by
  have at_ : ∀ {i}, i < xs.length → xs.reverse[i]? = xs[xs.length - 1 - i]? := fun h => List.getElem?_reverse h
  refine ⟨fun x hx => ?_, fun h x H' y => ?_, fun z => ?_⟩
  · have hi : i < xs.length := by have := (List.getElem?_eq_some_iff.mp hx).1; simpa using this
    rw [at_ hi] at hx
    exact ⟨hi, xs, x, q, hx⟩
  · have hi : i < xs.length := by simpa using h
    rw [at_ hi]
    exact ⟨y.1, y.2 xs q⟩
  · rw [List.length_reverse] at z
    exact z
theorem src_rt {K : PySem.W.Frag} {a : Addr} {xs : List V} : Src (RT.ItvT K a xs.length) xs.reverse (fun H => SqT K H a xs) := fun i H q => by
  have at_ : ∀ {i}, i < xs.length → xs.reverse[i]? = xs[xs.length - 1 - i]? := fun h => List.getElem?_reverse h
  refine ⟨fun x hx => ?_, fun h x H' y => ?_, fun z => ?_⟩
  · have hi : i < xs.length := by have := (List.getElem?_eq_some_iff.mp hx).1; simpa using this
    rw [at_ hi] at hx
    exact ⟨hi, xs, x, q, hx⟩
  · have hi : i < xs.length := by simpa using h
    rw [at_ hi]
    exact ⟨y.1, y.2 xs q⟩
  · rw [List.length_reverse] at z
    exact z
theorem allV_rev {F : Hp} {xs : List V} {l : List As} (h : AllV F xs l) : AllV F xs.reverse l.reverse := by
  induction xs generalizing l with
  | nil => cases l with
    | nil => trivial
    | cons A l => exact h.elim
  | cons x xs ih => cases l with
    | nil => exact h.elim
    | cons A l =>
      rw [List.reverse_cons, List.reverse_cons]
      exact (ih h.2).snoc h.1
section
variable {X : Cx} {tg e st : Expr} {ρ : List En} {l : List As} {p pos p2 : Pos} {te : TE} {tk : TO}
theorem es_rev {q : Bool} (h : EA X e ρ (sq q l)) (hm : X.mg "reversed" = none) (hg : Gl X "reversed" := by rfl) (hs : starEach [e] X.env = (false, eval e X.env) :: starEach [] X.env := by rfl) : ES X tg (.Call (.Name "reversed" p) [e] [] pos) ρ l.reverse := by
  refine pi_imp (RT.pi_revA hg hm h hs) ?_
  rintro σ H R ⟨H0, F, S, k⟩
  refine ⟨H0, F, S, fun v H1 F1 g1 hv => ?_⟩
  cases q with
  | true =>
    obtain ⟨a, xs, ev, h1, h2⟩ := hv
    exact ⟨a, xs, ev, .inl ⟨SqL.of (g1.i a _ h1), k _ _ xs.reverse H1 F1 g1 (allV_rev h2) src_rv fun H' e => SqL.of (e a _ h1)⟩⟩
  | false =>
    obtain ⟨a, xs, ev, h1, h2⟩ := hv
    exact ⟨a, xs, ev, .inr ⟨SqT.of (g1.i a _ h1), k _ _ xs.reverse H1 F1 g1 (allV_rev h2) src_rt fun H' e => SqT.of (e a _ h1)⟩⟩
/-! ### xs[::-1] -/
def tRevS (K : PySem.W.Frag) (te : TE) (tk : TO) : TE := fun σ H Q => te σ H fun x H1 => tk σ H1 fun k H2 => k = some (-1) ∧ ∃ a xs, x = .ref a ∧ SqL K H2 a xs ∧ ∀ p, H2 p = none → Q (.ref p) (upd H2 p (.lst xs.reverse))
theorem vals_rev : ∀ {xs : List V} {us : List Value}, Vals xs us → Vals xs.reverse us.reverse
  | _, _, .nil => .nil
  | _, _, .cons r t => by
    rw [List.reverse_cons, List.reverse_cons]
    exact (vals_rev t).append (.cons r .nil)
theorem pe_sliceRev (he : PE X e te) (hk : PO X (some st) tk) : PE X (.Subscript e (.Slice none none (some st) p2) pos) (tRevS X.K te tk) := by
  refine ⟨fun pins s σ H Q I h => ?_⟩
  refine Subscript_ (thn (he.run pins s σ H _ I h) fun v s1 ⟨x, H1, I1, r1, q1⟩ => ?_)
  refine wpAny_Slice ?_
  rw [evalPart_none]
  refine wpAny_pure ?_
  refine wpAny_pure ?_
  refine thn (hk.run pins s1 σ H1 _ I1 q1) fun vk s3 ⟨u, H3, I3, pk, q3⟩ => ?_
  obtain ⟨rfl, a, xs, rfl, hx, q⟩ := q3
  obtain rfl : v = Value.ref a := r1
  have I4 : Inv X pins σ H3 { s3 with heap := s3.heap.push { cls := .type "slice", data := .fields #[.none, .none, vk] } } := I3.kept (t' := s3.toks) fun b ob q => Heap.get?_push_of_some _ q
  obtain ⟨its, r, ht, hz⟩ := I4.list hx
  have hlen := r.length
  show wpAny (model X.prog X.w) X.A (subscriptTail e (.Slice none none (some st) p2) (.ref a) (.ref s3.heap.objs.size)) (EP X pins σ Q) X.xe { s3 with heap := s3.heap.push { cls := .type "slice", data := .fields #[.none, .none, vk] } }
  refine tail_any (ops := [.ref a, .ref s3.heap.objs.size]) ht.isList.typeIs slot_list_getitem.lookup ?_ (by with_unfolding_all rfl)
  refine wpAny_getItem_list_slice ht.isList (Heap.IsSliceOf.new ..) .none .none pk (by simp) ?_ (by rw [List.size_toArray] <;> omega)
  rw [PySem.W.krv_pick]
  refine ⟨.ref _, _, I4.laid (t' := s3.toks) (o := .lst xs.reverse) (fun b ob q => Heap.get?_push_of_some _ q) (Nat.le_refl _) ?_, rfl, q _ (I4.hok.fresh (Nat.le_refl _))⟩
  exact ⟨by rw [List.length_reverse]; exact hz, _, 0, vals_rev r, Heap.get?_push_size _ rfl⟩
end
end Lk

set_option Elab.async false
set_option linter.all false
set_option maxRecDepth 100000
set_option maxHeartbeats 4000000
namespace Lk
open PySem PySem.Calls L2 PySem.Spec PyProof.Rows PySem.W
/-! ### a, *b = a list -/
section
variable {X : Cx} {pos pp : Pos}
def gSt (K : PySem.W.Frag) (t : TGs) : TG := fun v σ H Q => ∃ a x xs, v = .ref a ∧ SqL K H a (x :: xs) ∧ ∀ D, H D = none → t [x, .ref D] σ (upd H D (.lst xs)) Q
theorem pg_star {e1 e2 : Expr} {k : Nat} {t : TGs} (hc : X.calm = true) (h : PGs X [e1, e2] t) (hs : (assignEach [e1, .Starred e2 pp] X.env).map (·.2) = (assignEach [e1, e2] X.env).map (·.2) := by rfl)
    (hn : (assignEach [e1, .Starred e2 pp] X.env).length = 2 := by rfl) (hst : (assignEach [e1, .Starred e2 pp] X.env).findIdx? (·.1) = some 1 := by rfl) : PG X (.Tuple [e1, .Starred e2 pp] k pos) (gSt X.K t) := by
  refine ⟨fun pins s σ H v u Q I r hw => ?_⟩
  obtain ⟨a, x, xs, ev, hq, hw⟩ := hw
  subst ev
  cases r
  obtain ⟨its, rv, pl, hz⟩ := I.list hq
  obtain ⟨w0, ws, rfl, rx, rs⟩ : ∃ w0 ws, its = w0 :: ws ∧ RelV x w0 ∧ Vals xs ws := by
    cases rv with
    | cons r t => exact ⟨_, _, rfl, r, t⟩
  have hl := pl.isList
  have hlt : a ≠ s.heap.objs.size := by obtain ⟨o, ho, _⟩ := hl; exact Nat.ne_of_lt (Heap.lt_size ho)
  have hsz : (w0 :: ws).toArray.size = ws.length + 1 := by simp
  have hws := rs.length
  rw [PyProof.Rows.assign_Tuple]
  refine wpAny_bind (wpAny_standAt ?_)
  unfold unpack
  rw [hn, hst]
  refine wpAny_bind (wpAny_holding ?_)
  unfold unpackItems
  refine wpAny_bind ?_
  unfold notIterableAtAll
  refine wpAny_bind (wpAny_specialOf hl.typeIs slot_list_iter.lookup ?_)
  refine wpAny_pure ?_
  simp only [Bool.false_eq_true, if_false]
  refine wpAny_bind (wpAny_holding (wpAny_pyIter_list hl ?_))
  refine wpAny_bind (wpAny_holding (kun_draw hlt 1 0 _ _ ⟨_, Heap.get?_push_size _ rfl, rfl, rfl⟩ (hl.push _) (by rw [hsz]; omega) fun h₁ hit₁ hs₁ => ?_))
  have hl₁ : h₁.IsList a (w0 :: ws).toArray := (hl.push _).extBut hs₁.extBut hlt
  rw [Nat.zero_add] at hit₁
  have hit₁' := hit₁
  obtain ⟨oi, hoi, _⟩ := hit₁'
  have hl₁' := hl₁
  obtain ⟨ol, hol, _⟩ := hl₁'
  rw [List.drop_zero]
  rw [if_neg (show ¬ (((w0 :: ws).toArray.toList.take 1).length < 1) by simp)]
  refine wpAny_bind (wpAny_holding (kun_collect (s := { s with heap := h₁ }) (T := "list_iterator") (.inr (.inr (.inl rfl))) (Walks.list (A := X.A.in1) (I.ok.hd hc) s.heap.objs.size a hlt (w0 :: ws).toArray) (fun j u st => st.1.typeIs) (k := 1) (by rw [hsz]; omega) ⟨hit₁, hl₁⟩ (Heap.lt_size hoi) (Heap.lt_size hol) (fun h₂ tk hk => ?_) (by rw [hsz]; rw [List.length_cons] at hz; omega)))
  have hdr : (w0 :: ws).toArray.toList.drop 1 = ws := by simp
  rw [hdr]
  show wpAny _ _ (if ws.length < 2 - 1 - 1 then _ else _) _ _ _
  rw [if_neg (by omega)]
  show wpAny _ _ (newList (ws.take (ws.length - (2 - 1 - 1))) >>= fun d => pure ((w0 :: ws).toArray.toList.take 1 ++ [d] ++ ws.drop (ws.length - (2 - 1 - 1)))) _ _ _
  have e1' : ws.take (ws.length - (2 - 1 - 1)) = ws := by simp
  have e2' : ws.drop (ws.length - (2 - 1 - 1)) = [] := by simp
  rw [e1', e2']
  have I2 : Inv X pins σ H { s with heap := h₂, toks := tk } := I.kept (t' := tk) fun b o e => hk b o (Nat.ne_of_lt (Heap.lt_size e)) (hs₁.extBut b o (Nat.ne_of_lt (Heap.lt_size e)) (Heap.get?_push_of_some _ e))
  refine wpAny_bind (wpAny_newList (wpAny_pure ?_) (by rw [List.length_cons] at hz; omega))
  have hfr := I2.hok.fresh (Nat.le_refl ({ s with heap := h₂, toks := tk } : Shared).heap.objs.size)
  have I3 : Inv X pins σ (upd H h₂.objs.size (.lst xs)) { s with heap := h₂.push { cls := .type "list", data := .seq ws.toArray }, toks := tk } := I2.laid (t' := tk) (o := .lst xs) (fun b ob q => Heap.get?_push_of_some _ q) (Nat.le_refl _) ⟨by rw [List.length_cons] at hz; omega, ws, 0, rs, Heap.get?_push_size _ rfl⟩
  rw [hs]
  exact h.run pins _ σ _ [x, .ref h₂.objs.size] [w0, .ref h₂.objs.size] Q I3 (.cons rx (.cons rfl .nil)) (hw _ hfr)
end
end Lk

set_option Elab.async false
set_option linter.all false
set_option maxRecDepth 100000
set_option maxHeartbeats 4000000
namespace Lk
open PySem PySem.Calls L2 PySem.Spec PyProof.Rows
/-! ### x, *y = e, e a list that is not empty -/
section
variable {X : Cx} {e : Expr} {ρ : List En} {pos : Pos} {A : As} {l : List As} {Nx : List En → Prop} {W : Wn}
theorem sa_unpS (i j : Nat) {x y : Str} {px py pt pp : Pos} {kt : Nat} (hc : X.calm = true) (hN : X.N.Nodup) (he : EA X e ρ (lstA (A :: l))) (k : Nx ((ρ.set i (.fr A)).set j (.fr (lstA l)))) (hi : X.N[i]? = some x := by rfl) (hj : X.N[j]? = some y := by rfl)
    (hx : Loc X.env.scope x := by first | exact .inl rfl | exact .inr rfl) (hy : Loc X.env.scope y := by first | exact .inl rfl | exact .inr rfl) (hfx : X.fn x = true ∨ X.env.scope.names.lookup x = some .local := by first | exact .inl rfl | exact .inr rfl) (hfy : X.fn y = true ∨ X.env.scope.names.lookup y = some .local := by first | exact .inl rfl | exact .inr rfl)
    (hs : swapsWithSole [.Tuple [.Name x px, .Starred (.Name y py) pp] kt pt] e pos.line X.env = pure false := by rfl) (hw : swappedStores [.Tuple [.Name x px, .Starred (.Name y py) pp] kt pt] e X.env = pure none := by rfl)
    (h1 : (assignEach [.Tuple [.Name x px, .Starred (.Name y py) pp] kt pt] X.env).map (·.2) = [assign (.Tuple [.Name x px, .Starred (.Name y py) pp] kt pt) X.env] := by rfl)
    (hm : (assignEach [.Name x px, .Starred (.Name y py) pp] X.env).map (·.2) = (assignEach [.Name x px, .Name y py] X.env).map (·.2) := by rfl)
    (hn : (assignEach [.Name x px, .Starred (.Name y py) pp] X.env).length = 2 := by rfl) (hst : (assignEach [.Name x px, .Starred (.Name y py) pp] X.env).findIdx? (·.1) = some 1 := by rfl) : SA X (.Assign [.Tuple [.Name x px, .Starred (.Name y py) pp] kt pt] e pos) ρ Nx W :=
  ps_imp (ps_asg he (pg_star hc (pgs_cons (pg_name hN hi hx hfx) (pgs_cons (pg_name hN hj hy hfy) pgs_nil)) hm hn hst) hs hw h1) fun D σ H ⟨F0, H0, F, g, S, q, _⟩ => ⟨H0, F, S, fun v H' F' g' ⟨p, xs, ev, hp, hv⟩ => by
    match xs, hv with
    | u1 :: us, hv =>
      obtain ⟨v1, v2⟩ := hv
      refine ⟨p, u1, us, ev, SqL.of (g'.i p _ hp), fun D' hD => ?_⟩
      have gD : Gr F' H' (upd F' D' (.lst us)) (upd H' D' (.lst us)) := (Gr.newH (o := .lst us) g'.i hD).take hD (g'.i.none hD) upd_same
      refine ⟨u1, [.ref D'], rfl, .ref D', [], rfl, rfl, q _ _ _ _ k ((g.trans g').trans gD) ((((S.gr g').gr gD).set (A.mono gD.f v1)).set ?_)⟩
      exact ⟨D', us, rfl, upd_same, v2.mono gD.f⟩⟩
end
/-! ### for a, b in zip(x, y) -/
section
variable {α : Type} {X : Cx} {ρ : List En} {pos : Pos} {a b : Expr} {sts : List Stmt} {Nx : List En → Prop} {W : Wn} {l : List α} {e1 e2 : α → As}
def tbZ (I : Nat → List En → Prop) (l : List α) (j1 j2 : Nat) (e1 e2 : α → As) (W : Wn) (Nx : List En → Prop) : TS := fun D σ H => ∃ n x ρ', l[n]? = some x ∧ I n ρ' ∧ sA ((ρ'.set j1 (.fr (e1 x))).set j2 (.fr (e2 x))) (fun ρ2 => ∃ ρ3, I (n + 1) ρ3 ∧ Le ρ3 ρ2) { W with B := Nx, C := fun ρ2 => ∃ ρ3, I (n + 1) ρ3 ∧ Le ρ3 ρ2 } D σ H
theorem sa_forZ (j1 j2 : Nat) {x y : Str} {px py pt p zp : Pos} {kt : Nat} {la lb : List As} (I : Nat → List En → Prop) (hp : PassesOwn (model X.prog X.w) X.A X.env X.xe) (hc : X.calm = true) (hN : X.N.Nodup) (hm : X.mg "zip" = none) (ha : EAs X [a, b] ρ [lstA la, lstA lb])
    (h1 : ∀ (i : Nat) (z : α), l[i]? = some z → la[i]? = some (e1 z)) (h2 : ∀ (i : Nat) (z : α), l[i]? = some z → lb[i]? = some (e2 z)) (hl : la.length = l.length ∨ lb.length = l.length) (h0 : ∃ ρ0, I 0 ρ0 ∧ Le ρ0 ρ)
    (hs : ∀ n z ρ', l[n]? = some z → I n ρ' → BA X sts ((ρ'.set j1 (.fr (e1 z))).set j2 (.fr (e2 z))) (fun ρ2 => ∃ ρ3, I (n + 1) ρ3 ∧ Le ρ3 ρ2) { W with B := Nx, C := fun ρ2 => ∃ ρ3, I (n + 1) ρ3 ∧ Le ρ3 ρ2 })
    (hd : ∀ ρ', I l.length ρ' → Nx ρ') (hi : X.N[j1]? = some x := by rfl) (hj : X.N[j2]? = some y := by rfl)
    (hx : Loc X.env.scope x := by first | exact .inl rfl | exact .inr rfl) (hy : Loc X.env.scope y := by first | exact .inl rfl | exact .inr rfl) (hfx : X.fn x = true ∨ X.env.scope.names.lookup x = some .local := by first | exact .inl rfl | exact .inr rfl) (hfy : X.fn y = true ∨ X.env.scope.names.lookup y = some .local := by first | exact .inl rfl | exact .inr rfl)
    (hg : Gl X "zip" := by rfl) (hfo : ∀ z, foldedSetIterable (.Call (.Name "zip" p) [a, b] [] zp) X.env z = pure z := by intro _; rfl) (hst : starEach [a, b] X.env = (false, eval a X.env) :: starEach [b] X.env := by rfl) (hpl : (backTo zp (starEach [b] X.env)).any (·.1) = false := by rfl)
    (hn : (assignEach [.Name x px, .Name y py] X.env).length = 2 := by rfl) (hsti : (assignEach [.Name x px, .Name y py] X.env).findIdx? (·.1) = none := by rfl) :
    SA X (.For (.Tuple [.Name x px, .Name y py] kt pt) (.Call (.Name "zip" p) [a, b] [] zp) sts [] pos) ρ Nx W := by
  have hb : PSs X sts (tbZ I l j1 j2 e1 e2 W Nx) := ⟨fun pins s σ H D I' ⟨n, A, ρ', h1, h2, q⟩ => (hs n A ρ' h1 h2).run pins s σ H D I' q⟩
  refine ps_imp (ps_for hp hc (pi_zip (elts := [.Name x px, .Name y py]) (kk := kt) (tpos := pt) hg hm ha hst hpl) (pg_tup hc (pgs_cons (pg_name hN hi hx hfx) (pgs_cons (pg_name hN hj hy hfy) pgs_nil)) hn hsti) hb hfo) fun D σ H ⟨F0, H0, F, g, S, q1, q2, q3, q4, q5⟩ => ?_
  refine ⟨H0, F, S, fun us H1 F1 g1 hu => ?_⟩
  match us, hu with
  | [v1, v2], ⟨hA, hB, _⟩ =>
  obtain ⟨a1, xs, rfl, fx, hx2⟩ := hA
  obtain ⟨a2, ys, rfl, fy, hy2⟩ := hB
  refine ⟨a1, a2, xs, ys, rfl, SqL.of (g1.i a1 _ fx), SqL.of (g1.i a2 _ fy), ?_⟩
  have gA := g.trans g1
  have lx := hx2.length
  have ly := hy2.length
  have le1 : l.length ≤ la.length := by
    by_cases h : l.length = 0
    · omega
    · have z := h1 (l.length - 1) l[l.length - 1] (List.getElem?_eq_getElem (by omega))
      have := (List.getElem?_eq_some_iff.mp z).1
      omega
  have le2 : l.length ≤ lb.length := by
    by_cases h : l.length = 0
    · omega
    · have z := h2 (l.length - 1) l[l.length - 1] (List.getElem?_eq_getElem (by omega))
      have := (List.getElem?_eq_some_iff.mp z).1
      omega
  let Pv : Nat → L2.St → Hp → Prop := fun n σ' H' => ∃ ρ' F', I n ρ' ∧ Gr F0 H0 F' H' ∧ Ex F1 F' ∧ Sat H0 F' σ' H' ρ'
  refine ⟨fun n m σ' H' => m = l.length - n ∧ n ≤ l.length ∧ Pv n σ' H', ⟨l.length, by simp, Nat.zero_le _, ?_⟩, ?_⟩
  · obtain ⟨ρ0, i0, le⟩ := h0
    exact ⟨ρ0, F1, i0, gA, Ex.refl F1, (S.gr g1).le le⟩
  rintro n m σ' H' ⟨rfl, hn', ρ', F', hI, g', x', S'⟩
  have qx : SqL X.K H' a1 xs := SqL.of (g'.i a1 _ (x' a1 _ fx))
  have qy : SqL X.K H' a2 ys := SqL.of (g'.i a2 _ (x' a2 _ fy))
  by_cases hlt : n < l.length
  · have ha : l[n]? = some l[n] := List.getElem?_eq_getElem hlt
    obtain ⟨u1, hu1, hA1⟩ := hx2.get (i := n) (h1 n _ ha)
    obtain ⟨u2, hu2, hA2⟩ := hy2.get (i := n) (h2 n _ ha)
    refine .inr ⟨⟨xs, ys, u1, u2, qx, qy, hu1, hu2⟩, Pv (n + 1), fun σ2 H2 p => ⟨l.length - (n + 1), by omega, rfl, hlt, p⟩, fun v H2 yl => ?_⟩
    obtain ⟨T, w1, w2, rfl, hT, rfl, f1, f2⟩ := yl
    have e1' : u1 = w1 := by have z := f1 xs qx; rw [hu1] at z; simpa using z
    have e2' : u2 = w2 := by have z := f2 ys qy; rw [hu2] at z; simpa using z
    subst e1' e2'
    have gT : Gr F' H' F' (upd H' T (.tup [u1, u2])) := .newH g'.i hT
    refine ⟨T, [u1, u2], rfl, SqT.of upd_same, rfl, u1, [u2], rfl, u2, [], rfl, rfl, ?_⟩
    have fin : ∀ ρ2 σ2 H2 F2, (∃ ρ3, I (n + 1) ρ3 ∧ Le ρ3 ρ2) → Gr F0 H0 F2 H2 → Ex F' F2 → Sat H0 F2 σ2 H2 ρ2 → Pv (n + 1) σ2 H2 := fun ρ2 σ2 H2 F2 ⟨ρ3, i3, le⟩ g2 x2 S2 => ⟨ρ3, F2, i3, g2, x'.trans x2, S2.le le⟩
    have gN := g'.trans gT
    refine ⟨n, l[n], ρ', ha, hI, F', H0, F', ?_, ((S'.gr gT).set ((e1 l[n]).mono x' hA1)).set ((e2 l[n]).mono x' hA2), ?_, ?_, ?_, ?_, ?_⟩
    · exact ⟨Ex.refl F', gN.h, gN.i, fun a o z1 z2 => z2⟩
    · intro ρ2 σ2 H2 F2 hm g2 S2
      exact fin ρ2 σ2 H2 F2 hm ⟨g'.f.trans g2.f, g2.h, g2.i, fun a o z1 z2 => g2.n a o z1 (g'.n a o z1 z2)⟩ g2.f S2
    · intro v H2 F2 g2 hv
      exact q2 v H2 F2 ⟨g'.f.trans g2.f, g2.h, g2.i, fun a o z1 z2 => g2.n a o z1 (g'.n a o z1 z2)⟩ hv
    · intro ρ2 σ2 H2 F2 hm g2 S2
      exact q1 ρ2 σ2 H2 F2 hm ⟨g'.f.trans g2.f, g2.h, g2.i, fun a o z1 z2 => g2.n a o z1 (g'.n a o z1 z2)⟩ S2
    · intro ρ2 σ2 H2 F2 hm g2 S2
      exact fin ρ2 σ2 H2 F2 hm ⟨g'.f.trans g2.f, g2.h, g2.i, fun a o z1 z2 => g2.n a o z1 (g'.n a o z1 z2)⟩ g2.f S2
    · intro cls d ρ2 σ2 H2 F2 he g2 S2
      exact q5 cls d ρ2 σ2 H2 F2 he ⟨g'.f.trans g2.f, g2.h, g2.i, fun a o z1 z2 => g2.n a o z1 (g'.n a o z1 z2)⟩ S2
  · have e : n = l.length := by omega
    subst e
    exact .inl ⟨⟨xs, ys, qx, qy, by omega⟩, q1 ρ' σ' H' F' (hd ρ' hI) g' S'⟩
end
/-! ### xs[::-1] as a new list -/
section
variable {X : Cx} {e st : Expr} {ρ : List En} {l : List As} {pos p2 : Pos}
theorem en_revS (h : EL X e ρ l) (hk : EW X st ρ (int (-1))) : EN X (.Subscript e (.Slice none none (some st) p2) pos) ρ l.reverse :=
  pe_imp (pe_sliceRev h (eo_some hk)) fun σ H Q ⟨H0, F, S, k⟩ => ⟨H0, F, S, fun a xs H1 F1 g1 h1 h2 => ⟨H0, F1, S.gr g1, fun H2 F2 g2 => ⟨rfl, a, xs, rfl, SqL.of (g2.h a _ h1), fun p hp => k p xs.reverse _ F2 ((g1.trans g2).trans (.newH g2.i hp)) ((g1.trans g2).h.none hp) (g2.i.none hp) upd_same (allV_rev (h2.mono g2.f))⟩⟩⟩
end
end Lk

set_option Elab.async false
set_option linter.all false
set_option maxRecDepth 100000
set_option maxHeartbeats 4000000
namespace Lk
open PySem PySem.Calls L2 PySem.Spec PyProof.Rows
section
variable {X : Cx} {tg a : Expr} {ρ : List En} {p1 p2 : Pos}
theorem es_rng1 {n : Nat} (hm : X.mg "range" = none) (h : EA X a ρ (int (n : Int))) (hn : n ≤ 1000000) (hg : Gl X "range" := by rfl) (hs : starEach [a] X.env = [(false, eval a X.env)] := by rfl) : ES X tg (.Call (.Name "range" p1) [a] [] p2) ρ ((List.range n).map nat) :=
  pi_imp (pi_range1 hg hm (pa_cons h pa_nil hs) hs) fun σ H R ⟨H0, F, S, k⟩ => ⟨H0, F, S, fun v H1 F1 g1 h1 => by
    have h1 : v = .int n := h1
    subst h1
    refine ⟨n, rfl, by omega, by omega, ?_⟩
    rw [Int.toNat_natCast]
    refine k _ (fun _ => True) ((List.range n).map fun k : Nat => V.int (k : Int)) H1 F1 g1 ?_ ?_ fun _ _ => trivial
    · have q := AllV.of_scs (F := F1) (cs := (List.range n).map fun k : Nat => V.int (k : Int))
      rw [List.map_map] at q
      exact q
    · refine fun m H _ => ⟨fun x hx => ?_, fun hm x H' y => ?_, fun z => ?_⟩
      · have z := (List.getElem?_eq_some_iff.mp hx).1
        rw [List.length_map, List.length_range] at z
        exact z
      · rw [List.length_map, List.length_range] at hm
        refine ⟨y.1, ?_⟩
        rw [List.getElem?_map, List.getElem?_range hm, y.2]
        simp
      · rw [List.length_map, List.length_range] at z
        exact z⟩
end
end Lk

set_option Elab.async false
set_option linter.all false
set_option maxRecDepth 100000
set_option maxHeartbeats 4000000
namespace Lk
open PySem PySem.Calls L2
section
variable {X : Cx} {e o i : Expr} {ρ : List En} {l : List As} {pos : Pos} {Nx : List En → Prop} {W : Wn} {Fs : Hp} {k : Nat}
/-- return x, x a list of one's own, in a def whose answer is a new list -/
theorem sa_retOwn (j : Nat) (hi : ρ[j]? = some (.own l)) (hv : PE X e (tVar j)) (hR : W.R = lstN Fs l) (hF : ∃ (i0 : Nat) (B0 : As), ρ[i0]? = some (En.fr (atA Fs B0))) : SA X (.Return (some e) pos) ρ Nx W :=
  ps_imp (ps_ret hv) fun D σ H ⟨F0, H0, F, g, S, q1, q2, _⟩ => by
    obtain ⟨i0, B0, hi0⟩ := hF
    obtain ⟨_, _, hFs, _⟩ := S.fr i0 _ hi0
    obtain ⟨p, xs, h1, h2, h3, h4, h5⟩ := S.own j _ hi
    refine ⟨_, h1, q2 _ H (upd F p (.lst xs)) (g.take h3 h2 h4) ?_⟩
    rw [hR]
    exact ⟨p, xs, rfl, upd_same, hFs.none h2, h5.mono (Ex.new h2)⟩
theorem et_notinI {l : List (Int × As)} {s : Int} (hr : Room k X.A) (hi : EW X i ρ (int s)) (ho : EA X o ρ (diA l)) (hm : behindInMarks .NotIn o = false) : ET X (.Compare i [.NotIn] [o] pos) ρ (!(l.lookup s).isSome) :=
  pt_imp (pt_cmp (pc_dnotin (hu_of hr) hi ho) hm) fun σ H Q ⟨H0, F, S, q⟩ => ⟨H0, F, S, fun y H1 F1 g1 hy => ⟨H0, F1, S.gr g1, fun v H2 F2 g2 ⟨p, vs, ev, h1, h2⟩ => by
    have hy : y = .int s := hy
    subst hy
    refine ⟨p, _, ev, dget_i (F := F2) s g2.i h1, ?_⟩
    have z : (valV ((l.map fun x => kI x.1).zip vs) (kI s)).isSome = (l.lookup s).isSome := by
      cases hl : l.lookup s with
      | none =>
        rw [valV_nozip (r := kI) kI_inj h2 hl]
        rfl
      | some A =>
        obtain ⟨u, hu, _⟩ := valV_zip (r := kI) kI_inj h2 hl
        rw [hu]; rfl
    rw [z]
    exact ⟨_, rfl, q H2 F2 (g1.trans g2)⟩⟩⟩
end
end Lk

set_option Elab.async false
set_option linter.all false
set_option maxRecDepth 100000
set_option maxHeartbeats 4000000
namespace Lk
open PySem PySem.Calls L2 PySem.Spec PyProof.Rows
/-! ### zip(a tuple, a list) -/
def ItzM (K : PySem.W.Frag) (a b : Addr) : It where
  go i H := ∃ (xs ys : List V) (x y : V), SqT K H a xs ∧ SqL K H b ys ∧ xs[i]? = some x ∧ ys[i]? = some y
  yld i H v H' := ∃ T x y, v = .ref T ∧ H T = none ∧ H' = upd H T (.tup [x, y]) ∧ (∀ xs, SqT K H a xs → xs[i]? = some x) ∧ ∀ ys, SqL K H b ys → ys[i]? = some y
  stop i H := ∃ xs ys : List V, SqT K H a xs ∧ SqL K H b ys ∧ i ≤ xs.length ∧ i ≤ ys.length ∧ (i = xs.length ∨ i = ys.length)
/-- the cells of the zip and of its two iterators -/
abbrev zipCells (z TI TO i1 i2 : Addr) : List Addr := [z, TI, TO, i1, i2]
structure ZmAt (z TI TO i1 i2 a b : Addr) (i : Nat) (h : Heap) : Prop where
  z : IsZip h z TI TO .none
  ti : IsTupOf2 h TI (.ref i1) (.ref i2)
  to : ∃ x y, IsTupOf2 h TO x y
  n1 : h.IsTupleIter i1 a i
  n2 : h.IsListIter i2 b i
theorem turn_zipM {P : Program} {w : World} {K : PySem.W.Frag} {elts : List Expr} {kk : Nat} {tpos : Pos} {a b z TI TO i1 i2 : Addr} (D : ZipSep2 z TI TO i1 i2 [i1, a] [i2, b]) (ha : a ≠ i1) (hb : b ≠ i2) :
    Turn P w K (.Tuple elts kk tpos) (ItzM K a b) (zipCells z TI TO i1 i2) z (ZmAt z TI TO i1 i2 a b) := by
  have cells : ∀ {c}, c ∈ zipCells z TI TO i1 i2 → c = z ∨ c = TI ∨ c = TO ∨ c = i1 ∨ c = i2 := fun h => by simpa using h
  refine ⟨by simp, ?_, ?_, ?_, ?_, fun A i s Q E st h => wpAny_pyIter_zip st.z h⟩
  · intro i h st c hc
    obtain ⟨hz, hTI, ⟨x, y, hTO⟩, ⟨o1, e1, _, d1⟩, ⟨o2, e2, _, d2⟩⟩ := st
    rcases cells hc with rfl | rfl | rfl | rfl | rfl
    · exact ⟨_, hz, fun v q => nomatch q⟩
    · exact ⟨_, hTI, fun v q => nomatch q⟩
    · exact ⟨_, hTO, fun v q => nomatch q⟩
    · exact ⟨o1, e1, fun v q => by rw [d1] at q; cases q⟩
    · exact ⟨o2, e2, fun v q => by rw [d2] at q; cases q⟩
  · intro i h h' st k
    obtain ⟨x, y, hTO⟩ := st.to
    exact ⟨k z (by simp) _ st.z, k TI (by simp) _ st.ti, ⟨x, y, k TO (by simp) _ hTO⟩, st.n1.at fun o q => k i1 (by simp) o q, st.n2.at fun o q => k i2 (by simp) o q⟩
  · intro X hP hw hK hc i pins s σ H E I hf st hg
    subst hP hw hK
    obtain ⟨xs, ys, x, y, hqx, hqy, hx, hy⟩ := hg
    obtain ⟨its, rv, p, _⟩ := I.tuple hqx
    obtain ⟨its2, rv2, p2, _⟩ := I.list hqy
    obtain ⟨u, hu, ru⟩ := rv.get hx
    obtain ⟨u2, hu2, ru2⟩ := rv2.get hy
    obtain ⟨x0, y0, hTO⟩ := st.to
    have hzl : z < s.heap.objs.size := Heap.lt_size st.z
    have lt1 : i < its.toArray.size := by have := (List.getElem?_eq_some_iff.mp hu).1; simpa using this
    have lt2 : i < its2.toArray.size := by have := (List.getElem?_eq_some_iff.mp hu2).1; simpa using this
    refine wpAny_pyNext_zipD2_item D (Draws.tuple (A := X.A.in1) (I.ok.hd hc) i1 a ha its.toArray) (Draws.list (A := X.A.in1) (I.ok.hd hc) i2 b hb its2.toArray) st.z st.ti hTO ⟨st.n1, show s.heap.IsTuple a its.toArray from p⟩ ⟨st.n2, p2.isList⟩ lt1 lt2 fun w1 w2 h' tk e1 e2 z' TO' s1' s2' hT hsz hk => ?_
    obtain rfl : u = w1 := by
      have e1 : its.toArray[i]? = some w1 := e1
      rw [List.getElem?_toArray, hu] at e1
      exact Option.some.inj e1
    obtain rfl : u2 = w2 := by
      have e2 : its2.toArray[i]? = some w2 := e2
      rw [List.getElem?_toArray, hu2] at e2
      exact Option.some.inj e2
    refine ⟨_, rfl, wpAny_letOwnedTupleGo_zip (s := { s with heap := h', toks := tk }) z' fun h'' z'' sb => ?_⟩
    have hT2 : h''.get? s.heap.objs.size = some { cls := .type "tuple", data := .seq #[u, u2] } := (sb.2 _ (Nat.ne_of_gt hzl)).trans hT
    have new : ObjOk X.prog X.w (upd H s.heap.objs.size (.tup [x, y])) h'' s.heap.objs.size (.tup [x, y]) :=
      ⟨by show 2 ≤ sizeLine; decide, [u, u2], .cons ru (.cons ru2 .nil), ⟨_, hT2, rfl, _, rfl⟩⟩
    have I1 : Inv X pins σ (upd H s.heap.objs.size (.tup [x, y])) { s with heap := h'', toks := tk } :=
      I.turnedNew (t' := tk) (ch := zipCells z TI TO i1 i2) (fun c o hb q => (sb.2 c (fun q' => hb (by simp [q']))).trans (hk c o (fun q' => hb (by simp [q'])) (fun q' => hb (by simp [q'])) (fun q' => hb (by simp [q'])) (fun q' => hb (by simp [q'])) q)) hf (Nat.le_refl _) new
    have i1z : i1 ≠ z := fun e => D.zf1 (by rw [← e]; exact D.mem1)
    have i2z : i2 ≠ z := fun e => D.zf2 (by rw [← e]; exact D.mem2)
    refine ⟨.ref s.heap.objs.size, _, I1, rfl, ⟨_, x, y, rfl, I.hok.fresh (Nat.le_refl _), rfl, fun l hl => by rw [I.tuple_inj hl hqx]; exact hx, fun l hl => by rw [I.list_inj hl hqy]; exact hy⟩, ⟨z'', ?_, ⟨u, u2, ?_⟩, ?_, ?_⟩, fun c hcm => ?_⟩
    · exact (sb.2 _ D.TIz).trans (hk _ _ D.TIz D.TITO D.TIi1 D.TIi2 st.ti)
    · exact (sb.2 _ D.TOz).trans TO'
    · exact s1'.1.at fun o q => (sb.2 _ i1z).trans q
    · exact s2'.1.at fun o q => (sb.2 _ i2z).trans q
    · have hlt : c < s.heap.objs.size := by
        rcases cells hcm with rfl | rfl | rfl | rfl | rfl
        · exact hzl
        · exact Heap.lt_size st.ti
        · exact Heap.lt_size hTO
        · obtain ⟨_, e1, _⟩ := st.n1; exact Heap.lt_size e1
        · obtain ⟨_, e2, _⟩ := st.n2; exact Heap.lt_size e2
      rw [upd_ne (Nat.ne_of_lt hlt)]
      exact (hf c hcm).1
  · intro X hP hw hK hc i pins s σ H E I hf st hg
    subst hP hw hK
    obtain ⟨xs, ys, hqx, hqy, k1, k2, hend⟩ := hg
    obtain ⟨its, rv, p, _⟩ := I.tuple hqx
    obtain ⟨its2, rv2, p2, _⟩ := I.list hqy
    obtain ⟨x0, y0, hTO⟩ := st.to
    have l1 : its.toArray.size = xs.length := by rw [List.size_toArray]; exact rv.length.symm
    have l2 : its2.toArray.size = ys.length := by rw [List.size_toArray]; exact rv2.length.symm
    exact wpAny_pyNext_zipD2_end D (Draws.tuple (A := X.A.in1) (I.ok.hd hc) i1 a ha its.toArray) (Draws.list (A := X.A.in1) (I.ok.hd hc) i2 b hb its2.toArray) st.z st.ti hTO ⟨st.n1, show s.heap.IsTuple a its.toArray from p⟩ ⟨st.n2, p2.isList⟩ (by rw [l1]; exact k1) (by rw [l2]; exact k2) (by rw [l1, l2]; exact hend) fun h' tk hk => ⟨rfl, I.turnedL (t' := tk) (ch := zipCells z TI TO i1 i2) (fun c o hb q =>
      hk c o (fun q' => hb (by simp [q'])) (fun q' => hb (by simp [q'])) (fun q' => hb (by simp [q'])) (fun q' => hb (by simp [q'])) q) hf⟩
def iZipM (K : PySem.W.Frag) (ta : TA) : TI := fun σ H R => ta σ H fun vs H1 => ∃ a b xs ys, vs = [.ref a, .ref b] ∧ SqT K H1 a xs ∧ SqL K H1 b ys ∧ R (ItzM K a b) H1
theorem pi_zipM {X : Cx} {e e2 : Expr} {ta : TA} {p pos tpos : Pos} {elts : List Expr} {kk : Nat} (hg : Gl X "zip") (hm : X.mg "zip" = none) (ha : PA X [e, e2] ta)
    (hs : starEach [e, e2] X.env = (false, eval e X.env) :: starEach [e2] X.env := by rfl) (hpl : (backTo pos (starEach [e2] X.env)).any (·.1) = false := by rfl) :
    PI X (.Tuple elts kk tpos) (.Call (.Name "zip" p) [e, e2] [] pos) (iZipM X.K ta) := by
  refine ⟨fun pins s σ H R I h => ?_⟩
  refine Call_ (ld_blt I hg hm PyProof.Rows.boot_zip (PyProof.Rows.callWith_type1 (thn (ha.run pos pins s σ H _ I h) fun us s1 ⟨vs, H1, I1, r1, q1⟩ => ?_) hs hpl))
  obtain ⟨a, b, xs, ys, rfl, hqx, hqy, q⟩ := q1
  obtain ⟨v1, v2, rfl, e1, e2⟩ : ∃ v1 v2, us = [v1, v2] ∧ v1 = Value.ref a ∧ v2 = Value.ref b := by
    cases r1 with
    | cons r rr =>
      cases rr with
      | cons r' rr =>
        cases rr
        exact ⟨_, _, rfl, r, r'⟩
  subst e1 e2
  obtain ⟨its, rv, p1, _⟩ := I1.tuple hqx
  obtain ⟨its2, rv2, p2, _⟩ := I1.list hqy
  have la : a < s1.heap.objs.size := by obtain ⟨o, ho, _⟩ := id p1; exact Heap.lt_size ho
  have lb : b < s1.heap.objs.size := p2.lt
  refine zip_begins2 (begins_tuple a its.toArray) (begins_list b its2.toArray) (show s1.heap.IsTuple a its.toArray from p1) p2.isList fun h' hz hTI hTO g1 g2 hsz hk => wpAny_pyIter_zip hz ?_
  have I2 : Inv X pins σ H1 { s1 with heap := h' } := I1.kept (t' := s1.toks) hk
  refine ⟨s1.heap.objs.size + 4, zipCells (s1.heap.objs.size + 4) (s1.heap.objs.size + 2) (s1.heap.objs.size + 3) s1.heap.objs.size (s1.heap.objs.size + 1), _, _, H1, rfl, I2, turn_zipM (zip_sep2 (fp1 := [a]) (fp2 := [b]) (fun c hc => by rw [List.mem_singleton.mp hc]; exact la) (fun c hc => by rw [List.mem_singleton.mp hc]; exact lb)) (Nat.ne_of_lt la) (Nat.ne_of_lt (Nat.lt_succ_of_lt lb)), ⟨hz, hTI, ⟨_, _, hTO⟩, ⟨_, g1, rfl, rfl⟩, ⟨_, g2, rfl, rfl⟩⟩, fun c hcm => ?_, q⟩
  have hle : s1.heap.objs.size ≤ c := by
    have e' : c = s1.heap.objs.size + 4 ∨ c = s1.heap.objs.size + 2 ∨ c = s1.heap.objs.size + 3 ∨ c = s1.heap.objs.size ∨ c = s1.heap.objs.size + 1 := by simpa using hcm
    rcases e' with z | z | z | z | z
    · rw [z]; exact Nat.le_add_right _ _
    · rw [z]; exact Nat.le_add_right _ _
    · rw [z]; exact Nat.le_add_right _ _
    · rw [z]; exact Nat.le_refl _
    · rw [z]; exact Nat.le_add_right _ _
  exact I1.fpOk hle (I1.hok.fresh hle)
end Lk

set_option Elab.async false
set_option linter.all false
set_option maxRecDepth 100000
set_option maxHeartbeats 4000000
namespace Lk
open PySem PySem.Calls L2 PySem.Spec PyProof.Rows
/-! ### for a, b in zip(x, y), x a tuple or a list, y a list -/
section
variable {α : Type} {X : Cx} {ρ : List En} {pos : Pos} {a b : Expr} {sts : List Stmt} {Nx : List En → Prop} {W : Wn} {l : List α} {e1 e2 : α → As}
theorem sa_forZT (j1 j2 : Nat) {x y : Str} {px py pt p zp : Pos} {kt : Nat} {la lb : List As} (I : Nat → List En → Prop) (hp : PassesOwn (model X.prog X.w) X.A X.env X.xe) (hc : X.calm = true) (hN : X.N.Nodup) (hm : X.mg "zip" = none) (ha : EAs X [a, b] ρ [tupA la, lstA lb])
    (h1 : ∀ (i : Nat) (z : α), l[i]? = some z → la[i]? = some (e1 z)) (h2 : ∀ (i : Nat) (z : α), l[i]? = some z → lb[i]? = some (e2 z)) (hl : la.length = l.length ∨ lb.length = l.length) (h0 : ∃ ρ0, I 0 ρ0 ∧ Le ρ0 ρ)
    (hs : ∀ n z ρ', l[n]? = some z → I n ρ' → BA X sts ((ρ'.set j1 (.fr (e1 z))).set j2 (.fr (e2 z))) (fun ρ2 => ∃ ρ3, I (n + 1) ρ3 ∧ Le ρ3 ρ2) { W with B := Nx, C := fun ρ2 => ∃ ρ3, I (n + 1) ρ3 ∧ Le ρ3 ρ2 })
    (hd : ∀ ρ', I l.length ρ' → Nx ρ') (hi : X.N[j1]? = some x := by rfl) (hj : X.N[j2]? = some y := by rfl)
    (hx : Loc X.env.scope x := by first | exact .inl rfl | exact .inr rfl) (hy : Loc X.env.scope y := by first | exact .inl rfl | exact .inr rfl) (hfx : X.fn x = true ∨ X.env.scope.names.lookup x = some .local := by first | exact .inl rfl | exact .inr rfl) (hfy : X.fn y = true ∨ X.env.scope.names.lookup y = some .local := by first | exact .inl rfl | exact .inr rfl)
    (hg : Gl X "zip" := by rfl) (hfo : ∀ z, foldedSetIterable (.Call (.Name "zip" p) [a, b] [] zp) X.env z = pure z := by intro _; rfl) (hst : starEach [a, b] X.env = (false, eval a X.env) :: starEach [b] X.env := by rfl) (hpl : (backTo zp (starEach [b] X.env)).any (·.1) = false := by rfl)
    (hn : (assignEach [.Name x px, .Name y py] X.env).length = 2 := by rfl) (hsti : (assignEach [.Name x px, .Name y py] X.env).findIdx? (·.1) = none := by rfl) :
    SA X (.For (.Tuple [.Name x px, .Name y py] kt pt) (.Call (.Name "zip" p) [a, b] [] zp) sts [] pos) ρ Nx W := by
  have hb : PSs X sts (tbZ I l j1 j2 e1 e2 W Nx) := ⟨fun pins s σ H D I' ⟨n, A, ρ', h1, h2, q⟩ => (hs n A ρ' h1 h2).run pins s σ H D I' q⟩
  refine ps_imp (ps_for hp hc (pi_zipM (elts := [.Name x px, .Name y py]) (kk := kt) (tpos := pt) hg hm ha hst hpl) (pg_tup hc (pgs_cons (pg_name hN hi hx hfx) (pgs_cons (pg_name hN hj hy hfy) pgs_nil)) hn hsti) hb hfo) fun D σ H ⟨F0, H0, F, g, S, q1, q2, q3, q4, q5⟩ => ?_
  refine ⟨H0, F, S, fun us H1 F1 g1 hu => ?_⟩
  match us, hu with
  | [v1, v2], ⟨hA, hB, _⟩ =>
  obtain ⟨a1, xs, rfl, fx, hx2⟩ := hA
  obtain ⟨a2, ys, rfl, fy, hy2⟩ := hB
  refine ⟨a1, a2, xs, ys, rfl, SqT.of (g1.i a1 _ fx), SqL.of (g1.i a2 _ fy), ?_⟩
  have gA := g.trans g1
  have lx := hx2.length
  have ly := hy2.length
  have le1 : l.length ≤ la.length := by
    by_cases h : l.length = 0
    · omega
    · have z := h1 (l.length - 1) l[l.length - 1] (List.getElem?_eq_getElem (by omega))
      have := (List.getElem?_eq_some_iff.mp z).1
      omega
  have le2 : l.length ≤ lb.length := by
    by_cases h : l.length = 0
    · omega
    · have z := h2 (l.length - 1) l[l.length - 1] (List.getElem?_eq_getElem (by omega))
      have := (List.getElem?_eq_some_iff.mp z).1
      omega
  let Pv : Nat → L2.St → Hp → Prop := fun n σ' H' => ∃ ρ' F', I n ρ' ∧ Gr F0 H0 F' H' ∧ Ex F1 F' ∧ Sat H0 F' σ' H' ρ'
  refine ⟨fun n m σ' H' => m = l.length - n ∧ n ≤ l.length ∧ Pv n σ' H', ⟨l.length, by simp, Nat.zero_le _, ?_⟩, ?_⟩
  · obtain ⟨ρ0, i0, le⟩ := h0
    exact ⟨ρ0, F1, i0, gA, Ex.refl F1, (S.gr g1).le le⟩
  rintro n m σ' H' ⟨rfl, hn', ρ', F', hI, g', x', S'⟩
  have qx : SqT X.K H' a1 xs := SqT.of (g'.i a1 _ (x' a1 _ fx))
  have qy : SqL X.K H' a2 ys := SqL.of (g'.i a2 _ (x' a2 _ fy))
  by_cases hlt : n < l.length
  · have ha : l[n]? = some l[n] := List.getElem?_eq_getElem hlt
    obtain ⟨u1, hu1, hA1⟩ := hx2.get (i := n) (h1 n _ ha)
    obtain ⟨u2, hu2, hA2⟩ := hy2.get (i := n) (h2 n _ ha)
    refine .inr ⟨⟨xs, ys, u1, u2, qx, qy, hu1, hu2⟩, Pv (n + 1), fun σ2 H2 p => ⟨l.length - (n + 1), by omega, rfl, hlt, p⟩, fun v H2 yl => ?_⟩
    obtain ⟨T, w1, w2, rfl, hT, rfl, f1, f2⟩ := yl
    have e1' : u1 = w1 := by have z := f1 xs qx; rw [hu1] at z; simpa using z
    have e2' : u2 = w2 := by have z := f2 ys qy; rw [hu2] at z; simpa using z
    subst e1' e2'
    have gT : Gr F' H' F' (upd H' T (.tup [u1, u2])) := .newH g'.i hT
    refine ⟨T, [u1, u2], rfl, SqT.of upd_same, rfl, u1, [u2], rfl, u2, [], rfl, rfl, ?_⟩
    have fin : ∀ ρ2 σ2 H2 F2, (∃ ρ3, I (n + 1) ρ3 ∧ Le ρ3 ρ2) → Gr F0 H0 F2 H2 → Ex F' F2 → Sat H0 F2 σ2 H2 ρ2 → Pv (n + 1) σ2 H2 := fun ρ2 σ2 H2 F2 ⟨ρ3, i3, le⟩ g2 x2 S2 => ⟨ρ3, F2, i3, g2, x'.trans x2, S2.le le⟩
    have gN := g'.trans gT
    refine ⟨n, l[n], ρ', ha, hI, F', H0, F', ?_, ((S'.gr gT).set ((e1 l[n]).mono x' hA1)).set ((e2 l[n]).mono x' hA2), ?_, ?_, ?_, ?_, ?_⟩
    · exact ⟨Ex.refl F', gN.h, gN.i, fun a o z1 z2 => z2⟩
    · intro ρ2 σ2 H2 F2 hm g2 S2
      exact fin ρ2 σ2 H2 F2 hm ⟨g'.f.trans g2.f, g2.h, g2.i, fun a o z1 z2 => g2.n a o z1 (g'.n a o z1 z2)⟩ g2.f S2
    · intro v H2 F2 g2 hv
      exact q2 v H2 F2 ⟨g'.f.trans g2.f, g2.h, g2.i, fun a o z1 z2 => g2.n a o z1 (g'.n a o z1 z2)⟩ hv
    · intro ρ2 σ2 H2 F2 hm g2 S2
      exact q1 ρ2 σ2 H2 F2 hm ⟨g'.f.trans g2.f, g2.h, g2.i, fun a o z1 z2 => g2.n a o z1 (g'.n a o z1 z2)⟩ S2
    · intro ρ2 σ2 H2 F2 hm g2 S2
      exact fin ρ2 σ2 H2 F2 hm ⟨g'.f.trans g2.f, g2.h, g2.i, fun a o z1 z2 => g2.n a o z1 (g'.n a o z1 z2)⟩ g2.f S2
    · intro cls d ρ2 σ2 H2 F2 he g2 S2
      exact q5 cls d ρ2 σ2 H2 F2 he ⟨g'.f.trans g2.f, g2.h, g2.i, fun a o z1 z2 => g2.n a o z1 (g'.n a o z1 z2)⟩ S2
  · have e : n = l.length := by omega
    subst e
    exact .inl ⟨⟨xs, ys, qx, qy, by omega, by omega, by omega⟩, q1 ρ' σ' H' F' (hd ρ' hI) g' S'⟩
end
section
variable {X : Cx}
theorem cm_isNotB {s t : Bool} : Cm X .IsNot (bl s) (bl t) (!decide (s = t)) := ⟨_, op_isnot_bl, fun x y H Q h1 h2 q => by
  have h1 : x = .bl s := h1
  have h2 : y = .bl t := h2
  subst h1 h2
  exact ⟨s, t, rfl, rfl, q⟩⟩
end
end Lk

set_option Elab.async false
set_option linter.all false
set_option maxRecDepth 100000
set_option maxHeartbeats 4000000
namespace Lk
open PySem PySem.Calls L2 PySem.Spec PyProof.Rows HotX L2H
/-! ### [.. for x in range(n)] while an exception is handled -/
section
variable {X : Cx}
def tLcH (n : Nat) (g : TG) (te : TE) (vs : List Nat) : TE := fun σ H Q => ∀ D, H D = none → ∃ W : Nat → Hp → Prop, W 0 (upd H D (.lst [])) ∧ (∀ H', W n H' → Q (.ref D) H') ∧
  ∀ i H', i < n → W i H' → g (.int (i : Int)) (L2.wipe σ vs) H' fun σ2 H2 => L2.wipe σ2 vs = L2.wipe σ vs ∧ te σ2 H2 fun y H4 => ∃ acc, H4 D = some (.lst acc) ∧ acc.length < sizeLine ∧ W (i + 1) (upd H4 D (.lst (acc ++ [y])))
/-- the iterator of range(n), just made -/
theorem rng_run {pins : List (Addr × Obj)} {σ : L2.St} {H : Hp} {s : Shared} {a : Expr} {n : Nat} {p pos : Pos} (hn : n ≤ 1000000) (I : Inv X pins σ H s) (hg : Gl X "range") (hm : X.mg "range" = none) (ha : PA X [a] (fun σ H Q => Q [.int (n : Int)] H)) (hs : starEach [a] X.env = [(false, eval a X.env)]) :
    wpAny (model X.prog X.w) X.A (eval (.Call (.Name "range" p) [a] [] pos) X.env) (fun v s1 => wpAny (model X.prog X.w) X.A (pyIter v) (fun itv s2 => ∃ it, itv = .ref it ∧ Inv X pins σ H s2 ∧ IsRangeIter s2.heap it 0 n 1 ∧ FpOk X pins H it) X.xe s1) X.xe s := by
  refine Call_ (ld_blt I hg hm boot_range (PyProof.Rows.callWith_type1 (thn (ha.run pos pins s σ H (fun vs H1 => vs = [.int (n : Int)] ∧ H1 = H) I ⟨rfl, rfl⟩) fun us s1 ⟨vs, H1, I1, r1, e, eH⟩ => ?_) hs rfl))
  subst e eH
  cases r1 with
  | cons r rr =>
    cases rr
    obtain ⟨t, rfl⟩ := r
    refine call_range_1 (wpAny_pyIter_range (IsRange.new ..) (small_one (by decide) (by decide) (by omega) (by omega)) ?_)
    have I2 : Inv X pins σ H1 { s1 with heap := s1.heap.push { cls := .type "range", data := .fields #[.int 0 s1.toks, .int (n : Int) t, .int 1 (s1.toks + 1)] }, toks := s1.toks + 1 + 1 } := I1.kept fun b o e => Heap.get?_push_of_some _ e
    refine ⟨_, rfl, I2.kept fun b o e => Heap.get?_push_of_some _ e, ?_, I2.fpOk (Nat.le_refl _) (I2.hok.fresh (Nat.le_refl _))⟩
    have e2 : (n : Int) = Builtin.Range.rangeSize 0 n 1 := by rw [rangeSize_one]; split <;> omega
    show IsRangeIter _ _ 0 (n : Int) 1
    conv => arg 4; rw [e2]
    exact Heap.get?_push_size _ rfl
/-- the block entered: what stands, seen from the def -/
theorem pe_lcH {elt tg a : Expr} {scope : Scope} {own : List (Str × Nat)} {pos p p2 : Pos} {g : TG} {te : TE} {n : Nat} (hc : HotC X) (hN : X.N.Nodup) (hn : n ≤ 1000000) (hgl : Gl X "range") (hm : X.mg "range" = none) (ha : PA X [a] (fun σ H Q => Q [.int (n : Int)] H)) (hse : starEach [a] X.env = [(false, eval a X.env)]) (ok : BlkOk X.N X.env.scope scope own)
    (hg : ∀ (s : Shared) (H : Hp) (C : Addr) (cl : List (Str × Addr)) (fp : List Addr), PG (X.blk s H scope (compEnvC scope cl C X.env) fp) tg g) (he : ∀ (s : Shared) (H : Hp) (C : Addr) (cl : List (Str × Addr)) (fp : List Addr), PE (X.blk s H scope (compEnvC scope cl C X.env) fp) elt te)
    (hs : ∀ x, foldedSetIterable (.Call (.Name "range" p) [a] [] p2) X.env x = pure x := by intro _; rfl) : PE X (.ListComp elt [⟨tg, .Call (.Name "range" p) [a] [] p2, [], 0⟩] scope pos) (tLcH n g te (own.map (·.2))) := by
  refine ⟨fun pins s σ H Q I h => ?_⟩
  have hfree : ∀ y ∈ scope.names, y.2 = .free → ∃ c, X.env.cells.lookup y.1 = some c := fun y hy e => (ok.free y hy e).elim (fun k => I.ok.has _ (.inl k)) fun k => I.ok.has _ (.inr k)
  rw [eval_ListComp]
  refine wpAny_comprehension_free (use := none) rfl hs (closure_ok hfree) ok.kind (fun y hy e => by rw [ok.uniq y hy, e]) (thn (rng_run hn I hgl hm ha hse) fun xv s1 hx => thn hx fun itv s2 ⟨it, e, I2, st2, f2⟩ => ?_)
  subst e
  refine wpAny_newObj_type (newEnv_comp ?_) (by show 0 ≤ sizeLine; decide)
  -- the list that is filled
  obtain ⟨D, hD⟩ : ∃ D, s2.heap.objs.size = D := ⟨_, rfl⟩
  have hDn : H D = none := I2.hok.fresh (Nat.le_of_eq hD)
  obtain ⟨W, w0, wn, step⟩ := h D hDn
  rw [hD]
  obtain ⟨s3, hs3⟩ : ∃ s3 : Shared, ({ s2 with heap := s2.heap.push { cls := .type "list", data := .seq ([] : List Value).toArray } } : Shared) = s3 := ⟨_, rfl⟩
  have k3 : ∀ b o, s2.heap.get? b = some o → s3.heap.get? b = some o := fun b o e => by rw [← hs3]; exact Heap.get?_push_of_some _ e
  have z3 : s3.heap.objs.size = s2.heap.objs.size + 1 := by rw [← hs3]; exact Heap.size_push ..
  have I3 : Inv X pins σ (upd H D (.lst [])) s3 := by
    rw [← hs3]
    refine I2.laid (t' := s2.toks) (fun b o e => Heap.get?_push_of_some _ e) (Nat.le_of_eq hD) ⟨Nat.zero_le _, [], 0, .nil, ?_⟩
    rw [← hD]
    exact Heap.get?_push_size _ rfl
  have itl : it < s2.heap.objs.size := Heap.lt_size st2
  have itD : it ≠ D := by rw [← hD]; exact Nat.ne_of_lt itl
  have f3 : FpOk X pins (upd H D (.lst [])) it := ⟨by rw [upd_ne itD]; exact f2.1, f2.2⟩
  have st3 : IsRangeIter s3.heap it 0 n 1 := k3 it _ st2
  have I4 := block_start (fp := [it]) I3 ok hN fun b hb => by
    obtain rfl := List.mem_singleton.mp hb
    exact ⟨f3, by rw [z3]; exact Nat.lt_succ_of_lt itl⟩
  rw [hs3]
  have pg := hg s3 (upd H D (.lst [])) s3.heap.objs.size (cellsFrom (s3.heap.objs.size + 1) scope.names (cloFrom X.env.cells scope.names [])) [it]
  have pe := he s3 (upd H D (.lst [])) s3.heap.objs.size (cellsFrom (s3.heap.objs.size + 1) scope.names (cloFrom X.env.cells scope.names [])) [it]
  show codeAny _ _ (.compStart _ 0 (.ref it) (.ref D) (compEnvC scope (cellsFrom (s3.heap.objs.size + 1) scope.names (cloFrom X.env.cells scope.names [])) s3.heap.objs.size X.env)) (compPost (model X.prog X.w) X.A X.xe none (EP X pins σ Q) (.ref D) s3.heap.objs.size) { s3 with heap := pushCells (s3.heap.push { cls := .type "dict", data := .dict #[] }) scope.names }
  generalize hce : compEnvC scope (cellsFrom (s3.heap.objs.size + 1) scope.names (cloFrom X.env.cells scope.names [])) s3.heap.objs.size X.env = ce at I4 pg pe ⊢
  have cL : ce.locals = s3.heap.objs.size := by rw [← hce]; rfl
  generalize hs4 : ({ s3 with heap := pushCells (s3.heap.push { cls := .type "dict", data := .dict #[] }) scope.names } : Shared) = s4 at I4 ⊢
  have st4 : IsRangeIter s4.heap it 0 n 1 := by
    rw [← hs4]
    exact pushCells_keeps _ _ _ _ (Heap.get?_push_of_some _ st3)
  generalize hH3 : upd H D (.lst []) = H3 at I3 I4 pg pe w0 f3
  have stat : ∀ {σ' : L2.St} {H' : Hp} {s' : Shared}, Inv (X.blk s3 H3 scope ce [it]) [] σ' H' s' → H' it = none → FpOk (X.blk s3 H3 scope ce [it]) [] H' it := fun {σ' H' s'} I' hn =>
    ⟨hn, (I'.ok.exf it (by simp)).1, I'.ok.exfs it (by simp), .inl (by simp), fun x c e => (I'.ok.exf it (by simp)).2 x c e, fun p hp => absurd (show p ∈ ([] : List (Addr × Obj)) ++ [] from hp) (by simp)⟩
  have loop : codeAny (model X.prog X.w) X.A (.compLoop (.ListComp elt [⟨tg, .Call (.Name "range" p) [a] [] p2, [], 0⟩] scope pos) 0 (.ref it) (.ref D) ce) (compPost (model X.prog X.w) X.A X.xe none (EP X pins σ Q) (.ref D) s3.heap.objs.size) s4 := by
    refine compLoop_any (fun k s' => ∃ i H', k = n - i ∧ i ≤ n ∧ Inv (X.blk s3 H3 scope ce [it]) [] (L2.wipe σ (own.map (·.2))) H' s' ∧ IsRangeIter s'.heap it (i : Int) ((n : Int) - i) 1 ∧ H' it = none ∧ W i H') ?_ n ⟨0, H3, rfl, Nat.zero_le _, I4, by simpa using st4, f3.1, w0⟩
    rintro k s5 ⟨i, H5, rfl, hi, I5, st5, n5, w5⟩
    by_cases hlt : i < n
    · have F5 := stat I5 n5
      obtain ⟨f0, f1, f2', f3', f4, f5⟩ := F5
      refine wpAny_pyNext_range_item st5 (by omega) fun h' st' sb => ?_
      have st6 : IsRangeIter h' it ((i + 1 : Nat) : Int) ((n : Int) - ((i + 1 : Nat) : Int)) 1 := by
        have e1 : (i : Int) + 1 = ((i + 1 : Nat) : Int) := by omega
        have e2 : (n : Int) - ((i : Int) + 1) = (n : Int) - i - 1 := by omega
        rw [← e1, e2]
        exact st'
      have I6 : Inv (X.blk s3 H3 scope ce [it]) [] (L2.wipe σ (own.map (·.2))) H5 { s5 with heap := h', toks := s5.toks + 1 } := I5.turned (t' := s5.toks + 1) (fun b o hb e => (sb.2 b hb).trans e) f0 f1 f3' f4 f5
      refine go_of (s := { s5 with heap := h', toks := s5.toks + 1 }) (n := "range_iterator") st6 rfl rfl (by decide) ?_
      have pin6 := I6.pinned (fp := [it]) (fun b hb => by obtain rfl := List.mem_singleton.mp hb; exact stat I6 n5) (fun b hb => by
        obtain rfl := List.mem_singleton.mp hb
        exact ⟨_, st6, fun v z => nomatch z⟩)
      refine thnF (pg.run _ _ _ H5 (.int (i : Int)) _ _ pin6 ⟨_, rfl⟩ (step i H5 hlt w5)) fun _ s8 ⟨σ8, H8, I8, hw8, q8⟩ => ?_
      have fin : ∀ {s' : Shared} {H' : Hp}, Inv (X.blk s3 H3 scope ce [it]) ([] ++ pinsAt [it] h') σ8 H' s' → W (i + 1) H' → ∃ m, m < n - i ∧ ∃ i H', m = n - i ∧ i ≤ n ∧ Inv (X.blk s3 H3 scope ce [it]) [] (L2.wipe σ (own.map (·.2))) H' s' ∧ IsRangeIter s'.heap it (i : Int) ((n : Int) - i) 1 ∧ H' it = none ∧ W i H' := fun {s' H'} I' w' => by
        have pin' := I'.pin (it, _) (List.mem_append_right _ (List.mem_append_right _ (mem_pinsAt (fp := [it]) (by simp) st6)))
        have hl : (L2.wipe σ (own.map (·.2))).length = σ8.length := by rw [← hw8, wipe_length]
        refine ⟨n - (i + 1), by omega, i + 1, H', rfl, hlt, (I'.unpinned (pins := [])).weak hl (fun j v e => ?_), pin'.1, pin'.2.1, w'⟩
        rw [← hw8] at e
        exact (wipe_some e).1
      rw [List.forIn_nil]
      refine wpAny_pure ?_
      rw [if_pos rfl]
      refine thnF (pe.run _ s8 σ8 H8 _ I8 q8) fun z s10 ⟨yv, H10, I10, r10, acc, hD10, hz10, nx⟩ => ?_
      exact app_ok (X := X.blk s3 H3 scope ce [it]) I10 hD10 hz10 r10 fun s11 I11 => fin I11 nx
    · have ei : i = n := by omega
      subst ei
      have I7 : Inv X pins σ H5 s5 := I3.call' (ch := [it]) I5.os I5.base I5.hok I5.bare fun b hb => by
        obtain rfl := List.mem_singleton.mp hb
        exact ⟨f3.2.2.2.1, f3.2.1, f3.2.2.2.2.1, f3.2.2.2.2.2⟩
      obtain ⟨x1, hot⟩ := hc.at I7
      refine pyNext_range_end_hot hot st5 (by omega) fun h' eb => ?_
      have I8 : Inv X pins σ H5 { s5 with heap := h' } := I7.kept (t' := s5.toks) eb
      have I9 : Inv (X.blk s3 H3 scope ce [it]) [] (L2.wipe σ (own.map (·.2))) H5 { s5 with heap := h' } := I5.kept (t' := s5.toks) eb
      obtain ⟨m, hm', _⟩ := I9.loc
      have hm' : h'.Ns ce.locals m := hm'
      rw [cL] at hm'
      have nC : H5 s3.heap.objs.size = none := by
        have z : H5 ce.locals = none := I9.free
        rw [cL] at z
        exact z
      obtain ⟨g0, g1, g2, g3, g4, g5⟩ := I3.fpOk (Nat.le_refl _) nC
      exact ⟨m, hm', fun h'' sb => ⟨.ref D, H5, I8.turned (t' := s5.toks) (fun b o hb e => (sb.2 b hb).trans e) g0 g1 g3 g4 g5, rfl, wn _ w5⟩⟩
  exact codeAny_compStart_list loop (wpAny_pyIter_rangeiter st4 loop)
end
end Lk
namespace Lk
open PySem PySem.Calls L2 PySem.Spec PyProof.Rows HotX L2H
section
variable {X : Cx} {ρ : List En} {g : Nat → As} {vs : List Nat} {j n : Nat}
def teH (ρ : List En) (vs : List Nat) (j n : Nat) (g : Nat → As) : TE := fun σ H Q => ∃ i, i < n ∧ tA ((wipeE ρ vs).set j (.fr (nat i))) (g i) σ H Q
theorem pe_teH {e : Expr} (h : ∀ i, i < n → EA X e ((wipeE ρ vs).set j (.fr (nat i))) (g i)) : PE X e (teH ρ vs j n g) := ⟨fun pins s σ H Q I ⟨i, hi, q⟩ => (h i hi).run pins s σ H Q I q⟩
theorem tlc_H {σ : L2.St} {H : Hp} {Q : VK} (hj : j ∈ vs) (hz : n < sizeLine) (h : tN ρ ((List.range n).map g) σ H Q) : tLcH n (gName j) (teH ρ vs j n g) vs σ H Q := by
  obtain ⟨H0, F, S, k⟩ := h
  intro D hD
  refine ⟨fun i H' => ∃ F' acc, Gr F H F' H' ∧ F' D = none ∧ H' D = some (.lst acc) ∧ AllV F' acc ((List.range i).map g), ⟨F, [], .newH S.ex hD, S.ex.none hD, upd_same, trivial⟩, fun H' ⟨F', acc, G, fD, hDl, hall⟩ => k D acc H' F' G hD fD hDl hall, ?_⟩
  rintro i H' hi ⟨F', acc, G, fD, hDl, hall⟩
  refine ⟨wipe_set hj, i, hi, H0, F', ((S.gr G).wipe vs).set (A := nat i) rfl, fun z H3 F3 g3 hz3 => ?_⟩
  have d3 : H3 D = some (.lst acc) := g3.h D _ hDl
  have f3 : F3 D = none := g3.n D _ hDl fD
  have G3 := G.trans g3
  have hl := hall.length
  rw [List.length_map, List.length_range] at hl
  refine ⟨acc, d3, by omega, F3, acc ++ [z], ⟨G3.f, fun b o q => ?_, fun b o q => ?_, G3.n⟩, f3, upd_same, ?_⟩
  · rw [upd_ne (ne_of_none q hD)]
    exact G3.h b o q
  · rw [upd_ne (ne_of_none q f3)]
    exact G3.i b o q
  · rw [List.range_succ, List.map_append]
    exact (hall.mono g3.f).snoc hz3
theorem en_lcH {elt : Expr} {scope : Scope} {own : List (Str × Nat)} {pos p p2 px pa : Pos} {x : Str} {jj : Nat} (hc : HotC X) (hN : X.N.Nodup) (hn : n ≤ 1000000) (hm : X.mg "range" = none) (ok : BlkOk X.N X.env.scope scope own) (hj : j ∈ own.map (·.2))
    (hg : ∀ (s : Shared) (H : Hp) (C : Addr) (cl : List (Str × Addr)) (fp : List Addr), PG (X.blk s H scope (compEnvC scope cl C X.env) fp) (.Name x px) (gName j))
    (he : ∀ (s : Shared) (H : Hp) (C : Addr) (cl : List (Str × Addr)) (fp : List Addr), ∀ i, i < n → EA (X.blk s H scope (compEnvC scope cl C X.env) fp) elt ((wipeE ρ (own.map (·.2))).set j (.fr (nat i))) (g i))
    (hgl : Gl X "range" := by rfl) (hse : starEach [.Constant (.int (n : Int)) jj pa] X.env = [(false, eval (.Constant (.int (n : Int)) jj pa) X.env)] := by rfl)
    (hs : ∀ x, foldedSetIterable (.Call (.Name "range" p) [.Constant (.int (n : Int)) jj pa] [] p2) X.env x = pure x := by intro _; rfl) :
    EN X (.ListComp elt [⟨.Name x px, .Call (.Name "range" p) [.Constant (.int (n : Int)) jj pa] [] p2, [], 0⟩] scope pos) ρ ((List.range n).map g) :=
  pe_imp (pe_lcH hc hN hn hgl hm (pa_imp (pa_cons pe_int pa_nil hse) fun σ H Q q => q) hse ok hg (fun s H C cl fp => pe_teH (he s H C cl fp)) hs) fun σ H Q h => tlc_H hj (by rw [sizeLine_eq]; omega) h
end
end Lk

set_option Elab.async false
set_option linter.all false
set_option maxRecDepth 100000
set_option maxHeartbeats 4000000
namespace Lk
open PySem PySem.Calls L2 PySem.Spec PyProof.Rows NdefX L2H HotX
/-! ### errors whose context is None: raised, caught; the suite is then known to be hot -/
theorem hot_suite {X : Cx} {a : Addr} {oe : Obj} {pn : List (Addr × Obj)} {cls : Value} {d : Option Addr} (hz : L2N.Zn cls d oe) (hv : ∃ vs, oe.data = .fields vs) : HotC (X.suite a ((a, oe) :: pn)) := by
  obtain ⟨vs, hd⟩ := hv
  exact ⟨(a, oe), ⟨rfl, vs, hd, hz.2.2 vs hd⟩, List.mem_cons_self⟩
section
variable {X : Cx} {C : Addr} {x : Str} {p pos pos2 : Pos} {ρ : List En} {Nx : List En → Prop} {W : Wn}
theorem pmk_own0N (T : Er0 X.K X.mg x C) (hg : Gl X x) (hdb : (x == ("__debug__" : Str)) = false := by decide) : L2N.PMk X (.Call (.Name x p) [] [] pos) (fun _ H Q => Q (.ref C) none H) := by
  intro pins s σ H Q I h
  refine wpAny_Call_Name_kw (ld_glob I hg T.gC ?_ hdb)
  refine PySem.W.callWith_K0 I.kIn T.kC ?_
  show wpAny _ _ (call (.ref C) []) _ _ _
  obtain ⟨bm, N, nm, qn, bs, hdct, sn, sub, ab, col, dd, k0, k1, k2, k3, k5, mN, hC, hN, hni, TT⟩ := exc_obj I.kIn T.q
  refine wpAny_call_exc_subT PySem.F.excBase_ValueError TT hC hN hni (fun h' e hm => ?_) (by show 0 ≤ sizeLine; rw [sizeLine_eq]; omega)
  exact L2N.mk_of I hm (raises_own T.exC T.tyC) h (I.hok.gone hm.new)
theorem sa_raise0N (T : Er0 X.K X.mg x C) (hc : X.calm = true) (tk : L2N.Takes X W.wx) (h : ∀ F, W.er ρ F (.ref C) none) (hg : Gl X x := by rfl) (hdb : (x == ("__debug__" : Str)) = false := by decide) :
    SA X (.Raise (some (.Call (.Name x p) [] [] pos)) none pos2) ρ Nx W :=
  ps_imp (L2N.ps_raise hc tk (pmk_own0N T hg hdb)) fun D σ H ⟨F0, H0, F, g, S, q, q2, q3, q4, q5⟩ => sat_q5 q5 g S (h F)
end
/-- X(..) of a class with an own __init__: the new object's fields are told by mk_end0 -/
theorem pmk_oexN {X : Cx} {CX : CXT} {x : Str} {e : Expr} {es : List Expr} {ta : TA} {p pos : Pos} {C fI : Addr} {k : Nat} {fd : FuncData} {ps : List Str} {sp : Sp} (T : OexC X.K C) (iC : PySem.W.findIn X.K (.ref C) "__init__" = some (some (.ref fI))) (tI : PySem.W.typeIn X.K (.ref fI) = some (.type "function"))
    (F1 : FnOk X.prog X.w X.K X.mg X.base CX k fI fd ps sp) (hr : Room (k + 1) X.A) (hb : Binds X.K fd ps []) (hx : Passes CX X (fun _ _ _ => False)) (hg : Gl X x) (hm : X.mg x = some (.ref C)) (ha : PA X (e :: es) ta)
    (hdb : (x == ("__debug__" : Str)) = false := by decide) (he : starEach (e :: es) X.env = (false, eval e X.env) :: starEach es X.env := by rfl) (hpl : (backTo pos (starEach es X.env)).any (·.1) = false := by rfl) :
    L2N.PMk X (.Call (.Name x p) (e :: es) [] pos) (tMkO C sp [] ta) := by
  intro pins s σ H Q I h
  obtain ⟨_, _, _, _, bm, _, _, _, _, _, _, _, _, _, _, hC, hbm⟩ := T.cls
  refine wpAny_Call_Name_kw (ld_glob I hg hm (PySem.W.callWith_K (h₀ := X.base) I.ok.mod.kin T.kC (thn (ha.run pos pins s σ H _ I h) fun us s1 ⟨vs, H1, I1, r1, hz, q1⟩ => ⟨I1.kIn, ?_⟩) he hpl) hdb)
  show wpAny _ _ (call (.ref C) us) _ _ _
  obtain ⟨hp, g, dr, tk, os⟩ := s1
  generalize haE : hp.objs.size + 1 = a
  have sz : hp.objs.size ≤ a := by rw [← haE]; exact Nat.le_succ _
  have hq := q1 a (I1.hok.fresh sz)
  rw [List.append_nil] at hq
  -- the object is laid
  have up : ∀ b o, hp.get? b = some o → ((hp.push (PySem.W.kdv_tup us)).push (PySem.HandSPX.excO C hp.objs.size)).get? b = some o := fun b o e => Heap.get?_push_of_some _ (Heap.get?_push_of_some _ e)
  have at_ : ((hp.push (PySem.W.kdv_tup us)).push (PySem.HandSPX.excO C hp.objs.size)).get? a = some (PySem.HandSPX.excO C hp.objs.size) := by
    rw [← haE]
    heap_get
  have I2 : Inv X pins σ (upd H1 a (exo a C none)) ⟨(hp.push (PySem.W.kdv_tup us)).push (PySem.HandSPX.excO C hp.objs.size), g, dr, tk, os⟩ := I1.laid (t' := tk) (a := a) (o := exo a C none) (h' := (hp.push (PySem.W.kdv_tup us)).push (PySem.HandSPX.excO C hp.objs.size)) up sz (exo_ok at_)
  have r2 : Vals (V.ref a :: vs) (Value.ref a :: us) := .cons rfl r1
  have ln : (Value.ref a :: us ++ []).length = ps.length := by
    have e := r2.length
    rw [F1.len _ _ _ _ hq] at e
    rw [List.append_nil]
    exact e.symm
  have hus : us.length ≤ sizeLine := by
    rw [← Paired.length r1, sizeLine_eq]
    omega
  have hbind := hb ⟨(hp.push (PySem.W.kdv_tup us)).push (PySem.HandSPX.excO C hp.objs.size), g, dr, tk, os⟩ (Value.ref a :: us) I2.kIn ln
  rw [List.append_nil] at hbind
  subst haE
  refine wpAny_call (PySem.HandSPX.call_own F.excBase_ValueError (fun Y => PySem.HandSPX.refsVE_contains Y bm hbm) (I1.kIn _ _ hC) (PySem.W.looks_findIn I1.kIn iC) (fun self => PySem.W.bind_fn I1.kIn self tI) hus
    (codeAny_mono (F1.run _ X.stack _ _ ⟨Value.ref (hp.objs.size + 1) :: us, []⟩ (Value.ref (hp.objs.size + 1) :: us) _ _ (fun _ _ _ => False) (hr.make C us []) (I2.env0.make C us []) hbind r2 hq) fun r s' hq' => ?_))
  match r, hq' with
  | .error er, hq' => exact hx pins σ _ _ er s' I2 hq'
  | .ok (.ret u), hq' =>
    obtain ⟨v, H2, os2, bare2, un2, hok2, rv, ev, d, fs, ea, ed, hd1, q2⟩ := hq'
    subst ev
    obtain ⟨h2, g2, d2, t2, os'⟩ := s'
    obtain ⟨t0, G, J, kG, ge, hoe, na⟩ := mk_end0 (d2 := d2) (t2 := t2) I1 sz up un2 hok2 os2 bare2 ea ed hd1
    exact ⟨rv, _, _, _, ⟨G, g2, d2, t2, os'⟩, _, .ref C, some d, rfl, J, kG, ge, hoe, ⟨rfl, rfl, fun vs e => by cases e; rfl⟩, rfl, rfl, na, rfl, bare2, raises_own T.exC T.tyC, q2⟩
  | .ok .next, hq' => exact hq'.elim
  | .ok .brk, hq' => exact hq'.elim
  | .ok .cont, hq' => exact hq'.elim
section
variable {X : Cx} {C : Addr} {x fld : Str} {e : Expr} {p p2 pos pos2 : Pos} {ρ : List En} {Nx : List En → Prop} {W : Wn} {k : Nat} {ι : Type} {pre : ι → Prop} {B B' : ι → As}
theorem sa_raise1N (T : Er1 X.prog X.w X.K X.mg X.base k x C fld pre B B') (hc : X.calm = true) (hr : Room (k + 1) X.A) (tk : L2N.Takes X W.wx) (i : ι) (hp : pre i) (ha : EA X e ρ (B i)) (h : ∀ F cls d, erX C [(fld, B' i)] F cls d → W.er ρ F cls d) (hg : Gl X x := by rfl) (hdb : (x == ("__debug__" : Str)) = false := by decide)
    (he : starEach [e] X.env = (false, eval e X.env) :: starEach [] X.env := by rfl) : SA X (.Raise (some (.Call (.Name x p) [e] [] pos)) none pos2) ρ Nx W := by
  obtain ⟨fI, fd, y0, y1, iC, tI, G, hb⟩ := T.ex
  refine ps_imp (L2N.ps_raise hc tk (pmk_oexN T.O iC tI G hr hb pass0 hg T.gC (pa_cons ha pa_nil he) hdb he)) fun D σ H ⟨F0, H0, F, g, S, q, q2, q3, q4, q5⟩ => ?_
  refine ⟨H0, F, S, fun v H1 F1 g1 hv => ⟨(show 1 ≤ 1000 by decide), fun a hn => ⟨i, a, v, H1, F1, hp, rfl, hn, rfl, g1.i, hv, fun H2 F' y d g2 hy ha2 hd hne => ⟨rfl, d, [(fld, y)], upd_same, ?_, g2.h.none hd, ?_⟩⟩⟩⟩
  · rw [upd_ne hne, upd_same]
  · have e0 : upd (del (upd (upd (upd H2 a (exo a C none)) d (exd d [(fld, y)])) a (exo a C (some d))) a) d (.xd [(fld, y)]) = upd H2 d (.xd [(fld, y)]) := by
      funext b
      by_cases hb : b = d
      · rw [hb, upd_same, upd_same]
      · rw [upd_ne hb, upd_ne hb]
        by_cases hb2 : b = a
        · rw [hb2, del_same, ha2]
        · rw [del_ne hb2, upd_ne hb2, upd_ne hb, upd_ne hb2]
    rw [e0]
    have g3 := (g.trans g1).trans g2
    have gn : Gr F' H2 (upd F' d (.xd [(fld, y)])) (upd H2 d (.xd [(fld, y)])) := .new g3.i hd
    refine sat_q5 q5 (g3.trans gn) (((S.gr g1).gr g2).gr gn) (h _ _ _ ⟨rfl, [y], upd_same, ?_⟩)
    exact ⟨(B' i).mono gn.f hy, trivial⟩
end
section
variable {X : Cx} {x n : Str} {c : Value} {i : Nat} {body suite : List Stmt} {b₀ : Stmt} {np pos pos' : Pos} {ρ : List En} {Nx : List En → Prop} {W : Wn} {C : Addr} {fs : List (Str × As)}
theorem sa_try_asN (i : Nat) (hs : X.stack = X.env :: X.outer) (hf : X.env.frame = some X.env.locals) (hN : X.N.Nodup) (hi : X.N[i]? = some n) (hln : X.env.kindOf n = some .local) (hc : Names X x c) (tk : L2N.Takes X (fun _ _ _ _ => False)) (hexm : PySem.W.exmOne X.K (.ref C) c = some true)
    (hb : ∀ (w : WX) (pn : List (Addr × Obj)) (xe : Value → Shared → Prop), L2N.Takes (X.tr pn xe) w → PassesOwn (model X.prog X.w) X.A X.env xe → BA (X.tr pn xe) body ρ Nx { W with er := fun ρ' F cls d => ρ' = ρ ∧ erX C fs F cls d, wx := w })
    (hsu : ∀ (a : Addr) (oe : Obj) (d : Option Addr) (pn : List (Addr × Obj)), Zc (.ref C) d oe → (∃ vs, oe.data = .fields vs) → HotC (X.suite a ((a, oe) :: pn)) → BA (X.suite a ((a, oe) :: pn)) (b₀ :: suite) (ρ.set i (.fr (xcA a d fs))) (fun ρ2 => Nx (ρ2.set i .no)) { R := W.R, B := fun ρ2 => W.B (ρ2.set i .no), C := fun ρ2 => W.C (ρ2.set i .no) }) :
    SA X (.Try body [.ExceptHandler (some (.Name x np)) (some n) (b₀ :: suite) pos'] [] [] pos) ρ Nx W := by
  refine ps_imp (L2N.ps_try_as (tb := fun w => sA ρ Nx { W with er := fun ρ' F cls d => ρ' = ρ ∧ erX C fs F cls d, wx := w }) (i := i) (ts := fun a cls d D σ H => cls = .ref C ∧ sA (ρ.set i (.fr (xcA a d fs))) (fun ρ2 => Nx (ρ2.set i .no)) { R := W.R, B := fun ρ2 => W.B (ρ2.set i .no), C := fun ρ2 => W.C (ρ2.set i .no) } D σ H)
    hs hf hN hi hln hc tk hb (fun a oe cls d pn hz hv => ⟨fun pins s σ H D I ⟨ec, q⟩ => ?_⟩)) fun D σ H ⟨F0, H0, F, g, S, q1, q2, q3, q4, q5⟩ => ?_
  · subst ec
    exact (hsu a oe d pn hz.zc hv (hot_suite hz hv)).run pins s σ H D I q
  · refine ⟨F0, H0, F, g, S, q1, q2, q3, q4, fun cls d ρ' σ' H' F' ⟨eρ, ec, hd⟩ g' S' => ?_⟩
    subst eρ ec
    exact ⟨true, hexm, fun _ a _ => ⟨rfl, F0, H0, F', g', S'.set ⟨rfl, hd⟩, fun ρ2 σ2 H2 F2 hn g2 S2 => q1 _ _ H2 F2 hn g2 (S2.unset i), q2, fun ρ2 σ2 H2 F2 hn g2 S2 => q3 _ _ H2 F2 hn g2 (S2.unset i), fun ρ2 σ2 H2 F2 hn g2 S2 => q4 _ _ H2 F2 hn g2 (S2.unset i), fun _ _ _ _ _ _ z => z.elim⟩, fun z => nomatch z⟩
end
end Lk

set_option Elab.async false
set_option linter.all false
set_option maxRecDepth 100000
set_option maxHeartbeats 4000000
/-! ### f'..{l!r}', l a list of texts: some bounded text, whatever repr is under way -/
namespace Lk
open PySem PySem.Calls L2 PySem.Spec PyProof.Rows NdefX
section
variable {M : Model} {prog : Program} {w : World} {A : Around} {E : Value → Shared → Prop} {s : Shared} {a : Addr} {oa : Obj} {na : Nat} {ts : List Str}
theorem lr_head {Q : Fin → Shared → Prop} {x : Value} {l : List Value} {b : Nat} (hget : s.heap.get? a = some oa) (hd : oa.data = .seq (x :: l).toArray na)
    (hq : Q (.done (.ret (.str "[...]" s.toks))) { s with toks := s.toks + 1 })
    (h : wpAny M A (do again (.builtin "list.__repr__.loop" ⟨[.ref a, rawInt 0, ← newList [], rawInt b], []⟩)) Q E s) : wpAny M A (Builtin.listReprAt b ⟨[.ref a], []⟩) Q E s := by
  intro Γ p hΓ
  have h1 := h Γ p hΓ
  unfold Builtin.listReprAt
  simp [slotArgs, Builtin.List.listItems, seqItems?, Sem.wp_load_of (h := hget), hd, stack]
  show Sem.wp M Γ (if (Γ.below.any _) = true then _ else _) _ _ p s
  split
  · simp [rule, retStr, ret]
    exact hq
  · exact h1
theorem lr_fin {R : Result → Shared → Prop} {b : Nat} : ∀ {items : Array Value}, s.heap.get? a = some oa → oa.data = .seq items na → ts.length = items.size →
    (∀ (i : Nat) (y : Value), items[i]? = some y → ∃ t, ts[i]? = some t ∧ ReprIs prog w y t) →
    (∀ (m : Str) h' u tk, m.length ≤ (listText ts).length + 5 → (∀ b o, s.heap.get? b = some o → h'.get? b = some o) → R (.ok (.ret (.str m u))) { s with heap := h', toks := tk }) →
    b + (listText ts).length ≤ sizeLine →
    wpAny (model prog w) A.in1 (Builtin.listReprAt b ⟨[.ref a], []⟩)
      (fun fin s' => match fin with | .done f => R (.ok f) s' | .again c' => c'.quiet = true ∧ codeAny (model prog w) A c' R s') (fun e s' => R (.error e) s') s
  | ⟨[]⟩, ha, hda, hlen, hT, hR, hsz => wpAny_list_repr_empty ha hda (hR "[]" s.heap _ _ (Nat.le_trans (by decide +kernel : ("[]" : Str).length ≤ 5) (Nat.le_add_left _ _)) fun _ _ e => e)
  | ⟨x :: l⟩, ha, hda, hlen, hT, hR, hsz => by
    refine lr_head (x := x) (l := l) ha hda (hR "[...]" s.heap _ _ (Nat.le_trans (by decide +kernel : ("[...]" : Str).length ≤ 5) (Nat.le_add_left _ _)) fun _ _ e => e) ?_
    refine wpAny_bind (m := newList []) (wpAny_newObj_type ?_)
    refine wpAny_pure ⟨F.quiet_list_repr_loop _, ?_⟩
    refine codeAny_list_repr_start (P := s.heap.objs.size) (Nat.ne_of_lt (Heap.lt_size ha)) hlen hT (Heap.get?_push_of_some _ ha) hda (Heap.get?_push_size _ rfl) (fun h' u tk hk => ?_) hsz
    exact hR (listText ts) h' u tk (Nat.le_add_right _ _) fun b o e => hk b o (Nat.ne_of_lt (Heap.lt_size e)) (Heap.get?_push_of_some _ e)
theorem lr_call {items : Array Value} {Q : Value → Shared → Prop} (hTy : s.TypeIs (.ref a) "list") (ha : s.heap.get? a = some oa) (hda : oa.data = .seq items na) (hlen : ts.length = items.size)
    (hT : ∀ (i : Nat) (y : Value), items[i]? = some y → ∃ t, ts[i]? = some t ∧ ReprIs prog w y t)
    (hQ : ∀ (m : Str) h' u tk, m.length ≤ (listText ts).length + 5 → (∀ b o, s.heap.get? b = some o → h'.get? b = some o) → Q (.str m u) { s with heap := h', toks := tk })
    (hsz : (listText ts).length ≤ sizeLine) : wpAny (model prog w) A (call (.builtin "list.__repr__") [.ref a]) Q E s :=
  wpAny_call (codeAny_call_builtin F.slot_list_repr.plain F.entry_list_repr (F.slot_list_repr.check _ _ _ _ _ _ _ _ hTy (F.args_list_repr_1 _)
    (lr_fin (b := 0) (R := fun r s' => match r with | .ok (.ret v) => Q v s' | .ok _ => False | .error e => E e s') ha hda hlen hT hQ (by omega))))
end
section
variable {X : Cx} {e a : Expr} {es : List Expr} {ρ : List En} {pos p1 p2 : Pos} {m : Str} {j k : Nat}
theorem lr_len : ∀ l : List Str, (∀ y ∈ l, ∀ c ∈ y.cps.toList, c < 16 ^ 8) → ((l.map reprText).map (·.length)).sum + 2 * (l.map reprText).length ≤ fmtCost l
  | [], _ => Nat.zero_le _
  | y :: l, h => by
    have h1 := StrLaws.reprText_len y (h y List.mem_cons_self)
    have h2 := lr_len l fun z hz => h z (List.mem_cons_of_mem _ hz)
    rw [fmtCost_cons]
    simp only [List.map_cons, List.sum_cons, List.length_cons] at h2 ⊢
    omega
theorem lr_all {prog : Program} {w : World} : ∀ {l : List Str} {its : List Value}, Vals (l.map V.str) its → (∀ y ∈ l, (reprText y).length ≤ sizeLine) → ∀ (i : Nat) (y : Value), its[i]? = some y → ∃ t, (l.map reprText)[i]? = some t ∧ ReprIs prog w y t
  | [], _, r, _ => by
    cases r
    intro i y e
    simp at e
  | x :: l, _, r, h => by
    cases r with
    | cons r1 r2 =>
      obtain ⟨t, rfl⟩ := r1
      intro i y e
      match i with
      | 0 =>
        obtain rfl : _ = y := Option.some.inj e
        exact ⟨_, rfl, ReprIs.str x t (h x List.mem_cons_self)⟩
      | i + 1 => exact lr_all r2 (fun z hz => h z (List.mem_cons_of_mem _ hz)) i y e
def tReprL (K : PySem.W.Frag) (te : TE) : TE := fun σ H Q => te σ H fun x H1 => ∃ (b : Addr) (l : List Str), x = .ref b ∧ SqL K H1 b (l.map V.str) ∧ (∀ y ∈ l, ∀ c ∈ y.cps.toList, c < 16 ^ 8) ∧ fmtCost l + 8 ≤ sizeLine ∧ ∀ z : Str, z.length ≤ fmtCost l + 8 → Q (.str z) H1
theorem pe_reprL {te : TE} (hr : Room k X.A) (he : PE X e te) : PE X (.FormattedValue e 114 none pos) (tReprL X.K te) := by
  refine ⟨fun pins s σ H Q I h => ?_⟩
  refine wpAny_FormattedValue_repr (thn (he.run pins s σ H _ I h) fun v s1 ⟨x, H1, I1, r1, b, l, ex, hs, hc, hz, q⟩ => ?_)
  subst ex
  cases r1
  obtain ⟨its, rv, ⟨⟨cls, dd, data, sl⟩, n, ho, hcl, hdn, hd⟩, hlen⟩ := I1.list hs
  simp only at hcl hd
  subst hcl hd
  have z1 := lr_len l hc
  have z2 := listText_len_le (l.map reprText)
  have hu := hr.units
  have z4 : (l.map reprText).length = its.toArray.size := by
    have := rv.length
    simp only [List.length_map] at this
    simp [this]
  refine wpAny_pyReprObj_slot (by omega) ⟨_, ho, rfl⟩ F.slot_list_repr.toG (lr_call (ts := l.map reprText) ⟨_, ho, rfl⟩ ho rfl z4 (fun i y e => lr_all rv (fun y hy => ?_) i y (by simpa using e)) (fun t h' u tk ht hk => ⟨t, u, rfl, ?_⟩) (by omega))
  · have z3 := StrLaws.reprText_len y (hc y hy)
    have z4 := fmtCost_mem hy
    omega
  · have I2 : Inv X pins σ H1 { s1 with heap := h', toks := tk } := I1.kept hk
    exact wpAny_formatField_str ⟨.str t, H1, I2.tok _, ⟨u, rfl⟩, q t (by omega)⟩ ⟨.str t, H1, (I2.tok _).tok _, ⟨_, rfl⟩, q t (by omega)⟩ (by omega)
theorem ea_fsL {l : List Str} (hr : Room k X.A) (he : EL X e ρ (l.map str)) (hc : ∀ y ∈ l, ∀ c ∈ y.cps.toList, c < 16 ^ 8) (hl : fmtCost l ≤ 10000000) (hm : m.length ≤ 100000) : EA X (.JoinedStr [.Constant (.str m) j p1, .FormattedValue e 114 none p2] pos) ρ anyS :=
  pe_imp (pe_joined (.cons (ea_str (ρ := ρ) (s := m)) (.cons (pe_reprL hr he) .nil))) fun σ H Q ⟨H0, F, S, q⟩ => ⟨H0, F, S, fun v H1 F1 g1 h1 => by
    have h1 : v = .str m := h1
    subst h1
    refine ⟨m, rfl, ?_, H0, F1, S.gr g1, fun p xs H2 F2 g2 h2 hx => ?_⟩
    · show (Str.empty ++ m).length ≤ sizeLine
      rw [app_len, sizeLine_eq]
      have : Str.empty.length = 0 := rfl
      omega
    · have e : xs = l.map V.str := AllV.scs (F := F2) (by rw [List.map_map]; exact hx)
      subst e
      refine ⟨p, l, rfl, SqL.of h2, hc, by rw [sizeLine_eq]; omega, fun z hz => ⟨z, rfl, ?_, q _ H2 F2 (g1.trans g2) ⟨_, trivial, rfl⟩⟩⟩
      rw [app_len, app_len, sizeLine_eq]
      have : Str.empty.length = 0 := rfl
      omega⟩
end
end Lk

set_option Elab.async false
set_option linter.all false
set_option maxRecDepth 100000
set_option maxHeartbeats 4000000
/-! ### ==, != , in, not in over encoded values where an exception is handled (as in Lk7, with RoomH) -/
namespace Lk
open PySem PySem.Calls L2 PySem.Spec PyProof.Rows
section
variable {X : Cx} {α : Type} [DecidableEq α] {n k : Nat} {f : α → As} {ok : α → Prop}
theorem cm_eqH {a b : α} {i : Decidable (a = b)} (hr : L2H.RoomH k X.A) (h : Enc X.K n f ok) (ha : ok a) (hb : ok b) (hn : n ≤ 60 := by decide) : Cm X .Eq (f a) (f b) (decide (a = b)) := by
  obtain ⟨g, h1, h2, h3, h4⟩ := h.ex
  refine ⟨_, op_eqD (by have := hr.un; omega), fun x y H Q p q z => ⟨g a, g b, h1 a H x p, h1 b H y q, shaped_of (h4 a ha) (by have := h3 a; omega), shaped_of (h4 b hb) (by have := h3 b; omega), ?_⟩⟩
  rw [h2, dec_irr _ i]
  exact z
theorem cm_neH {a b : α} {i : Decidable (a = b)} (hr : L2H.RoomH k X.A) (h : Enc X.K n f ok) (ha : ok a) (hb : ok b) (hn : n ≤ 60 := by decide) : Cm X .NotEq (f a) (f b) (!decide (a = b)) := by
  obtain ⟨g, h1, h2, h3, h4⟩ := h.ex
  refine ⟨_, op_neD (by have := hr.un; omega), fun x y H Q p q z => ⟨g a, g b, h1 a H x p, h1 b H y q, shaped_of (h4 a ha) (by have := h3 a; omega), shaped_of (h4 b hb) (by have := h3 b; omega), ?_⟩⟩
  rw [h2, dec_irr _ i]
  exact z
theorem cm_inH {a : α} {l : List α} {i : Decidable (a ∈ l)} (hr : L2H.RoomH k X.A) (h : Enc X.K n f ok) (ha : ok a) (hl : okL ok l) (hn : n ≤ 60 := by decide) : Cm X .In (f a) (lstA (l.map f)) (decide (a ∈ l)) := by
  obtain ⟨g, h1, h2, h3, h4⟩ := h.ex
  refine ⟨_, op_inD (by have := hr.un; omega), fun x y H Q p q z => ⟨g a, l.map g, h1 a H x p, dat_lst h1 l H y q, shaped_of (h4 a ha) (by have := h3 a; omega), ?_, ?_⟩⟩
  · refine shaped_of (by simp only [PyData.canLay0]; exact canAll_map l fun a ha => h4 a (hl a ha)) ?_
    have q := depthAll_map (n := n) l fun a => h3 a
    simp only [PyData.depth]
    omega
  · rw [any_eqv h2, dec_irr _ i]
    exact z
theorem cm_notinH {a : α} {l : List α} {i : Decidable (a ∈ l)} (hr : L2H.RoomH k X.A) (h : Enc X.K n f ok) (ha : ok a) (hl : okL ok l) (hn : n ≤ 60 := by decide) : Cm X .NotIn (f a) (lstA (l.map f)) (!decide (a ∈ l)) := by
  obtain ⟨g, h1, h2, h3, h4⟩ := h.ex
  refine ⟨_, op_notInD (by have := hr.un; omega), fun x y H Q p q z => ⟨g a, l.map g, h1 a H x p, dat_lst h1 l H y q, shaped_of (h4 a ha) (by have := h3 a; omega), ?_, ?_⟩⟩
  · refine shaped_of (by simp only [PyData.canLay0]; exact canAll_map l fun a ha => h4 a (hl a ha)) ?_
    have q := depthAll_map (n := n) l fun a => h3 a
    simp only [PyData.depth]
    omega
  · rw [any_eqv h2, dec_irr _ i]
    exact z

end
end Lk

set_option Elab.async false
set_option linter.all false
set_option maxRecDepth 100000
set_option maxHeartbeats 4000000
namespace Kv
open PySem PySem.Calls L2 Lk
def topS (i : Nat) : Stmt := PySem.Challenge.pw_lookvoice_k48_errors.main.body.getD i (.Pass ⟨0, 0, 0, 0⟩)
/-! ### cells and digits -/
abbrev sCell : Stmt := (topS 17)
abbrev sDigits : Stmt := (topS 18)
theorem sc_cell : FnScope ["_law_script", "_law_k"] ["_law_script", "_law_k"] (defScope sCell) := ⟨rfl, rfl, rfl, by decide +kernel, rfl, by decide +kernel, by decide +kernel⟩
def cellA (ns : List Int) (k : Nat) : Int := ns.getD k 0
section
variable {P : Program} {w : World} {K : PySem.W.Frag} {mg : Str → Option Value} {base : Heap}
abbrev spCl (K : PySem.W.Frag) : Sp := spX (fun _ : List Int × Nat => True) (fun i => [scr K i.1, int (i.2 : Int)]) (fun i => int (cellA i.1 i.2))
theorem ok_cell {f : Addr} {fd : FuncData} (F : Fun K "_law_cell" "_law_cell" sCell f fd) (mL : mg "len" = none) : FnOk P w K mg base CX0 1 f fd ["_law_script", "_law_k"] (spCl K) := by
  refine fn_ok F sc_cell (fun _ _ => rfl) fun ⟨ns, k⟩ cdv B outer s H E _ hr => ?_
  refine ba_cons (sa_if (et_cm (ea_w (ea_var 1 rfl)) (ea_w (ea_lenScr (ea_w (ea_var 0 rfl)) mL)) cm_lt rfl) (fun h => ?_) (fun h => ?_))
  · have z : (k : Int) < (ns.length : Int) := of_decide_eq_true h
    have hk : k < ns.length := by omega
    refine ba_one (sa_ret (ea_is (ea_ixScr (ea_w (ea_var 0 rfl)) (ea_w (ea_var 1 rfl)) (List.getElem?_eq_getElem hk)) ?_))
    show int _ = int (ns.getD k 0)
    rw [List.getD_eq_getElem?_getD, List.getElem?_eq_getElem hk]
    rfl
  · have z : ¬ (k : Int) < (ns.length : Int) := of_decide_eq_false h
    have hk : ¬ k < ns.length := by omega
    refine ba_nil (ba_one (sa_ret (ea_is ea_int ?_)))
    show int 0 = int (ns.getD k 0)
    rw [List.getD_eq_getElem?_getD, List.getElem?_eq_none (by omega)]
    rfl
theorem sc_digits : FnScope ["_law_script", "_law_k", "_law_count", "_law_cell_here", "_law_rest", "_law_row", "_law_j", "_law_mixed"] ["_law_script", "_law_k", "_law_count"] (defScope sDigits) := ⟨rfl, rfl, rfl, by decide +kernel, rfl, by decide +kernel, by decide +kernel⟩
def Digs (n : Nat) (ds : List Int) : Prop := ds.length = n ∧ ∀ d ∈ ds, 0 ≤ d ∧ d < 12
abbrev digsA (n : Nat) : As := exA (Digs n) (fun ds => lstA (ds.map int))
abbrev spDigits (K : PySem.W.Frag) : Sp := spX (fun i : List Int × Nat × Nat => i.2.1 ≤ 1000 ∧ i.2.2 ≤ 1000) (fun i => [scr K i.1, int (i.2.1 : Int), int (i.2.2 : Int)]) (fun i => digsA i.2.2)
theorem ok_digits {f : Addr} {fd : FuncData} (F : Fun K "_law_digits" "_law_digits" sDigits f fd) (mI : mg "int" = none) (mR : mg "range" = none) (DC : Df P w K mg base 1 "_law_cell" ["_law_script", "_law_k"] (spCl K)) : FnOk P w K mg base CX0 2 f fd ["_law_script", "_law_k", "_law_count"] (spDigits K) := by
  refine fn_ok F sc_digits (fun _ _ => rfl) fun ⟨ns, k, n⟩ cdv B outer s H E ⟨hk, hn⟩ hr => ?_
  have nd := sc_digits.nd
  have hk : k ≤ 1000 := hk
  have hn : n ≤ 1000 := hn
  refine ba_cons (sa_set 3 nd (ea_call DC hr (ns, k) trivial (eas_cons (ea_var 0 rfl) (eas_cons (ea_var 1 rfl) eas_nil))) ?_)
  refine ba_cons (sa_set 4 nd (ea_var 3 rfl) ?_)
  -- if cell < 10 ** 18: rest = 0
  refine ba_cons (sa_nx (Mid := fun ρ' => ∃ r : Int, ρ' = [.fr (scr K ns), .fr (int (k : Int)), .fr (int (n : Int)), .fr (int (cellA ns k)), .fr (int r), .no, .no, .no]) (sa_if (et_cm (ea_w (ea_var 3 rfl)) (ea_w (ea_pow (ea_w ea_int) (ea_w ea_int) ⟨by decide, by decide, by decide⟩)) cm_lt rfl) (fun h => ?_) (fun h => ?_)) ?_)
  · exact ba_one (sa_set 4 nd ea_int ⟨0, rfl⟩)
  · exact ba_nil ⟨cellA ns k, rfl⟩
  rintro ρ' ⟨r, rfl⟩
  refine ba_cons (sa_setN 5 nd (en_lst eas_nil (Nat.zero_le _)) ?_)
  refine ba_cons (sa_forR 6 (fun i ρ' => ∃ (r : Int) (ds : List Int), Digs i ds ∧ ρ' = [.fr (scr K ns), .fr (int (k : Int)), .fr (int (n : Int)), .fr (int (cellA ns k)), .fr (int r), .own (ds.map int), .no, .no]) PassesOwn.never rfl nd mR (ea_w (ea_var 2 rfl)) ⟨by omega, by omega⟩ ?h0 ?hs ?hd)
  case h0 => exact ⟨_, ⟨r, [], ⟨rfl, by simp⟩, rfl⟩, .same (.same (.same (.same (.same (.same (.same (.same .nil)))))))⟩
  case hs =>
    rintro i ρ' hi ⟨r, ds, hD, rfl⟩
    have hi : i < n := by simpa using hi
    have app : ∀ d : Int, 0 ≤ d ∧ d < 12 → Digs (i + 1) (ds ++ [d]) := fun d hd => ⟨by rw [List.length_append, hD.1]; rfl, fun x hx => by
      rcases List.mem_append.mp hx with h | h
      · exact hD.2 x h
      · rw [List.mem_singleton.mp h]
        exact hd⟩
    have hlen : (ds.map int).length < sizeLine := by
      rw [List.length_map, hD.1, sizeLine_eq]
      omega
    have em : ∀ z n : Int, 0 < n → 0 ≤ z % n ∧ z % n < n := fun z n h => ⟨Int.emod_nonneg _ (by omega), Int.emod_lt_of_pos _ h⟩
    refine ba_one (sa_if (et_cm (ea_w (ea_var 4 rfl)) (ea_w ea_int) cm_gt rfl) (fun h => ?_) (fun h => ?_))
    · refine ba_cons (sa_app 5 rfl (pe_app 5 (ea_mod (ea_w (ea_int1 (ea_w (ea_var 4 rfl)) mI)) (ea_w ea_int) (by decide))) hlen ?_)
      refine ba_one (sa_set 4 nd (ea_fdiv (ea_w (ea_var 4 rfl)) (ea_w ea_int) ⟨by decide, by decide⟩) ?_)
      exact ⟨_, ⟨r / 12, ds ++ [r % 12], app _ (em r 12 (by decide)), rfl⟩, by rw [List.map_append]; exact .same (.same (.same (.same (.same (.same (.no (.same .nil)))))))⟩
    · refine ba_cons (sa_set 7 nd (ea_rng 0 2147483647 (ea_mod (ea_w (ea_int1 (ea_w (ea_mul (ea_w (ea_var 3 rfl)) (ea_w (ea_add (ea_w (ea_add (ea_w ea_int) (ea_w (ea_mul (ea_w ea_int) (ea_w (ea_var 6 rfl)) (.inl ⟨by decide, by decide⟩))))) (ea_w (ea_mul (ea_w ea_int) (ea_w (ea_var 1 rfl)) (.inl ⟨by decide, by decide⟩))))) (.inr ⟨by omega, by omega⟩))) mI)) (ea_w ea_int) (by decide)) (em _ _ (by decide))) ?_)
      refine ba_ex (i := 7) rfl fun m hm => ?_
      refine ba_cons (sa_set 7 nd (ea_rng 0 1000003 (ea_mod (ea_w (ea_int1 (ea_w (ea_add (ea_w (ea_mul (ea_w (ea_var 7 rfl)) (ea_w (ea_var 7 rfl)) (.inl ⟨by omega, by omega⟩))) (ea_w (ea_mul (ea_w ea_int) (ea_w (ea_var 7 rfl)) (.inl ⟨by decide, by decide⟩))))) mI)) (ea_w ea_int) (by decide)) (em _ _ (by decide))) ?_)
      refine ba_ex (i := 7) rfl fun m2 hm2 => ?_
      refine ba_one (sa_app 5 rfl (pe_app 5 (ea_mod (ea_w (ea_int1 (ea_w (ea_fdiv (ea_w (ea_var 7 rfl)) (ea_w ea_int) ⟨by decide, by decide⟩)) mI)) (ea_w ea_int) (by decide))) hlen ?_)
      exact ⟨_, ⟨r, ds ++ [_], app _ (em (m2 / 11) 12 (by decide)), rfl⟩, by rw [List.map_append]; exact .same (.same (.same (.same (.same (.same (.no (.no .nil)))))))⟩
  case hd =>
    rintro ρ' ⟨r, ds, hD, rfl⟩
    refine ba_free (i := 5) rfl (ba_one (sa_ret (ea_imp (ea_var 5 rfl) fun F v hv => ⟨ds, ?_, hv⟩)))
    simpa using hD
theorem dig {n : Nat} {ds : List Int} (h : Digs n ds) {i : Nat} (hi : i < n) : (ds.map int)[i]? = some (int (ds.getD i 0)) := by
  have hl : i < ds.length := by rw [h.1]; exact hi
  rw [List.getElem?_map, List.getD_eq_getElem?_getD, List.getElem?_eq_getElem hl]
  rfl
theorem digb {n : Nat} {ds : List Int} (h : Digs n ds) (i : Nat) : 0 ≤ ds.getD i 0 ∧ ds.getD i 0 < 12 := by
  by_cases hl : i < ds.length
  · rw [List.getD_eq_getElem?_getD, List.getElem?_eq_getElem hl]
    exact h.2 _ (List.getElem_mem hl)
  · rw [List.getD_eq_getElem?_getD, List.getElem?_eq_none (by omega)]
    decide
end
end Kv

set_option Elab.async false
set_option linter.all false
set_option maxRecDepth 100000
set_option maxHeartbeats 4000000
namespace Kv
open PySem PySem.Calls L2 Lk
/-! ### names -/
abbrev sNames : Stmt := (topS 19)
abbrev nNames : List Str := ["_law_script", "_law_k", "_law_count", "_law_signs", "_law_digits_here", "_law_left", "_law_right", "_law_names_here", "_law_j", "_law_name"]
theorem sc_names : FnScope nNames ["_law_script", "_law_k", "_law_count"] (defScope sNames) := ⟨rfl, rfl, rfl, by decide +kernel, rfl, by decide +kernel, by decide +kernel⟩
def sgs : Str := "aZ3bY7cX1dW9eV5fU2gT8hS4iR6jQ0kPlOmNnMoLpKqJrIsHtGuFvEwDxCyBzA"
def sgl : List Nat := sgs.cps.toList
theorem sgl_len : sgl.length = 62 := by decide +kernel
theorem sgs_len : sgs.length = 62 := by decide +kernel
theorem sgl_nd : sgl.Nodup := by decide +kernel
theorem sgl_al : ∀ c ∈ sgl, alnum c = true := by decide +kernel
def sg (i : Nat) : Nat := sgl.getD i 0
theorem sg_at {i : Nat} (h : i < 62) : sgs.cps.toList[i]? = some (sg i) := by
  have hl : i < sgl.length := by rw [sgl_len]; exact h
  show sgl[i]? = some (sgl.getD i 0)
  rw [List.getD_eq_getElem?_getD, List.getElem?_eq_getElem hl]
  rfl
theorem sg_al {i : Nat} (h : i < 62) : alnum (sg i) = true := sgl_al _ (List.mem_of_getElem? (sg_at h))
theorem sg_inj {i j : Nat} (h1 : i < 62) (h2 : j < 62) (h : sg i = sg j) : i = j := by
  have a := sg_at h1
  have b := sg_at h2
  rw [h] at a
  exact nd_ix sgl_nd a b
/-- the sign that a number picks -/
def pk (z : Int) : Nat := sg (z % 62).toNat
theorem pk_lt (z : Int) : (z % 62).toNat < 62 := by omega
theorem pk_al (z : Int) : alnum (pk z) = true := sg_al (pk_lt z)
theorem pk_at (z : Int) : sgs.cps.toList[(z % 62).toNat]? = some (pk z) := sg_at (pk_lt z)
theorem join1 (cs : List Nat) : Txt.join (Str.ofString "") (cs.map fun c => S [c]) = S cs := by
  have e0 : (Str.ofString "").cps = #[] := by decide +kernel
  have key : ∀ (cs : List Nat) (acc : Array Nat), (cs.map fun c => S [c]).foldl (fun acc p => acc ++ (Str.ofString "").cps ++ p.cps) acc = acc ++ cs.toArray := by
    intro cs
    induction cs with
    | nil => intro acc; simp
    | cons c cs ih =>
      intro acc
      rw [List.map_cons, List.foldl_cons, ih, e0]
      apply Array.ext'
      simp [S]
  show Builtin.Str.glued (Str.ofString "") (cs.map fun c => S [c]) = S cs
  unfold Builtin.Str.glued S
  congr 1
  cases cs with
  | nil => rfl
  | cons c cs =>
    have k := key cs #[c]
    rw [List.map_cons, List.drop_one, List.tail_cons, List.headD_cons]
    exact k.trans (by simp)
theorem join1_sum (cs : List Nat) : ((cs.map fun c => S [c]).map (·.length)).sum = cs.length := by
  rw [List.map_map]
  induction cs with
  | nil => rfl
  | cons c cs ih =>
    rw [List.map_cons, List.sum_cons, ih]
    show (S [c]).length + cs.length = cs.length + 1
    rw [S_len]
    show 1 + cs.length = cs.length + 1
    omega
/-- the parts of the names -/
def lft (ds : List Int) : List Nat := (List.range (ds.getD 0 0 % 4).toNat).map fun j => pk (5 * ds.getD (4 + j) 0 + 11 * (j : Int))
def rgt (ds : List Int) : List Nat := (List.range (ds.getD 1 0 % 5).toNat).map fun j => pk (5 * ds.getD (7 + j) 0 + 17 * (j : Int))
def nmC (ds : List Int) (j : Nat) : Nat := pk (12 * ds.getD 2 0 + ds.getD 3 0 + 7 * (j : Int))
def nm (ds : List Int) (j : Nat) : List Nat := if (ds.getD 11 0 % 2 = 0 ∨ (j : Int) % 2 = 0) then lft ds ++ [nmC ds j] ++ rgt ds else lft ds ++ [nmC ds j]
/-- names: so many notes, all different -/
def Names (n : Nat) (l : List Str) : Prop := l.length = n ∧ l.Nodup ∧ ∀ s ∈ l, Note s
theorem nm_note (ds : List Int) (j : Nat) : Note (S (nm ds j)) := by
  have l1 : (lft ds).length ≤ 3 := by
    unfold lft
    rw [List.length_map, List.length_range]
    omega
  have l2 : (rgt ds).length ≤ 4 := by
    unfold rgt
    rw [List.length_map, List.length_range]
    omega
  have a1 : ∀ c ∈ lft ds, alnum c = true := fun c hc => by
    obtain ⟨i, _, e⟩ := List.mem_map.mp hc
    rw [← e]
    exact pk_al _
  have a2 : ∀ c ∈ rgt ds, alnum c = true := fun c hc => by
    obtain ⟨i, _, e⟩ := List.mem_map.mp hc
    rw [← e]
    exact pk_al _
  refine ⟨_, rfl, ?_, ?_, fun c hc => ?_⟩
  · unfold nm
    split <;> simp <;> omega
  · unfold nm
    split <;> simp <;> omega
  · unfold nm at hc
    split at hc
    · rcases List.mem_append.mp hc with h | h
      · rcases List.mem_append.mp h with h | h
        · exact a1 c h
        · rw [List.mem_singleton.mp h]
          exact pk_al _
      · exact a2 c h
    · rcases List.mem_append.mp hc with h | h
      · exact a1 c h
      · rw [List.mem_singleton.mp h]
        exact pk_al _
theorem nm_inj (ds : List Int) {i j : Nat} (hi : i < 4) (hj : j < 4) (h : nm ds i = nm ds j) : i = j := by
  have at_ : ∀ j, (nm ds j)[(lft ds).length]? = some (nmC ds j) := fun j => by
    unfold nm
    split <;> simp
  have e : nmC ds i = nmC ds j := by
    have a := at_ i
    rw [h, at_ j] at a
    exact (Option.some.inj a).symm
  have q := sg_inj (pk_lt _) (pk_lt _) e
  omega
theorem nms_names (ds : List Int) {n : Nat} (hn : n ≤ 4) : Names n ((List.range n).map fun j => S (nm ds j)) := by
  refine ⟨by simp, ?_, fun s hs => ?_⟩
  · rw [List.nodup_iff_pairwise_ne, List.pairwise_map]
    refine List.Pairwise.imp_of_mem ?_ (List.nodup_iff_pairwise_ne.mp List.nodup_range)
    intro a b ha hb hab e
    rw [List.mem_range] at ha hb
    exact hab (nm_inj ds (by omega) (by omega) (S_inj e))
  · obtain ⟨j, _, e⟩ := List.mem_map.mp hs
    rw [← e]
    exact nm_note ds j
section
variable {P : Program} {w : World} {K : PySem.W.Frag} {mg : Str → Option Value} {base : Heap}
abbrev strsA (l : List Str) : As := lstA (l.map str)
abbrev namesA (n : Nat) : As := exA (Names n) strsA
abbrev spNames (K : PySem.W.Frag) : Sp := spX (fun i : List Int × Nat × Nat => i.2.1 ≤ 1000 ∧ i.2.2 ≤ 4) (fun i => [scr K i.1, int (i.2.1 : Int), int (i.2.2 : Int)]) (fun i => namesA i.2.2)
theorem ok_names {f : Addr} {fd : FuncData} (F : Fun K "_law_names" "_law_names" sNames f fd) (mI : mg "int" = none) (mR : mg "range" = none) (DD : Df P w K mg base 2 "_law_digits" ["_law_script", "_law_k", "_law_count"] (spDigits K)) : FnOk P w K mg base CX0 3 f fd ["_law_script", "_law_k", "_law_count"] (spNames K) := by
  refine fn_ok F sc_names (fun _ _ => rfl) fun ⟨ns, k, n⟩ cdv B outer s H E ⟨hk, hn⟩ hr => ?_
  have nd := sc_names.nd
  have hk : k ≤ 1000 := hk
  have hn : n ≤ 4 := hn
  refine ba_cons (sa_set 3 nd ea_str ?_)
  refine ba_cons (sa_set 4 nd (ea_call DD hr (ns, k, 12) ⟨hk, (by decide : 12 ≤ 1000)⟩ (eas_cons (ea_var 0 rfl) (eas_cons (ea_var 1 rfl) (eas_cons ea_int eas_nil)))) ?_)
  refine ba_ex (i := 4) rfl fun ds hD => ?_
  have hD : Digs 12 ds := hD
  have b0 := digb hD 0
  have b1 := digb hD 1
  have em : ∀ z n : Int, 0 < n → 0 ≤ z % n ∧ z % n < n := fun z n h => ⟨Int.emod_nonneg _ (by omega), Int.emod_lt_of_pos _ h⟩
  have e4 := em (ds.getD 0 0) 4 (by decide)
  have e5 := em (ds.getD 1 0) 5 (by decide)
  -- left
  refine ba_cons (sa_set 5 nd (A := str (S (lft ds))) (ea_is (ea_joinL (zs := (lft ds).map fun c => S [c]) (ea_w ea_str) ?he ?hz) (by rw [join1])) ?_)
  case hz =>
    rw [join1_sum]
    unfold lft
    rw [List.length_map, List.length_map, List.length_range, show (Str.ofString "").length = 0 by decide +kernel]
    omega
  case he =>
    refine el_is (en_l (en_lcR (own := [("_law_j", 8)]) 8 (z := ds.getD 0 0 % 4) (p := fun _ => true) (g := fun j => str (S [pk (5 * ds.getD (4 + j) 0 + 11 * (j : Int))])) rfl nd mR ?hi ⟨by omega, by omega⟩ (blkOk_by (N := nNames) (sc := defScope sNames) (by decide +kernel)) (fun _ _ _ _ _ => pg_name nd rfl (Or.inl rfl)) (fun _ _ _ _ _ _ _ => pts_yes) (fun _ _ _ _ _ j hj _ => ?el))) ?eq
    case hi => exact ea_w (ea_mod (ea_w (ea_int1 (ea_w (ea_ixL (ea_l (ea_var 4 rfl)) (ea_w ea_int) rfl (dig hD (i := 0) (by decide)))) mI)) (ea_w ea_int) (by decide))
    case eq =>
      rw [flt_true]
      unfold lft
      rw [List.map_map, List.map_map]
      rfl
    case el =>
      have hj : j < 12 - 4 := by
        have z := List.mem_range.mp hj
        omega
      refine ea_ixS (s := sgs) (ea_w (ea_var 3 rfl)) ?_ (by rw [sgs_len]; decide) (Int.toNat_of_nonneg (em _ 62 (by decide)).1).symm (pk_at _)
      exact ea_w (ea_mod (ea_w (ea_int1 (ea_w (ea_add (ea_w (ea_mul (ea_w ea_int) (ea_w (ea_ixL (ea_l (ea_var 4 rfl)) (ea_w (ea_add (ea_w ea_int) (ea_w (ea_var 8 rfl)))) (j := 4 + j) (by omega) (dig hD (i := 4 + j) (by omega)))) (.inl ⟨by decide, by decide⟩))) (ea_w (ea_mul (ea_w ea_int) (ea_w (ea_var 8 rfl)) (.inl ⟨by decide, by decide⟩))))) mI)) (ea_w ea_int) (by decide))
  -- right
  refine ba_cons (sa_set 6 nd (A := str (S (rgt ds))) (ea_is (ea_joinL (zs := (rgt ds).map fun c => S [c]) (ea_w ea_str) ?he ?hz) (by rw [join1])) ?_)
  case hz =>
    rw [join1_sum]
    unfold rgt
    rw [List.length_map, List.length_map, List.length_range, show (Str.ofString "").length = 0 by decide +kernel]
    omega
  case he =>
    refine el_is (en_l (en_lcR (own := [("_law_j", 8)]) 8 (z := ds.getD 1 0 % 5) (p := fun _ => true) (g := fun j => str (S [pk (5 * ds.getD (7 + j) 0 + 17 * (j : Int))])) rfl nd mR ?hi ⟨by omega, by omega⟩ (blkOk_by (N := nNames) (sc := defScope sNames) (by decide +kernel)) (fun _ _ _ _ _ => pg_name nd rfl (Or.inl rfl)) (fun _ _ _ _ _ _ _ => pts_yes) (fun _ _ _ _ _ j hj _ => ?el))) ?eq
    case hi => exact ea_w (ea_mod (ea_w (ea_int1 (ea_w (ea_ixL (ea_l (ea_var 4 rfl)) (ea_w ea_int) rfl (dig hD (i := 1) (by decide)))) mI)) (ea_w ea_int) (by decide))
    case eq =>
      rw [flt_true]
      unfold rgt
      rw [List.map_map, List.map_map]
      rfl
    case el =>
      have hj : j < 12 - 7 := by
        have z := List.mem_range.mp hj
        omega
      refine ea_ixS (s := sgs) (ea_w (ea_var 3 rfl)) ?_ (by rw [sgs_len]; decide) (Int.toNat_of_nonneg (em _ 62 (by decide)).1).symm (pk_at _)
      exact ea_w (ea_mod (ea_w (ea_int1 (ea_w (ea_add (ea_w (ea_mul (ea_w ea_int) (ea_w (ea_ixL (ea_l (ea_var 4 rfl)) (ea_w (ea_add (ea_w ea_int) (ea_w (ea_var 8 rfl)))) (j := 7 + j) (by omega) (dig hD (i := 7 + j) (by omega)))) (.inl ⟨by decide, by decide⟩))) (ea_w (ea_mul (ea_w ea_int) (ea_w (ea_var 8 rfl)) (.inl ⟨by decide, by decide⟩))))) mI)) (ea_w ea_int) (by decide))
  have s1 : (S (lft ds)).length ≤ 4 := by
    rw [S_len]
    unfold lft
    rw [List.length_map, List.length_range]
    omega
  have s2 : (S (rgt ds)).length ≤ 5 := by
    rw [S_len]
    unfold rgt
    rw [List.length_map, List.length_range]
    omega
  -- the names
  refine ba_cons (sa_setN 7 nd (en_lst eas_nil (Nat.zero_le _)) ?_)
  refine ba_cons (sa_forR 8 (fun i ρ' => ρ' = [.fr (scr K ns), .fr (int (k : Int)), .fr (int (n : Int)), .fr (str sgs), .fr (lstA (ds.map int)), .fr (str (S (lft ds))), .fr (str (S (rgt ds))), .own ((List.range i).map fun j => str (S (nm ds j))), .no, .no]) PassesOwn.never rfl nd mR (ea_w (ea_var 2 rfl)) ⟨by omega, by omega⟩ ?h0 ?hs ?hd)
  case h0 => exact ⟨_, rfl, Le.refl _⟩
  case hs =>
    rintro i ρ' hi rfl
    have hi : i < n := by simpa using hi
    have sz : (S [nmC ds i]).length = 1 := S_len _
    refine ba_cons (sa_set 9 nd (A := str (S (lft ds ++ [nmC ds i]))) (ea_is (ea_adds (s := S (lft ds)) (t := S [nmC ds i]) (ea_w (ea_var 5 rfl)) (ea_w ?_) (by rw [sz, sizeLine_eq]; omega)) (by rw [S_app])) ?_)
    · refine ea_ixS (s := sgs) (ea_w (ea_var 3 rfl)) ?_ (by rw [sgs_len]; decide) (Int.toNat_of_nonneg (em _ 62 (by decide)).1).symm (pk_at _)
      exact ea_w (ea_mod (ea_w (ea_int1 (ea_w (ea_add (ea_w (ea_add (ea_w (ea_mul (ea_w ea_int) (ea_w (ea_ixL (ea_l (ea_var 4 rfl)) (ea_w ea_int) rfl (dig hD (i := 2) (by decide)))) (.inl ⟨by decide, by decide⟩))) (ea_w (ea_ixL (ea_l (ea_var 4 rfl)) (ea_w ea_int) rfl (dig hD (i := 3) (by decide)))))) (ea_w (ea_mul (ea_w ea_int) (ea_w (ea_var 8 rfl)) (.inl ⟨by decide, by decide⟩))))) mI)) (ea_w ea_int) (by decide))
    have l8 : (S (lft ds ++ [nmC ds i])).length = (S (lft ds)).length + 1 := by
      rw [S_len, S_len]
      simp
    refine ba_cons (sa_nx (Mid := fun ρ' => ρ' = [.fr (scr K ns), .fr (int (k : Int)), .fr (int (n : Int)), .fr (str sgs), .fr (lstA (ds.map int)), .fr (str (S (lft ds))), .fr (str (S (rgt ds))), .own ((List.range i).map fun j => str (S (nm ds j))), .fr (int (i : Int)), .fr (str (S (nm ds i)))])
      (sa_if (et_w (ewt_or (et_cm (ea_w (ea_mod (ea_w (ea_int1 (ea_w (ea_ixL (ea_l (ea_var 4 rfl)) (ea_w ea_int) rfl (dig hD (i := 11) (by decide)))) mI)) (ea_w ea_int) (by decide))) (ea_w ea_int) cm_eqI rfl) fun _ => ewt_or1 (et_cm (ea_w (ea_mod (ea_w (ea_int1 (ea_w (ea_var 8 rfl)) mI)) (ea_w ea_int) (by decide))) (ea_w ea_int) cm_eqI rfl)))
        (fun h => ?_) (fun h => ?_)) ?_)
    · have h2 : ds.getD 11 0 % 2 = 0 ∨ (i : Int) % 2 = 0 := by
        rcases Bool.or_eq_true_iff.mp h with z | z
        · exact .inl (of_decide_eq_true z)
        · exact .inr (of_decide_eq_true z)
      refine ba_one (sa_set 9 nd (A := str (S (nm ds i))) (ea_is (ea_adds (s := S (lft ds ++ [nmC ds i])) (t := S (rgt ds)) (ea_w (ea_var 9 rfl)) (ea_w (ea_var 6 rfl)) (by rw [l8, sizeLine_eq]; omega)) ?_) rfl)
      rw [S_app]
      unfold nm
      rw [if_pos h2]
    · have h2 : ¬ (ds.getD 11 0 % 2 = 0 ∨ (i : Int) % 2 = 0) := fun z => by
        obtain ⟨z1, z2⟩ := Bool.or_eq_false_iff.mp h
        rcases z with z | z
        · exact of_decide_eq_false z1 z
        · exact of_decide_eq_false z2 z
      refine ba_nil ?_
      have e : nm ds i = lft ds ++ [nmC ds i] := by
        unfold nm
        rw [if_neg h2]
      rw [e]
      rfl
    rintro ρ' rfl
    refine ba_one (sa_app 7 rfl (pe_app 7 (ea_var 9 rfl)) (by rw [List.length_map, List.length_range, sizeLine_eq]; omega) ?_)
    refine ⟨_, rfl, ?_⟩
    rw [List.range_succ, List.map_append]
    exact .same (.same (.same (.same (.same (.same (.same (.same (.no (.no .nil)))))))))
  case hd =>
    rintro ρ' rfl
    refine ba_free (i := 7) rfl (ba_one (sa_ret (ea_imp (ea_var 7 rfl) fun F v hv => ⟨(List.range n).map fun j => S (nm ds j), nms_names ds hn, ?_⟩)))
    show (lstA (List.map str (List.map (fun j => S (nm ds j)) (List.range n)))).p F v
    rw [List.map_map]
    have hv2 : (lstA (List.map (fun j => str (S (nm ds j))) (List.range n))).p F v := by simpa using hv
    exact hv2
end
end Kv

set_option Elab.async false
set_option linter.all false
set_option maxRecDepth 100000
set_option maxHeartbeats 4000000
namespace Kv
open PySem PySem.Calls L2 Lk NdefX
/-! ### error classes with one field -/
/-- what is written of one -/
structure ExAt (P : Program) (K : PySem.W.Frag) (C : Addr) (x qual fld : Str) (st : Stmt) : Prop where
  nm : PySem.W.nsIn K mainGlobals x = some (some (.ref C))
  O : OexC K C
  no : PySem.W.findIn K (.ref C) fld = some none
  su : PySem.W.nsIn K mainGlobals "super" = some none
  ex : ∃ f cc cda fd, PySem.W.findIn K (.ref C) "__init__" = some (some (.ref f)) ∧ PySem.W.typeIn K (.ref f) = some (.type "function") ∧ ∀ mg : Str → Option Value, mg "super" = none → SupAt P K mg f cc cda C "__init__" qual (defArgs st) (defBody st) (defScope st) fd
section
variable {P : Program} {w : World} {K : PySem.W.Frag} {mg : Str → Option Value} {base h : Heap} {C CP : Addr}
theorem ex_at {x qual fld nm2 q2 fl : Str} {st : Stmt} {f cc cda N : Addr} {oc kV doc pm ct cdc ccc : Value} {od an dd cdd ccd : Option Addr} {osl cdsl ccsl : Array (Option Value)} {bs bm sub : List Value} {sn : List Str} {ab : Bool} {col : Option Bool} {k0 k1 k2 k3 k5 : Option Value} {vs : Array Value} {tf : Tok}
    (nm : PySem.W.nsIn K mainGlobals x = some (some (.ref C))) (cl : K.lookup C = some (excClassObj nm2 q2 C N bs bm true sn sub ab col dd k0 k1 k2 k3 k5 "ValueError.__new__")) (rv : PySem.HandSPX.refsVE bm = true)
    (sa : PySem.W.findIn K (.ref C) "__setattr__" = some (some (.builtin "object.__setattr__"))) (exC : PySem.W.subIn K (.ref C) (.type "BaseException") = some true) (tyC : PySem.W.typeIn K (.ref C) = some (.type "type")) (kC : PySem.W.keepIn K (.ref C) = true)
    (no : PySem.W.findIn K (.ref C) fld = some none) (su : PySem.W.nsIn K mainGlobals "super" = some none) (a : PySem.W.findIn K (.ref C) "__init__" = some (some (.ref f))) (ty : PySem.W.typeIn K (.ref f) = some (.type "function"))
    (lk : K.lookup f = some ⟨oc, od, .func (PySem.W.fnX "__init__" qual (defArgs st) (defBody st) (defScope st) [("__class__", cc)] .none kV doc pm an (.ref cda) ct), osl⟩) (cd : PySem.W.codeIn K (.ref cda) qual = true)
    (lc : K.lookup cda = some ⟨cdc, cdd, .fields vs, cdsl⟩) (v2 : vs[2]? = some (.str fl tf)) (fe : ((P.main.file : Str) == fl) = true) (ce : K.lookup cc = some ⟨ccc, ccd, .cell (some (.ref C)), ccsl⟩)
    (sub2 : PySem.W.mroIn K C (.ref C) = some true) (op : PySem.W.nsIn K cStatics "thirdparty.any" = some none) (ini : PySem.W.ks_superIn K C C "__init__" = some (some (.builtin "ValueError.__init__"))) (sve : PySem.W.subIn K (.ref C) (.type "ValueError") = some true)
    (top : (P.main.scope.names.lookup ("super" : Str)).isSome = false) : ExAt P K C x qual fld st :=
  ⟨nm, ⟨⟨_, _, _, _, _, _, _, _, _, _, _, _, _, _, _, cl, rv⟩, sa, exC, tyC, kC⟩, no, su, f, cc, cda, _, a, ty, fun mg hm =>
    ⟨⟨oc, od, kV, doc, pm, an, ct, osl, rfl, lk⟩, cd, ⟨_, _, _, _, _, _, lc, v2, fe⟩, ⟨_, _, _, ce⟩, sub2, op, ini, sve, hm, top⟩⟩
end
end Kv

set_option Elab.async false
set_option linter.all false
set_option maxRecDepth 100000
set_option maxHeartbeats 4000000
namespace Kv
open PySem PySem.Calls L2 Lk NdefX
/-! ### the errors with one field, where nothing but errors is linked (k48) -/
def Txt (s : Str) : Prop := (∀ c ∈ s.cps.toList, c < 16 ^ 8) ∧ s.length ≤ 100000
def SmI (i : Int) : Prop := i.natAbs.log2 < 1000
abbrev prN (s : Str) : As := tupA [str s, str s]
abbrev liN (s : Str) : As := lstA [str s]
abbrev ruN (s : Str) : As := tupA [str "open", str s, str s]
theorem open_txt : Txt "open" := ⟨by decide +kernel, by decide +kernel⟩
section
variable {P : Program} {w : World} {K : PySem.W.Frag} {mg : Str → Option Value} {base h : Heap} {C : Addr}
/-! ### BadName -/
abbrev sBadName : Stmt := (inClass (topS 2) 0)
theorem sc_BadName : NScope ["self", "name", "__class__"] ["self", "name"] ["__class__"] (defScope sBadName) := ⟨rfl, rfl, rfl, by decide +kernel, rfl, by decide +kernel, by decide +kernel, by decide +kernel, by decide +kernel⟩
abbrev EBadName (P : Program) (w : World) (K : PySem.W.Frag) (mg : Str → Option Value) (base : Heap) (C : Addr) : Prop := Er1 P w K mg base 1 "BadName" C "name" Txt str str
theorem er_BadName (E : ExAt P K C "BadName" "BadName.__init__" "name" sBadName) (X : K.In h) (G : h.Ns mainGlobals mg) : EBadName P w K mg base C := by
  obtain ⟨f, cc, cda, fd, a, ty, T⟩ := E.ex
  have T := T mg (PySem.W.mg_none_of X G E.su)
  refine ⟨PySem.W.mg_of X G E.nm, E.O, f, fd, "self", "name", a, ty, ?_, ?_⟩
  · refine ok_excI (nf := ⟨"__init__", "BadName.__init__", defArgs sBadName, defBody sBadName, defScope sBadName, [("__class__", cc)], cda⟩) rfl T E.O E.no sc_BadName (by decide +kernel) rfl rfl rfl (fun _ => rfl) (fun _ => rfl) (fun _ => ⟨_, rfl⟩) (fun _ => rfl) (fun _ => rfl) rfl rfl ?_ ?_
    · intro i a A outer s H E hi hr
      exact ea_fsS (ea_w (ea_var 1 rfl)) hi.1 hi.2 (by decide)
    · intro i a A outer s H E hi hr
      exact ea_var 1 rfl
  · obtain ⟨oc, od, kV, doc, pm, an, ct, osl, rfl, lk⟩ := T.lk
    intro s us I hl
    match us, hl with
    | [_, _], _ => exact .of_eq rfl
/-! ### Twice -/
abbrev sTwice : Stmt := (inClass (topS 3) 0)
theorem sc_Twice : NScope ["self", "name", "__class__"] ["self", "name"] ["__class__"] (defScope sTwice) := ⟨rfl, rfl, rfl, by decide +kernel, rfl, by decide +kernel, by decide +kernel, by decide +kernel, by decide +kernel⟩
abbrev ETwice (P : Program) (w : World) (K : PySem.W.Frag) (mg : Str → Option Value) (base : Heap) (C : Addr) : Prop := Er1 P w K mg base 1 "Twice" C "name" Txt str str
theorem er_Twice (E : ExAt P K C "Twice" "Twice.__init__" "name" sTwice) (X : K.In h) (G : h.Ns mainGlobals mg) : ETwice P w K mg base C := by
  obtain ⟨f, cc, cda, fd, a, ty, T⟩ := E.ex
  have T := T mg (PySem.W.mg_none_of X G E.su)
  refine ⟨PySem.W.mg_of X G E.nm, E.O, f, fd, "self", "name", a, ty, ?_, ?_⟩
  · refine ok_excI (nf := ⟨"__init__", "Twice.__init__", defArgs sTwice, defBody sTwice, defScope sTwice, [("__class__", cc)], cda⟩) rfl T E.O E.no sc_Twice (by decide +kernel) rfl rfl rfl (fun _ => rfl) (fun _ => rfl) (fun _ => ⟨_, rfl⟩) (fun _ => rfl) (fun _ => rfl) rfl rfl ?_ ?_
    · intro i a A outer s H E hi hr
      exact ea_fsS (ea_w (ea_var 1 rfl)) hi.1 hi.2 (by decide)
    · intro i a A outer s H E hi hr
      exact ea_var 1 rfl
  · obtain ⟨oc, od, kV, doc, pm, an, ct, osl, rfl, lk⟩ := T.lk
    intro s us I hl
    match us, hl with
    | [_, _], _ => exact .of_eq rfl
/-! ### UnknownNote -/
abbrev sUnknownNote : Stmt := (inClass (topS 5) 0)
theorem sc_UnknownNote : NScope ["self", "note", "__class__"] ["self", "note"] ["__class__"] (defScope sUnknownNote) := ⟨rfl, rfl, rfl, by decide +kernel, rfl, by decide +kernel, by decide +kernel, by decide +kernel, by decide +kernel⟩
abbrev EUnknownNote (P : Program) (w : World) (K : PySem.W.Frag) (mg : Str → Option Value) (base : Heap) (C : Addr) : Prop := Er1 P w K mg base 1 "UnknownNote" C "note" Txt str str
theorem er_UnknownNote (E : ExAt P K C "UnknownNote" "UnknownNote.__init__" "note" sUnknownNote) (X : K.In h) (G : h.Ns mainGlobals mg) : EUnknownNote P w K mg base C := by
  obtain ⟨f, cc, cda, fd, a, ty, T⟩ := E.ex
  have T := T mg (PySem.W.mg_none_of X G E.su)
  refine ⟨PySem.W.mg_of X G E.nm, E.O, f, fd, "self", "note", a, ty, ?_, ?_⟩
  · refine ok_excI (nf := ⟨"__init__", "UnknownNote.__init__", defArgs sUnknownNote, defBody sUnknownNote, defScope sUnknownNote, [("__class__", cc)], cda⟩) rfl T E.O E.no sc_UnknownNote (by decide +kernel) rfl rfl rfl (fun _ => rfl) (fun _ => rfl) (fun _ => ⟨_, rfl⟩) (fun _ => rfl) (fun _ => rfl) rfl rfl ?_ ?_
    · intro i a A outer s H E hi hr
      exact ea_fsS (ea_w (ea_var 1 rfl)) hi.1 hi.2 (by decide)
    · intro i a A outer s H E hi hr
      exact ea_var 1 rfl
  · obtain ⟨oc, od, kV, doc, pm, an, ct, osl, rfl, lk⟩ := T.lk
    intro s us I hl
    match us, hl with
    | [_, _], _ => exact .of_eq rfl
/-! ### UnknownPair -/
abbrev sUnknownPair : Stmt := (inClass (topS 6) 0)
theorem sc_UnknownPair : NScope ["self", "pair", "__class__"] ["self", "pair"] ["__class__"] (defScope sUnknownPair) := ⟨rfl, rfl, rfl, by decide +kernel, rfl, by decide +kernel, by decide +kernel, by decide +kernel, by decide +kernel⟩
abbrev EUnknownPair (P : Program) (w : World) (K : PySem.W.Frag) (mg : Str → Option Value) (base : Heap) (C : Addr) : Prop := Er1 P w K mg base 1 "UnknownPair" C "pair" Txt prN prN
theorem er_UnknownPair (E : ExAt P K C "UnknownPair" "UnknownPair.__init__" "pair" sUnknownPair) (X : K.In h) (G : h.Ns mainGlobals mg) : EUnknownPair P w K mg base C := by
  obtain ⟨f, cc, cda, fd, a, ty, T⟩ := E.ex
  have T := T mg (PySem.W.mg_none_of X G E.su)
  refine ⟨PySem.W.mg_of X G E.nm, E.O, f, fd, "self", "pair", a, ty, ?_, ?_⟩
  · refine ok_excI (nf := ⟨"__init__", "UnknownPair.__init__", defArgs sUnknownPair, defBody sUnknownPair, defScope sUnknownPair, [("__class__", cc)], cda⟩) rfl T E.O E.no sc_UnknownPair (by decide +kernel) rfl rfl rfl (fun _ => rfl) (fun _ => rfl) (fun _ => ⟨_, rfl⟩) (fun _ => rfl) (fun _ => rfl) rfl rfl ?_ ?_
    · intro i a A outer s H E hi hr
      refine ea_fsT (l := [i, i]) hr (ea_var 1 rfl) (fun y hy => ?_) ?_ (by decide)
      · simp only [List.mem_cons, List.not_mem_nil, or_false] at hy
        rcases hy with rfl | rfl
        · exact hi.1
        · exact hi.1
      · simp only [fmtCost_cons]
        have : fmtCost [] = 0 := rfl
        have : ("open" : Str).length = 4 := rfl
        have := hi.2
        omega
    · intro i a A outer s H E hi hr
      exact ea_var 1 rfl
  · obtain ⟨oc, od, kV, doc, pm, an, ct, osl, rfl, lk⟩ := T.lk
    intro s us I hl
    match us, hl with
    | [_, _], _ => exact .of_eq rfl
/-! ### BadRule -/
abbrev sBadRule : Stmt := (inClass (topS 7) 0)
theorem sc_BadRule : NScope ["self", "rule", "__class__"] ["self", "rule"] ["__class__"] (defScope sBadRule) := ⟨rfl, rfl, rfl, by decide +kernel, rfl, by decide +kernel, by decide +kernel, by decide +kernel, by decide +kernel⟩
abbrev EBadRule (P : Program) (w : World) (K : PySem.W.Frag) (mg : Str → Option Value) (base : Heap) (C : Addr) : Prop := Er1 P w K mg base 1 "BadRule" C "rule" Txt ruN ruN
theorem er_BadRule (E : ExAt P K C "BadRule" "BadRule.__init__" "rule" sBadRule) (X : K.In h) (G : h.Ns mainGlobals mg) : EBadRule P w K mg base C := by
  obtain ⟨f, cc, cda, fd, a, ty, T⟩ := E.ex
  have T := T mg (PySem.W.mg_none_of X G E.su)
  refine ⟨PySem.W.mg_of X G E.nm, E.O, f, fd, "self", "rule", a, ty, ?_, ?_⟩
  · refine ok_excI (nf := ⟨"__init__", "BadRule.__init__", defArgs sBadRule, defBody sBadRule, defScope sBadRule, [("__class__", cc)], cda⟩) rfl T E.O E.no sc_BadRule (by decide +kernel) rfl rfl rfl (fun _ => rfl) (fun _ => rfl) (fun _ => ⟨_, rfl⟩) (fun _ => rfl) (fun _ => rfl) rfl rfl ?_ ?_
    · intro i a A outer s H E hi hr
      refine ea_fsT (l := [("open" : Str), i, i]) hr (ea_var 1 rfl) (fun y hy => ?_) ?_ (by decide)
      · simp only [List.mem_cons, List.not_mem_nil, or_false] at hy
        rcases hy with rfl | rfl | rfl
        · exact open_txt.1
        · exact hi.1
        · exact hi.1
      · simp only [fmtCost_cons]
        have : fmtCost [] = 0 := rfl
        have : ("open" : Str).length = 4 := rfl
        have := hi.2
        omega
    · intro i a A outer s H E hi hr
      exact ea_var 1 rfl
  · obtain ⟨oc, od, kV, doc, pm, an, ct, osl, rfl, lk⟩ := T.lk
    intro s us I hl
    match us, hl with
    | [_, _], _ => exact .of_eq rfl
/-! ### BadLine -/
abbrev sBadLine : Stmt := (inClass (topS 8) 0)
theorem sc_BadLine : NScope ["self", "number", "__class__"] ["self", "number"] ["__class__"] (defScope sBadLine) := ⟨rfl, rfl, rfl, by decide +kernel, rfl, by decide +kernel, by decide +kernel, by decide +kernel, by decide +kernel⟩
abbrev EBadLine (P : Program) (w : World) (K : PySem.W.Frag) (mg : Str → Option Value) (base : Heap) (C : Addr) : Prop := Er1 P w K mg base 1 "BadLine" C "number" SmI int int
theorem er_BadLine (E : ExAt P K C "BadLine" "BadLine.__init__" "number" sBadLine) (X : K.In h) (G : h.Ns mainGlobals mg) : EBadLine P w K mg base C := by
  obtain ⟨f, cc, cda, fd, a, ty, T⟩ := E.ex
  have T := T mg (PySem.W.mg_none_of X G E.su)
  refine ⟨PySem.W.mg_of X G E.nm, E.O, f, fd, "self", "number", a, ty, ?_, ?_⟩
  · refine ok_excI (nf := ⟨"__init__", "BadLine.__init__", defArgs sBadLine, defBody sBadLine, defScope sBadLine, [("__class__", cc)], cda⟩) rfl T E.O E.no sc_BadLine (by decide +kernel) rfl rfl rfl (fun _ => rfl) (fun _ => rfl) (fun _ => ⟨_, rfl⟩) (fun _ => rfl) (fun _ => rfl) rfl rfl ?_ ?_
    · intro i a A outer s H E hi hr
      exact ea_fsI (ea_w (ea_var 1 rfl)) (by have : i.natAbs.log2 < 1000 := hi; omega) (by decide)
    · intro i a A outer s H E hi hr
      exact ea_var 1 rfl
  · obtain ⟨oc, od, kV, doc, pm, an, ct, osl, rfl, lk⟩ := T.lk
    intro s us I hl
    match us, hl with
    | [_, _], _ => exact .of_eq rfl
/-! ### BadPlace -/
abbrev sBadPlace : Stmt := (inClass (topS 9) 0)
theorem sc_BadPlace : NScope ["self", "place", "__class__"] ["self", "place"] ["__class__"] (defScope sBadPlace) := ⟨rfl, rfl, rfl, by decide +kernel, rfl, by decide +kernel, by decide +kernel, by decide +kernel, by decide +kernel⟩
abbrev EBadPlace (P : Program) (w : World) (K : PySem.W.Frag) (mg : Str → Option Value) (base : Heap) (C : Addr) : Prop := Er1 P w K mg base 1 "BadPlace" C "place" SmI int int
theorem er_BadPlace (E : ExAt P K C "BadPlace" "BadPlace.__init__" "place" sBadPlace) (X : K.In h) (G : h.Ns mainGlobals mg) : EBadPlace P w K mg base C := by
  obtain ⟨f, cc, cda, fd, a, ty, T⟩ := E.ex
  have T := T mg (PySem.W.mg_none_of X G E.su)
  refine ⟨PySem.W.mg_of X G E.nm, E.O, f, fd, "self", "place", a, ty, ?_, ?_⟩
  · refine ok_excI (nf := ⟨"__init__", "BadPlace.__init__", defArgs sBadPlace, defBody sBadPlace, defScope sBadPlace, [("__class__", cc)], cda⟩) rfl T E.O E.no sc_BadPlace (by decide +kernel) rfl rfl rfl (fun _ => rfl) (fun _ => rfl) (fun _ => ⟨_, rfl⟩) (fun _ => rfl) (fun _ => rfl) rfl rfl ?_ ?_
    · intro i a A outer s H E hi hr
      exact ea_fsI (ea_w (ea_var 1 rfl)) (by have : i.natAbs.log2 < 1000 := hi; omega) (by decide)
    · intro i a A outer s H E hi hr
      exact ea_var 1 rfl
  · obtain ⟨oc, od, kV, doc, pm, an, ct, osl, rfl, lk⟩ := T.lk
    intro s us I hl
    match us, hl with
    | [_, _], _ => exact .of_eq rfl
/-! ### BadAhead -/
abbrev sBadAhead : Stmt := (inClass (topS 11) 0)
theorem sc_BadAhead : NScope ["self", "ahead", "__class__"] ["self", "ahead"] ["__class__"] (defScope sBadAhead) := ⟨rfl, rfl, rfl, by decide +kernel, rfl, by decide +kernel, by decide +kernel, by decide +kernel, by decide +kernel⟩
abbrev EBadAhead (P : Program) (w : World) (K : PySem.W.Frag) (mg : Str → Option Value) (base : Heap) (C : Addr) : Prop := Er1 P w K mg base 1 "BadAhead" C "ahead" SmI int int
theorem er_BadAhead (E : ExAt P K C "BadAhead" "BadAhead.__init__" "ahead" sBadAhead) (X : K.In h) (G : h.Ns mainGlobals mg) : EBadAhead P w K mg base C := by
  obtain ⟨f, cc, cda, fd, a, ty, T⟩ := E.ex
  have T := T mg (PySem.W.mg_none_of X G E.su)
  refine ⟨PySem.W.mg_of X G E.nm, E.O, f, fd, "self", "ahead", a, ty, ?_, ?_⟩
  · refine ok_excI (nf := ⟨"__init__", "BadAhead.__init__", defArgs sBadAhead, defBody sBadAhead, defScope sBadAhead, [("__class__", cc)], cda⟩) rfl T E.O E.no sc_BadAhead (by decide +kernel) rfl rfl rfl (fun _ => rfl) (fun _ => rfl) (fun _ => ⟨_, rfl⟩) (fun _ => rfl) (fun _ => rfl) rfl rfl ?_ ?_
    · intro i a A outer s H E hi hr
      exact ea_fsI (ea_w (ea_var 1 rfl)) (by have : i.natAbs.log2 < 1000 := hi; omega) (by decide)
    · intro i a A outer s H E hi hr
      exact ea_var 1 rfl
  · obtain ⟨oc, od, kV, doc, pm, an, ct, osl, rfl, lk⟩ := T.lk
    intro s us I hl
    match us, hl with
    | [_, _], _ => exact .of_eq rfl
/-! ### Silent -/
abbrev sSilent : Stmt := (inClass (topS 15) 0)
theorem sc_Silent : NScope ["self", "voice", "__class__"] ["self", "voice"] ["__class__"] (defScope sSilent) := ⟨rfl, rfl, rfl, by decide +kernel, rfl, by decide +kernel, by decide +kernel, by decide +kernel, by decide +kernel⟩
abbrev ESilent (P : Program) (w : World) (K : PySem.W.Frag) (mg : Str → Option Value) (base : Heap) (C : Addr) : Prop := Er1 P w K mg base 1 "Silent" C "voice" Txt liN liN
theorem er_Silent (E : ExAt P K C "Silent" "Silent.__init__" "voice" sSilent) (X : K.In h) (G : h.Ns mainGlobals mg) : ESilent P w K mg base C := by
  obtain ⟨f, cc, cda, fd, a, ty, T⟩ := E.ex
  have T := T mg (PySem.W.mg_none_of X G E.su)
  refine ⟨PySem.W.mg_of X G E.nm, E.O, f, fd, "self", "voice", a, ty, ?_, ?_⟩
  · refine ok_excI (nf := ⟨"__init__", "Silent.__init__", defArgs sSilent, defBody sSilent, defScope sSilent, [("__class__", cc)], cda⟩) rfl T E.O E.no sc_Silent (by decide +kernel) rfl rfl rfl (fun _ => rfl) (fun _ => rfl) (fun _ => ⟨_, rfl⟩) (fun _ => rfl) (fun _ => rfl) rfl rfl ?_ ?_
    · intro i a A outer s H E hi hr
      refine ea_fsL (l := [i]) hr (ea_l (ea_var 1 rfl)) (fun y hy => ?_) ?_ (by decide)
      · rw [List.mem_singleton.mp hy]
        exact hi.1
      · simp only [fmtCost_cons]
        have : fmtCost [] = 0 := rfl
        have := hi.2
        omega
    · intro i a A outer s H E hi hr
      exact ea_is (en_a (en_slL (i := none) (j := none) (ea_l (ea_var 1 rfl)) eo_none eo_none)) rfl
  · obtain ⟨oc, od, kV, doc, pm, an, ct, osl, rfl, lk⟩ := T.lk
    intro s us I hl
    match us, hl with
    | [_, _], _ => exact .of_eq rfl
end
end Kv

set_option Elab.async false
set_option linter.all false
set_option maxRecDepth 100000
set_option maxHeartbeats 4000000
namespace Kv
open PySem PySem.Calls L2 Lk NdefX
/-! ### the fourteen classes, and _law_bare -/
def nm14 (i : Fin 14) : Str := (["BadName", "Twice", "UnknownNote", "UnknownPair", "BadRule", "BadLine", "BadPlace", "BadAhead", "Silent", "TooMany", "SizeMismatch", "BadWindow", "NoAnswer", "NoMove"] : List Str).getD i.val ""
structure E14 (K : PySem.W.Frag) (mg : Str → Option Value) (T : Fin 14 → Addr) (CV : Addr) : Prop where
  C : ∀ d, ExcC K (T d)
  nm : ∀ d, mg (nm14 d) = some (.ref (T d))
  ex : ∀ d, PySem.W.exmOne K (.ref (T d)) (.ref CV) = some true
  kk : ∀ d i, PySem.W.kitOne K (.ref (T d)) (.ref (T i)) = some (decide (i = d))
  kE : ∀ d, PySem.W.kitOne K (.ref (T d)) (.type "ValueError") = some true
  gV : mg "VoiceError" = some (.ref CV)
  mE : mg "ValueError" = none
  mI : mg "isinstance" = none
  mR : mg "range" = none
theorem bo_ve : bootBuiltins ("ValueError" : Str) = some (.type "ValueError") := by decide +kernel
section
variable {P : Program} {w : World} {K : PySem.W.Frag} {mg : Str → Option Value} {base h : Heap} {T : Fin 14 → Addr} {CV : Addr}
abbrev sBare : Stmt := (topS 21)
abbrev nBare : List Str := ["_law_k", "e", "_law_kinds", "_law_j"]
theorem sc_bare : FnScope nBare ["_law_k"] (defScope sBare) := ⟨rfl, rfl, rfl, by decide +kernel, rfl, by decide +kernel, by decide +kernel⟩
abbrev spBare : Sp := spX (fun _ : Fin 5 => True) (fun d => [int (9 + d.val : Nat)]) (fun _ => bl true)
def bare (d : Fin 5) : Fin 14 := ⟨9 + d.val, by omega⟩
theorem kk5 (d : Fin 5) (j : Fin 5) : bl (decide (bare j = bare d)) = bl (decide (d.val = j.val)) := by
  congr 1
  revert d j
  decide
theorem t0N {X : Cx} : L2N.Takes X (fun _ _ _ _ => False) := fun _ _ x => by
  unfold L2N.XE at x
  rcases x with x
  obtain ⟨_, _, _, _, _, _, _, _, _, _, _, _, _, _, _, _, w⟩ := x
  exact w.elim
def bs5 (d : Fin 5) : List Bool := (List.range 5).map fun i => decide (d.val = i)
theorem bs5_eq (d : Fin 5) : lstA ((List.range 5).map fun i : Nat => bl (decide ((i : Int) = ((9 + d.val : Nat) : Int) - 9))) = lstA ((bs5 d).map bl) := by
  unfold bs5
  rw [List.map_map]
  congr 1
  refine List.map_congr_left fun i _ => ?_
  show bl _ = bl (decide (d.val = i))
  congr 1
  rw [decide_eq_decide]
  omega
theorem kf (d : Fin 5) (i : Fin 14) (h : i.val < 9) : bl (decide (i = bare d)) = bl false := by
  congr 1
  revert d i
  decide
theorem d0 {F : Hp} : dctP [] none F := rfl
theorem ok_bare {f : Addr} {fd : FuncData} (F : Fun K "_law_bare" "_law_bare" sBare f fd) (U : E14 K mg T CV) (Z : ∀ d : Fin 5, Er0 K mg (nm14 (bare d)) (T (bare d))) : FnOk P w K mg base CX0 2 f fd ["_law_k"] spBare := by
  refine fn_ok F sc_bare (fun _ _ => rfl) fun d cdv B0 outer s H E hp hr => ?_
  have nd := sc_bare.nd
  refine ba_one (sa_try_asN (C := T (bare d)) (fs := []) 1 rfl rfl nd rfl rfl ⟨rfl, rfl, .inl U.gV⟩ t0N (U.ex _) (fun wx pn xe tk po => ?hb) (fun a oe d' pn hzc hf hot => ?hs))
  case hb =>
    match d with
    | ⟨0, _⟩ => exact ba_cons (sa_if (k := true) (et_cm (ea_w (ea_var 0 rfl)) (ea_w ea_int) cm_eqI rfl) (fun _ => ba_one (sa_raise0N (Z 0) rfl tk fun F => ⟨rfl, rfl, d0⟩)) (fun z => by cases z))
    | ⟨1, _⟩ =>
      refine ba_cons (sa_if (k := false) (et_cm (ea_w (ea_var 0 rfl)) (ea_w ea_int) cm_eqI rfl) (fun z => by cases z) (fun _ => ba_nil ?_))
      exact ba_cons (sa_if (k := true) (et_cm (ea_w (ea_var 0 rfl)) (ea_w ea_int) cm_eqI rfl) (fun _ => ba_one (sa_raise0N (Z 1) rfl tk fun F => ⟨rfl, rfl, d0⟩)) (fun z => by cases z))
    | ⟨2, _⟩ =>
      refine ba_cons (sa_if (k := false) (et_cm (ea_w (ea_var 0 rfl)) (ea_w ea_int) cm_eqI rfl) (fun z => by cases z) (fun _ => ba_nil ?_))
      refine ba_cons (sa_if (k := false) (et_cm (ea_w (ea_var 0 rfl)) (ea_w ea_int) cm_eqI rfl) (fun z => by cases z) (fun _ => ba_nil ?_))
      exact ba_cons (sa_if (k := true) (et_cm (ea_w (ea_var 0 rfl)) (ea_w ea_int) cm_eqI rfl) (fun _ => ba_one (sa_raise0N (Z 2) rfl tk fun F => ⟨rfl, rfl, d0⟩)) (fun z => by cases z))
    | ⟨3, _⟩ =>
      refine ba_cons (sa_if (k := false) (et_cm (ea_w (ea_var 0 rfl)) (ea_w ea_int) cm_eqI rfl) (fun z => by cases z) (fun _ => ba_nil ?_))
      refine ba_cons (sa_if (k := false) (et_cm (ea_w (ea_var 0 rfl)) (ea_w ea_int) cm_eqI rfl) (fun z => by cases z) (fun _ => ba_nil ?_))
      refine ba_cons (sa_if (k := false) (et_cm (ea_w (ea_var 0 rfl)) (ea_w ea_int) cm_eqI rfl) (fun z => by cases z) (fun _ => ba_nil ?_))
      exact ba_cons (sa_if (k := true) (et_cm (ea_w (ea_var 0 rfl)) (ea_w ea_int) cm_eqI rfl) (fun _ => ba_one (sa_raise0N (Z 3) rfl tk fun F => ⟨rfl, rfl, d0⟩)) (fun z => by cases z))
    | ⟨4, _⟩ =>
      refine ba_cons (sa_if (k := false) (et_cm (ea_w (ea_var 0 rfl)) (ea_w ea_int) cm_eqI rfl) (fun z => by cases z) (fun _ => ba_nil ?_))
      refine ba_cons (sa_if (k := false) (et_cm (ea_w (ea_var 0 rfl)) (ea_w ea_int) cm_eqI rfl) (fun z => by cases z) (fun _ => ba_nil ?_))
      refine ba_cons (sa_if (k := false) (et_cm (ea_w (ea_var 0 rfl)) (ea_w ea_int) cm_eqI rfl) (fun z => by cases z) (fun _ => ba_nil ?_))
      refine ba_cons (sa_if (k := false) (et_cm (ea_w (ea_var 0 rfl)) (ea_w ea_int) cm_eqI rfl) (fun z => by cases z) (fun _ => ba_nil ?_))
      exact ba_one (sa_raise0N (Z 4) rfl tk fun F => ⟨rfl, rfl, d0⟩)
  case hs =>
    refine ba_cons (sa_setN 2 nd (l := [bl (decide (d.val = 0)), bl (decide (d.val = 1)), bl (decide (d.val = 2))]) (en_lst (eas_cons (ea_is (ea_isXo (U.C _) hzc hf (ea_var 1 rfl) (U.nm 9) (U.kk _ 9) U.mI) (kk5 d 0)) (eas_cons (ea_is (ea_isXo (U.C _) hzc hf (ea_var 1 rfl) (U.nm 10) (U.kk _ 10) U.mI) (kk5 d 1)) (eas_cons (ea_is (ea_isXo (U.C _) hzc hf (ea_var 1 rfl) (U.nm 11) (U.kk _ 11) U.mI) (kk5 d 2)) eas_nil))) (by show 3 ≤ sizeLine; decide)) ?_)
    refine ba_cons (sa_setN 2 nd (l := [bl (decide (d.val = 0)), bl (decide (d.val = 1)), bl (decide (d.val = 2))] ++ [bl (decide (d.val = 3)), bl (decide (d.val = 4))]) (en_cat (el_var 2 rfl) (en_l (en_lst (eas_cons (ea_is (ea_isXo (U.C _) hzc hf (ea_var 1 rfl) (U.nm 12) (U.kk _ 12) U.mI) (kk5 d 3)) (eas_cons (ea_is (ea_isXo (U.C _) hzc hf (ea_var 1 rfl) (U.nm 13) (U.kk _ 13) U.mI) (kk5 d 4)) eas_nil)) (by show 2 ≤ sizeLine; decide))) (by show 5 ≤ sizeLine; decide)) ?_)
    refine ba_cons (sa_if (k := false) (et_w (ewt_or (j := false) (k := false) (et_is (et_cm (el_w (el_is (m := (bs5 d).map bl) (el_var 2 rfl) rfl)) (ea_w (ea_is (en_a (en_lcH (own := [("_law_j", 3)]) (j := 3) (n := 5) (g := fun i : Nat => bl (decide ((i : Int) = ((9 + d.val : Nat) : Int) - 9))) hot nd (by decide) U.mR (blkOk_by (N := nBare) (sc := defScope sBare) (by decide +kernel)) (by decide) (fun _ _ _ _ _ => pg_name nd rfl (Or.inl rfl)) (fun _ _ _ _ _ i hi => ea_cm (ea_w (ea_var 3 rfl)) (ea_w (ea_sub (ea_w (ea_var 0 rfl)) (ea_w ea_int))) cm_eqI rfl))) (bs5_eq d))) (cm_neH (f := fun l : List Bool => lstA (l.map bl)) (a := bs5 d) (b := bs5 d) (i := inferInstance) (roomA_mark (L2H.roomH_of hr)) (enc_lst enc_bl) (fun _ _ => trivial) (fun _ _ => trivial)) rfl) (by simp)) fun _ => ewt_or1 (et_is (et_not (et_v (ea_w (ea_isXb (U.C _) hzc hf (ea_var 1 rfl) U.mE bo_ve (U.kE _) U.mI)))) rfl))) (fun z => by cases z) (fun _ => ba_nil ?_))
    refine ba_cons (sa_setN 2 nd (l := [bl false, bl false, bl false]) (en_lst (eas_cons (ea_is (ea_isXo (U.C _) hzc hf (ea_var 1 rfl) (U.nm 0) (U.kk _ 0) U.mI) (kf d 0 (by decide))) (eas_cons (ea_is (ea_isXo (U.C _) hzc hf (ea_var 1 rfl) (U.nm 1) (U.kk _ 1) U.mI) (kf d 1 (by decide))) (eas_cons (ea_is (ea_isXo (U.C _) hzc hf (ea_var 1 rfl) (U.nm 2) (U.kk _ 2) U.mI) (kf d 2 (by decide))) eas_nil))) (by show 3 ≤ sizeLine; decide)) ?_)
    refine ba_cons (sa_setN 2 nd (l := [bl false, bl false, bl false] ++ [bl false, bl false, bl false]) (en_cat (el_var 2 rfl) (en_l (en_lst (eas_cons (ea_is (ea_isXo (U.C _) hzc hf (ea_var 1 rfl) (U.nm 3) (U.kk _ 3) U.mI) (kf d 3 (by decide))) (eas_cons (ea_is (ea_isXo (U.C _) hzc hf (ea_var 1 rfl) (U.nm 4) (U.kk _ 4) U.mI) (kf d 4 (by decide))) (eas_cons (ea_is (ea_isXo (U.C _) hzc hf (ea_var 1 rfl) (U.nm 5) (U.kk _ 5) U.mI) (kf d 5 (by decide))) eas_nil))) (by show 3 ≤ sizeLine; decide))) (by show 6 ≤ sizeLine; decide)) ?_)
    refine ba_cons (sa_setN 2 nd (l := ([bl false, bl false, bl false] ++ [bl false, bl false, bl false]) ++ [bl false, bl false, bl false]) (en_cat (el_var 2 rfl) (en_l (en_lst (eas_cons (ea_is (ea_isXo (U.C _) hzc hf (ea_var 1 rfl) (U.nm 6) (U.kk _ 6) U.mI) (kf d 6 (by decide))) (eas_cons (ea_is (ea_isXo (U.C _) hzc hf (ea_var 1 rfl) (U.nm 7) (U.kk _ 7) U.mI) (kf d 7 (by decide))) (eas_cons (ea_is (ea_isXo (U.C _) hzc hf (ea_var 1 rfl) (U.nm 8) (U.kk _ 8) U.mI) (kf d 8 (by decide))) eas_nil))) (by show 3 ≤ sizeLine; decide))) (by show 9 ≤ sizeLine; decide)) ?_)
    exact ba_one (sa_ret (ea_is (ea_cm (ea_w ea_bl) (el_w (el_is (m := (List.replicate 9 false).map bl) (el_var 2 rfl) rfl)) (cm_notinH (a := true) (i := inferInstance) (roomA_mark (L2H.roomH_of hr)) enc_bl trivial (fun _ _ => trivial)) rfl) (by simp)))
end
end Kv

set_option Elab.async false
set_option linter.all false
set_option maxRecDepth 100000
set_option maxHeartbeats 4000000
namespace Kv
open PySem PySem.Calls L2 Lk NdefX
/-! ### _law_raised -/
def fl14 (d : Fin 14) : Str := (["name", "name", "note", "pair", "rule", "number", "place", "ahead"] : List Str).getD d.val "voice"
def va14 (d : Fin 14) (s : Str) (z : Int) : As := ([str s, str s, str s, prN s, ruN s, int z, int z, int z] : List As).getD d.val (liN s)
abbrev I14 : Type := Fin 14 × Str × Int
abbrev pre14 (i : I14) : Prop := Txt i.2.1 ∧ okS i.2.1 ∧ SmI i.2.2
structure E9 (P : Program) (w : World) (K : PySem.W.Frag) (mg : Str → Option Value) (base : Heap) (T : Fin 14 → Addr) : Prop where
  no : ∀ d, PySem.W.findIn K (.ref (T d)) (fl14 d) = some none
  e0 : EBadName P w K mg base (T 0)
  e1 : ETwice P w K mg base (T 1)
  e2 : EUnknownNote P w K mg base (T 2)
  e3 : EUnknownPair P w K mg base (T 3)
  e4 : EBadRule P w K mg base (T 4)
  e5 : EBadLine P w K mg base (T 5)
  e6 : EBadPlace P w K mg base (T 6)
  e7 : EBadAhead P w K mg base (T 7)
  e8 : ESilent P w K mg base (T 8)
section
variable {P : Program} {w : World} {K : PySem.W.Frag} {mg : Str → Option Value} {base h : Heap} {T : Fin 14 → Addr} {CV : Addr}
abbrev sRai : Stmt := (topS 20)
abbrev nRai : List Str := ["_law_k", "_law_name", "_law_number", "e", "_law_kinds", "_law_j"]
theorem sc_rai : FnScope nRai ["_law_k", "_law_name", "_law_number"] (defScope sRai) := ⟨rfl, rfl, rfl, by decide +kernel, rfl, by decide +kernel, by decide +kernel⟩
abbrev spRai : Sp := spX pre14 (fun i => [int (i.1.val : Nat), str i.2.1, int i.2.2]) (fun _ => bl true)
def bs14 (d : Fin 14) : List Bool := (List.range 14).map fun i => decide (d.val = i)
theorem bs14_eq (d : Fin 14) : lstA ((List.range 14).map fun i : Nat => bl (decide ((i : Int) = ((d.val : Nat) : Int)))) = lstA ((bs14 d).map bl) := by
  unfold bs14
  rw [List.map_map]
  congr 1
  refine List.map_congr_left fun i _ => ?_
  show bl _ = bl (decide (d.val = i))
  congr 1
  rw [decide_eq_decide]
  omega
theorem k14 (d i : Fin 14) : bl (decide (i = d)) = bl (decide (d.val = i.val)) := by
  congr 1
  revert d i
  decide
theorem ok_rai {f : Addr} {fd : FuncData} (F : Fun K "_law_raised" "_law_raised" sRai f fd) (U : E14 K mg T CV) (V : E9 P w K mg base T) (DB : Df P w K mg base 2 "_law_bare" ["_law_k"] spBare) : FnOk P w K mg base CX0 3 f fd ["_law_k", "_law_name", "_law_number"] spRai := by
  refine fn_ok F sc_rai (fun _ _ => rfl) fun i cdv B0 outer s H E hp hr => ?_
  have nd := sc_rai.nd
  obtain ⟨d, n, z⟩ := i
  obtain ⟨hT, hO, hS⟩ : Txt n ∧ okS n ∧ SmI z := hp
  refine ba_one (sa_try_asN (C := T d) (fs := [(fl14 d, va14 d n z)]) 3 rfl rfl nd rfl rfl ⟨rfl, rfl, .inl U.gV⟩ t0N (U.ex _) (fun wx pn xe tk po => ?hb) (fun a oe d' pn hzc hf hot => ?hs))
  case hb =>
    match d with
    | ⟨0, _⟩ =>
      exact ba_cons (sa_if (k := true) (et_cm (ea_w (ea_var 0 rfl)) (ea_w ea_int) cm_eqI rfl) (fun _ => ba_one (sa_raise1N V.e0 rfl (hr.mono (show 2 ≤ 2 by decide)) tk n hT (ea_var 1 rfl) fun F cls d he => ⟨rfl, he⟩)) (fun z => by cases z))
    | ⟨1, _⟩ =>
      refine ba_cons (sa_if (k := false) (et_cm (ea_w (ea_var 0 rfl)) (ea_w ea_int) cm_eqI rfl) (fun z => by cases z) (fun _ => ba_nil ?_))
      exact ba_cons (sa_if (k := true) (et_cm (ea_w (ea_var 0 rfl)) (ea_w ea_int) cm_eqI rfl) (fun _ => ba_one (sa_raise1N V.e1 rfl (hr.mono (show 2 ≤ 2 by decide)) tk n hT (ea_var 1 rfl) fun F cls d he => ⟨rfl, he⟩)) (fun z => by cases z))
    | ⟨2, _⟩ =>
      refine ba_cons (sa_if (k := false) (et_cm (ea_w (ea_var 0 rfl)) (ea_w ea_int) cm_eqI rfl) (fun z => by cases z) (fun _ => ba_nil ?_))
      refine ba_cons (sa_if (k := false) (et_cm (ea_w (ea_var 0 rfl)) (ea_w ea_int) cm_eqI rfl) (fun z => by cases z) (fun _ => ba_nil ?_))
      exact ba_cons (sa_if (k := true) (et_cm (ea_w (ea_var 0 rfl)) (ea_w ea_int) cm_eqI rfl) (fun _ => ba_one (sa_raise1N V.e2 rfl (hr.mono (show 2 ≤ 2 by decide)) tk n hT (ea_var 1 rfl) fun F cls d he => ⟨rfl, he⟩)) (fun z => by cases z))
    | ⟨3, _⟩ =>
      refine ba_cons (sa_if (k := false) (et_cm (ea_w (ea_var 0 rfl)) (ea_w ea_int) cm_eqI rfl) (fun z => by cases z) (fun _ => ba_nil ?_))
      refine ba_cons (sa_if (k := false) (et_cm (ea_w (ea_var 0 rfl)) (ea_w ea_int) cm_eqI rfl) (fun z => by cases z) (fun _ => ba_nil ?_))
      refine ba_cons (sa_if (k := false) (et_cm (ea_w (ea_var 0 rfl)) (ea_w ea_int) cm_eqI rfl) (fun z => by cases z) (fun _ => ba_nil ?_))
      exact ba_cons (sa_if (k := true) (et_cm (ea_w (ea_var 0 rfl)) (ea_w ea_int) cm_eqI rfl) (fun _ => ba_one (sa_raise1N V.e3 rfl (hr.mono (show 2 ≤ 2 by decide)) tk n hT (ea_tup (l := [str n, str n]) (eas_cons (ea_var 1 rfl) (eas_cons (ea_var 1 rfl) eas_nil)) (by show 2 ≤ sizeLine; decide)) fun F cls d he => ⟨rfl, he⟩)) (fun z => by cases z))
    | ⟨4, _⟩ =>
      refine ba_cons (sa_if (k := false) (et_cm (ea_w (ea_var 0 rfl)) (ea_w ea_int) cm_eqI rfl) (fun z => by cases z) (fun _ => ba_nil ?_))
      refine ba_cons (sa_if (k := false) (et_cm (ea_w (ea_var 0 rfl)) (ea_w ea_int) cm_eqI rfl) (fun z => by cases z) (fun _ => ba_nil ?_))
      refine ba_cons (sa_if (k := false) (et_cm (ea_w (ea_var 0 rfl)) (ea_w ea_int) cm_eqI rfl) (fun z => by cases z) (fun _ => ba_nil ?_))
      refine ba_cons (sa_if (k := false) (et_cm (ea_w (ea_var 0 rfl)) (ea_w ea_int) cm_eqI rfl) (fun z => by cases z) (fun _ => ba_nil ?_))
      exact ba_cons (sa_if (k := true) (et_cm (ea_w (ea_var 0 rfl)) (ea_w ea_int) cm_eqI rfl) (fun _ => ba_one (sa_raise1N V.e4 rfl (hr.mono (show 2 ≤ 2 by decide)) tk n hT (ea_tup (l := [str "open", str n, str n]) (eas_cons ea_str (eas_cons (ea_var 1 rfl) (eas_cons (ea_var 1 rfl) eas_nil))) (by show 3 ≤ sizeLine; decide)) fun F cls d he => ⟨rfl, he⟩)) (fun z => by cases z))
    | ⟨5, _⟩ =>
      refine ba_cons (sa_if (k := false) (et_cm (ea_w (ea_var 0 rfl)) (ea_w ea_int) cm_eqI rfl) (fun z => by cases z) (fun _ => ba_nil ?_))
      refine ba_cons (sa_if (k := false) (et_cm (ea_w (ea_var 0 rfl)) (ea_w ea_int) cm_eqI rfl) (fun z => by cases z) (fun _ => ba_nil ?_))
      refine ba_cons (sa_if (k := false) (et_cm (ea_w (ea_var 0 rfl)) (ea_w ea_int) cm_eqI rfl) (fun z => by cases z) (fun _ => ba_nil ?_))
      refine ba_cons (sa_if (k := false) (et_cm (ea_w (ea_var 0 rfl)) (ea_w ea_int) cm_eqI rfl) (fun z => by cases z) (fun _ => ba_nil ?_))
      refine ba_cons (sa_if (k := false) (et_cm (ea_w (ea_var 0 rfl)) (ea_w ea_int) cm_eqI rfl) (fun z => by cases z) (fun _ => ba_nil ?_))
      exact ba_cons (sa_if (k := true) (et_cm (ea_w (ea_var 0 rfl)) (ea_w ea_int) cm_eqI rfl) (fun _ => ba_one (sa_raise1N V.e5 rfl (hr.mono (show 2 ≤ 2 by decide)) tk z hS (ea_var 2 rfl) fun F cls d he => ⟨rfl, he⟩)) (fun z => by cases z))
    | ⟨6, _⟩ =>
      refine ba_cons (sa_if (k := false) (et_cm (ea_w (ea_var 0 rfl)) (ea_w ea_int) cm_eqI rfl) (fun z => by cases z) (fun _ => ba_nil ?_))
      refine ba_cons (sa_if (k := false) (et_cm (ea_w (ea_var 0 rfl)) (ea_w ea_int) cm_eqI rfl) (fun z => by cases z) (fun _ => ba_nil ?_))
      refine ba_cons (sa_if (k := false) (et_cm (ea_w (ea_var 0 rfl)) (ea_w ea_int) cm_eqI rfl) (fun z => by cases z) (fun _ => ba_nil ?_))
      refine ba_cons (sa_if (k := false) (et_cm (ea_w (ea_var 0 rfl)) (ea_w ea_int) cm_eqI rfl) (fun z => by cases z) (fun _ => ba_nil ?_))
      refine ba_cons (sa_if (k := false) (et_cm (ea_w (ea_var 0 rfl)) (ea_w ea_int) cm_eqI rfl) (fun z => by cases z) (fun _ => ba_nil ?_))
      refine ba_cons (sa_if (k := false) (et_cm (ea_w (ea_var 0 rfl)) (ea_w ea_int) cm_eqI rfl) (fun z => by cases z) (fun _ => ba_nil ?_))
      exact ba_cons (sa_if (k := true) (et_cm (ea_w (ea_var 0 rfl)) (ea_w ea_int) cm_eqI rfl) (fun _ => ba_one (sa_raise1N V.e6 rfl (hr.mono (show 2 ≤ 2 by decide)) tk z hS (ea_var 2 rfl) fun F cls d he => ⟨rfl, he⟩)) (fun z => by cases z))
    | ⟨7, _⟩ =>
      refine ba_cons (sa_if (k := false) (et_cm (ea_w (ea_var 0 rfl)) (ea_w ea_int) cm_eqI rfl) (fun z => by cases z) (fun _ => ba_nil ?_))
      refine ba_cons (sa_if (k := false) (et_cm (ea_w (ea_var 0 rfl)) (ea_w ea_int) cm_eqI rfl) (fun z => by cases z) (fun _ => ba_nil ?_))
      refine ba_cons (sa_if (k := false) (et_cm (ea_w (ea_var 0 rfl)) (ea_w ea_int) cm_eqI rfl) (fun z => by cases z) (fun _ => ba_nil ?_))
      refine ba_cons (sa_if (k := false) (et_cm (ea_w (ea_var 0 rfl)) (ea_w ea_int) cm_eqI rfl) (fun z => by cases z) (fun _ => ba_nil ?_))
      refine ba_cons (sa_if (k := false) (et_cm (ea_w (ea_var 0 rfl)) (ea_w ea_int) cm_eqI rfl) (fun z => by cases z) (fun _ => ba_nil ?_))
      refine ba_cons (sa_if (k := false) (et_cm (ea_w (ea_var 0 rfl)) (ea_w ea_int) cm_eqI rfl) (fun z => by cases z) (fun _ => ba_nil ?_))
      refine ba_cons (sa_if (k := false) (et_cm (ea_w (ea_var 0 rfl)) (ea_w ea_int) cm_eqI rfl) (fun z => by cases z) (fun _ => ba_nil ?_))
      exact ba_cons (sa_if (k := true) (et_cm (ea_w (ea_var 0 rfl)) (ea_w ea_int) cm_eqI rfl) (fun _ => ba_one (sa_raise1N V.e7 rfl (hr.mono (show 2 ≤ 2 by decide)) tk z hS (ea_var 2 rfl) fun F cls d he => ⟨rfl, he⟩)) (fun z => by cases z))
    | ⟨8, _⟩ =>
      refine ba_cons (sa_if (k := false) (et_cm (ea_w (ea_var 0 rfl)) (ea_w ea_int) cm_eqI rfl) (fun z => by cases z) (fun _ => ba_nil ?_))
      refine ba_cons (sa_if (k := false) (et_cm (ea_w (ea_var 0 rfl)) (ea_w ea_int) cm_eqI rfl) (fun z => by cases z) (fun _ => ba_nil ?_))
      refine ba_cons (sa_if (k := false) (et_cm (ea_w (ea_var 0 rfl)) (ea_w ea_int) cm_eqI rfl) (fun z => by cases z) (fun _ => ba_nil ?_))
      refine ba_cons (sa_if (k := false) (et_cm (ea_w (ea_var 0 rfl)) (ea_w ea_int) cm_eqI rfl) (fun z => by cases z) (fun _ => ba_nil ?_))
      refine ba_cons (sa_if (k := false) (et_cm (ea_w (ea_var 0 rfl)) (ea_w ea_int) cm_eqI rfl) (fun z => by cases z) (fun _ => ba_nil ?_))
      refine ba_cons (sa_if (k := false) (et_cm (ea_w (ea_var 0 rfl)) (ea_w ea_int) cm_eqI rfl) (fun z => by cases z) (fun _ => ba_nil ?_))
      refine ba_cons (sa_if (k := false) (et_cm (ea_w (ea_var 0 rfl)) (ea_w ea_int) cm_eqI rfl) (fun z => by cases z) (fun _ => ba_nil ?_))
      refine ba_cons (sa_if (k := false) (et_cm (ea_w (ea_var 0 rfl)) (ea_w ea_int) cm_eqI rfl) (fun z => by cases z) (fun _ => ba_nil ?_))
      exact ba_cons (sa_if (k := true) (et_cm (ea_w (ea_var 0 rfl)) (ea_w ea_int) cm_eqI rfl) (fun _ => ba_one (sa_raise1N V.e8 rfl (hr.mono (show 2 ≤ 2 by decide)) tk n hT (en_a (en_lst (l := [str n]) (eas_cons (ea_var 1 rfl) eas_nil) (by show 1 ≤ sizeLine; decide))) fun F cls d he => ⟨rfl, he⟩)) (fun z => by cases z))
    | ⟨9, _⟩ =>
      refine ba_cons (sa_if (k := false) (et_cm (ea_w (ea_var 0 rfl)) (ea_w ea_int) cm_eqI rfl) (fun z => by cases z) (fun _ => ba_nil ?_))
      refine ba_cons (sa_if (k := false) (et_cm (ea_w (ea_var 0 rfl)) (ea_w ea_int) cm_eqI rfl) (fun z => by cases z) (fun _ => ba_nil ?_))
      refine ba_cons (sa_if (k := false) (et_cm (ea_w (ea_var 0 rfl)) (ea_w ea_int) cm_eqI rfl) (fun z => by cases z) (fun _ => ba_nil ?_))
      refine ba_cons (sa_if (k := false) (et_cm (ea_w (ea_var 0 rfl)) (ea_w ea_int) cm_eqI rfl) (fun z => by cases z) (fun _ => ba_nil ?_))
      refine ba_cons (sa_if (k := false) (et_cm (ea_w (ea_var 0 rfl)) (ea_w ea_int) cm_eqI rfl) (fun z => by cases z) (fun _ => ba_nil ?_))
      refine ba_cons (sa_if (k := false) (et_cm (ea_w (ea_var 0 rfl)) (ea_w ea_int) cm_eqI rfl) (fun z => by cases z) (fun _ => ba_nil ?_))
      refine ba_cons (sa_if (k := false) (et_cm (ea_w (ea_var 0 rfl)) (ea_w ea_int) cm_eqI rfl) (fun z => by cases z) (fun _ => ba_nil ?_))
      refine ba_cons (sa_if (k := false) (et_cm (ea_w (ea_var 0 rfl)) (ea_w ea_int) cm_eqI rfl) (fun z => by cases z) (fun _ => ba_nil ?_))
      refine ba_cons (sa_if (k := false) (et_cm (ea_w (ea_var 0 rfl)) (ea_w ea_int) cm_eqI rfl) (fun z => by cases z) (fun _ => ba_nil ?_))
      exact ba_one (sa_ret (ea_callB DB hr (⟨0, by decide⟩ : Fin 5) trivial rfl (eas_cons (ea_var 0 rfl) eas_nil) rfl))
    | ⟨10, _⟩ =>
      refine ba_cons (sa_if (k := false) (et_cm (ea_w (ea_var 0 rfl)) (ea_w ea_int) cm_eqI rfl) (fun z => by cases z) (fun _ => ba_nil ?_))
      refine ba_cons (sa_if (k := false) (et_cm (ea_w (ea_var 0 rfl)) (ea_w ea_int) cm_eqI rfl) (fun z => by cases z) (fun _ => ba_nil ?_))
      refine ba_cons (sa_if (k := false) (et_cm (ea_w (ea_var 0 rfl)) (ea_w ea_int) cm_eqI rfl) (fun z => by cases z) (fun _ => ba_nil ?_))
      refine ba_cons (sa_if (k := false) (et_cm (ea_w (ea_var 0 rfl)) (ea_w ea_int) cm_eqI rfl) (fun z => by cases z) (fun _ => ba_nil ?_))
      refine ba_cons (sa_if (k := false) (et_cm (ea_w (ea_var 0 rfl)) (ea_w ea_int) cm_eqI rfl) (fun z => by cases z) (fun _ => ba_nil ?_))
      refine ba_cons (sa_if (k := false) (et_cm (ea_w (ea_var 0 rfl)) (ea_w ea_int) cm_eqI rfl) (fun z => by cases z) (fun _ => ba_nil ?_))
      refine ba_cons (sa_if (k := false) (et_cm (ea_w (ea_var 0 rfl)) (ea_w ea_int) cm_eqI rfl) (fun z => by cases z) (fun _ => ba_nil ?_))
      refine ba_cons (sa_if (k := false) (et_cm (ea_w (ea_var 0 rfl)) (ea_w ea_int) cm_eqI rfl) (fun z => by cases z) (fun _ => ba_nil ?_))
      refine ba_cons (sa_if (k := false) (et_cm (ea_w (ea_var 0 rfl)) (ea_w ea_int) cm_eqI rfl) (fun z => by cases z) (fun _ => ba_nil ?_))
      exact ba_one (sa_ret (ea_callB DB hr (⟨1, by decide⟩ : Fin 5) trivial rfl (eas_cons (ea_var 0 rfl) eas_nil) rfl))
    | ⟨11, _⟩ =>
      refine ba_cons (sa_if (k := false) (et_cm (ea_w (ea_var 0 rfl)) (ea_w ea_int) cm_eqI rfl) (fun z => by cases z) (fun _ => ba_nil ?_))
      refine ba_cons (sa_if (k := false) (et_cm (ea_w (ea_var 0 rfl)) (ea_w ea_int) cm_eqI rfl) (fun z => by cases z) (fun _ => ba_nil ?_))
      refine ba_cons (sa_if (k := false) (et_cm (ea_w (ea_var 0 rfl)) (ea_w ea_int) cm_eqI rfl) (fun z => by cases z) (fun _ => ba_nil ?_))
      refine ba_cons (sa_if (k := false) (et_cm (ea_w (ea_var 0 rfl)) (ea_w ea_int) cm_eqI rfl) (fun z => by cases z) (fun _ => ba_nil ?_))
      refine ba_cons (sa_if (k := false) (et_cm (ea_w (ea_var 0 rfl)) (ea_w ea_int) cm_eqI rfl) (fun z => by cases z) (fun _ => ba_nil ?_))
      refine ba_cons (sa_if (k := false) (et_cm (ea_w (ea_var 0 rfl)) (ea_w ea_int) cm_eqI rfl) (fun z => by cases z) (fun _ => ba_nil ?_))
      refine ba_cons (sa_if (k := false) (et_cm (ea_w (ea_var 0 rfl)) (ea_w ea_int) cm_eqI rfl) (fun z => by cases z) (fun _ => ba_nil ?_))
      refine ba_cons (sa_if (k := false) (et_cm (ea_w (ea_var 0 rfl)) (ea_w ea_int) cm_eqI rfl) (fun z => by cases z) (fun _ => ba_nil ?_))
      refine ba_cons (sa_if (k := false) (et_cm (ea_w (ea_var 0 rfl)) (ea_w ea_int) cm_eqI rfl) (fun z => by cases z) (fun _ => ba_nil ?_))
      exact ba_one (sa_ret (ea_callB DB hr (⟨2, by decide⟩ : Fin 5) trivial rfl (eas_cons (ea_var 0 rfl) eas_nil) rfl))
    | ⟨12, _⟩ =>
      refine ba_cons (sa_if (k := false) (et_cm (ea_w (ea_var 0 rfl)) (ea_w ea_int) cm_eqI rfl) (fun z => by cases z) (fun _ => ba_nil ?_))
      refine ba_cons (sa_if (k := false) (et_cm (ea_w (ea_var 0 rfl)) (ea_w ea_int) cm_eqI rfl) (fun z => by cases z) (fun _ => ba_nil ?_))
      refine ba_cons (sa_if (k := false) (et_cm (ea_w (ea_var 0 rfl)) (ea_w ea_int) cm_eqI rfl) (fun z => by cases z) (fun _ => ba_nil ?_))
      refine ba_cons (sa_if (k := false) (et_cm (ea_w (ea_var 0 rfl)) (ea_w ea_int) cm_eqI rfl) (fun z => by cases z) (fun _ => ba_nil ?_))
      refine ba_cons (sa_if (k := false) (et_cm (ea_w (ea_var 0 rfl)) (ea_w ea_int) cm_eqI rfl) (fun z => by cases z) (fun _ => ba_nil ?_))
      refine ba_cons (sa_if (k := false) (et_cm (ea_w (ea_var 0 rfl)) (ea_w ea_int) cm_eqI rfl) (fun z => by cases z) (fun _ => ba_nil ?_))
      refine ba_cons (sa_if (k := false) (et_cm (ea_w (ea_var 0 rfl)) (ea_w ea_int) cm_eqI rfl) (fun z => by cases z) (fun _ => ba_nil ?_))
      refine ba_cons (sa_if (k := false) (et_cm (ea_w (ea_var 0 rfl)) (ea_w ea_int) cm_eqI rfl) (fun z => by cases z) (fun _ => ba_nil ?_))
      refine ba_cons (sa_if (k := false) (et_cm (ea_w (ea_var 0 rfl)) (ea_w ea_int) cm_eqI rfl) (fun z => by cases z) (fun _ => ba_nil ?_))
      exact ba_one (sa_ret (ea_callB DB hr (⟨3, by decide⟩ : Fin 5) trivial rfl (eas_cons (ea_var 0 rfl) eas_nil) rfl))
    | ⟨13, _⟩ =>
      refine ba_cons (sa_if (k := false) (et_cm (ea_w (ea_var 0 rfl)) (ea_w ea_int) cm_eqI rfl) (fun z => by cases z) (fun _ => ba_nil ?_))
      refine ba_cons (sa_if (k := false) (et_cm (ea_w (ea_var 0 rfl)) (ea_w ea_int) cm_eqI rfl) (fun z => by cases z) (fun _ => ba_nil ?_))
      refine ba_cons (sa_if (k := false) (et_cm (ea_w (ea_var 0 rfl)) (ea_w ea_int) cm_eqI rfl) (fun z => by cases z) (fun _ => ba_nil ?_))
      refine ba_cons (sa_if (k := false) (et_cm (ea_w (ea_var 0 rfl)) (ea_w ea_int) cm_eqI rfl) (fun z => by cases z) (fun _ => ba_nil ?_))
      refine ba_cons (sa_if (k := false) (et_cm (ea_w (ea_var 0 rfl)) (ea_w ea_int) cm_eqI rfl) (fun z => by cases z) (fun _ => ba_nil ?_))
      refine ba_cons (sa_if (k := false) (et_cm (ea_w (ea_var 0 rfl)) (ea_w ea_int) cm_eqI rfl) (fun z => by cases z) (fun _ => ba_nil ?_))
      refine ba_cons (sa_if (k := false) (et_cm (ea_w (ea_var 0 rfl)) (ea_w ea_int) cm_eqI rfl) (fun z => by cases z) (fun _ => ba_nil ?_))
      refine ba_cons (sa_if (k := false) (et_cm (ea_w (ea_var 0 rfl)) (ea_w ea_int) cm_eqI rfl) (fun z => by cases z) (fun _ => ba_nil ?_))
      refine ba_cons (sa_if (k := false) (et_cm (ea_w (ea_var 0 rfl)) (ea_w ea_int) cm_eqI rfl) (fun z => by cases z) (fun _ => ba_nil ?_))
      exact ba_one (sa_ret (ea_callB DB hr (⟨4, by decide⟩ : Fin 5) trivial rfl (eas_cons (ea_var 0 rfl) eas_nil) rfl))
  case hs =>
    refine ba_cons (sa_setN 4 nd (l := [bl (decide (d.val = 0)), bl (decide (d.val = 1)), bl (decide (d.val = 2))]) (en_lst (eas_cons (ea_is (ea_isXo (U.C _) hzc hf (ea_var 3 rfl) (U.nm 0) (U.kk _ 0) U.mI) (k14 d 0)) (eas_cons (ea_is (ea_isXo (U.C _) hzc hf (ea_var 3 rfl) (U.nm 1) (U.kk _ 1) U.mI) (k14 d 1)) (eas_cons (ea_is (ea_isXo (U.C _) hzc hf (ea_var 3 rfl) (U.nm 2) (U.kk _ 2) U.mI) (k14 d 2)) eas_nil))) (by show 3 ≤ sizeLine; decide)) ?_)
    refine ba_cons (sa_setN 4 nd (l := ([bl (decide (d.val = 0)), bl (decide (d.val = 1)), bl (decide (d.val = 2))] ++ [bl (decide (d.val = 3)), bl (decide (d.val = 4)), bl (decide (d.val = 5))])) (en_cat (el_var 4 rfl) (en_l (en_lst (eas_cons (ea_is (ea_isXo (U.C _) hzc hf (ea_var 3 rfl) (U.nm 3) (U.kk _ 3) U.mI) (k14 d 3)) (eas_cons (ea_is (ea_isXo (U.C _) hzc hf (ea_var 3 rfl) (U.nm 4) (U.kk _ 4) U.mI) (k14 d 4)) (eas_cons (ea_is (ea_isXo (U.C _) hzc hf (ea_var 3 rfl) (U.nm 5) (U.kk _ 5) U.mI) (k14 d 5)) eas_nil))) (by show 3 ≤ sizeLine; decide))) (by show 6 ≤ sizeLine; decide)) ?_)
    refine ba_cons (sa_setN 4 nd (l := (([bl (decide (d.val = 0)), bl (decide (d.val = 1)), bl (decide (d.val = 2))] ++ [bl (decide (d.val = 3)), bl (decide (d.val = 4)), bl (decide (d.val = 5))]) ++ [bl (decide (d.val = 6)), bl (decide (d.val = 7)), bl (decide (d.val = 8))])) (en_cat (el_var 4 rfl) (en_l (en_lst (eas_cons (ea_is (ea_isXo (U.C _) hzc hf (ea_var 3 rfl) (U.nm 6) (U.kk _ 6) U.mI) (k14 d 6)) (eas_cons (ea_is (ea_isXo (U.C _) hzc hf (ea_var 3 rfl) (U.nm 7) (U.kk _ 7) U.mI) (k14 d 7)) (eas_cons (ea_is (ea_isXo (U.C _) hzc hf (ea_var 3 rfl) (U.nm 8) (U.kk _ 8) U.mI) (k14 d 8)) eas_nil))) (by show 3 ≤ sizeLine; decide))) (by show 9 ≤ sizeLine; decide)) ?_)
    refine ba_cons (sa_setN 4 nd (l := ((([bl (decide (d.val = 0)), bl (decide (d.val = 1)), bl (decide (d.val = 2))] ++ [bl (decide (d.val = 3)), bl (decide (d.val = 4)), bl (decide (d.val = 5))]) ++ [bl (decide (d.val = 6)), bl (decide (d.val = 7)), bl (decide (d.val = 8))]) ++ [bl (decide (d.val = 9)), bl (decide (d.val = 10)), bl (decide (d.val = 11))])) (en_cat (el_var 4 rfl) (en_l (en_lst (eas_cons (ea_is (ea_isXo (U.C _) hzc hf (ea_var 3 rfl) (U.nm 9) (U.kk _ 9) U.mI) (k14 d 9)) (eas_cons (ea_is (ea_isXo (U.C _) hzc hf (ea_var 3 rfl) (U.nm 10) (U.kk _ 10) U.mI) (k14 d 10)) (eas_cons (ea_is (ea_isXo (U.C _) hzc hf (ea_var 3 rfl) (U.nm 11) (U.kk _ 11) U.mI) (k14 d 11)) eas_nil))) (by show 3 ≤ sizeLine; decide))) (by show 12 ≤ sizeLine; decide)) ?_)
    refine ba_cons (sa_setN 4 nd (l := (((([bl (decide (d.val = 0)), bl (decide (d.val = 1)), bl (decide (d.val = 2))] ++ [bl (decide (d.val = 3)), bl (decide (d.val = 4)), bl (decide (d.val = 5))]) ++ [bl (decide (d.val = 6)), bl (decide (d.val = 7)), bl (decide (d.val = 8))]) ++ [bl (decide (d.val = 9)), bl (decide (d.val = 10)), bl (decide (d.val = 11))]) ++ [bl (decide (d.val = 12)), bl (decide (d.val = 13))])) (en_cat (el_var 4 rfl) (en_l (en_lst (eas_cons (ea_is (ea_isXo (U.C _) hzc hf (ea_var 3 rfl) (U.nm 12) (U.kk _ 12) U.mI) (k14 d 12)) (eas_cons (ea_is (ea_isXo (U.C _) hzc hf (ea_var 3 rfl) (U.nm 13) (U.kk _ 13) U.mI) (k14 d 13)) eas_nil)) (by show 2 ≤ sizeLine; decide))) (by show 14 ≤ sizeLine; decide)) ?_)
    have hrh : L2H.RoomH 2 _ := roomA_mark (v := some (.ref a)) (L2H.roomH_of hr)
    refine ba_cons (sa_if (k := false) (et_w (ewt_or (j := false) (k := false) (et_is (et_cm (el_w (el_is (m := (bs14 d).map bl) (el_var 4 rfl) rfl)) (ea_w (ea_is (en_a (en_lcH (own := [("_law_j", 5)]) (j := 5) (n := 14) (g := fun i : Nat => bl (decide ((i : Int) = ((d.val : Nat) : Int)))) hot nd (by decide) U.mR (blkOk_by (N := nRai) (sc := defScope sRai) (by decide +kernel)) (by decide) (fun _ _ _ _ _ => pg_name nd rfl (Or.inl rfl)) (fun _ _ _ _ _ i hi => ea_cm (ea_w (ea_var 5 rfl)) (ea_w (ea_var 0 rfl)) cm_eqI rfl))) (bs14_eq d))) (cm_neH (f := fun l : List Bool => lstA (l.map bl)) (a := bs14 d) (b := bs14 d) (i := inferInstance) hrh (enc_lst enc_bl) (fun _ _ => trivial) (fun _ _ => trivial)) rfl) (by simp)) fun _ => ewt_or1 (et_is (et_not (et_v (ea_w (ea_isXb (U.C _) hzc hf (ea_var 3 rfl) U.mE bo_ve (U.kE _) U.mI)))) rfl))) (fun z => by cases z) (fun _ => ba_nil ?_))
    have hok : ∀ l : List Str, (∀ y ∈ l, y = n ∨ y = "open") → okL okS l := fun l hl y hy => by
      rcases hl y hy with rfl | rfl
      · exact hO
      · exact (by show PyData.strOk "open" = true; decide +kernel)
    match d with
    | ⟨0, _⟩ =>
      refine ba_cons (sa_if (k := true) (et_cm (ea_w (ea_var 0 rfl)) (ea_w ea_int) cm_lt rfl) (fun _ => ?_) (fun z => by cases z))
      exact ba_one (sa_ret (ea_is (ea_cm (ea_w (ea_fldX (U.C _) hzc hf (V.no 0) (ea_var 3 rfl) rfl)) (ea_w (ea_var 1 rfl)) cm_eqS rfl) (by simp)))
    | ⟨1, _⟩ =>
      refine ba_cons (sa_if (k := true) (et_cm (ea_w (ea_var 0 rfl)) (ea_w ea_int) cm_lt rfl) (fun _ => ?_) (fun z => by cases z))
      exact ba_one (sa_ret (ea_is (ea_cm (ea_w (ea_fldX (U.C _) hzc hf (V.no 1) (ea_var 3 rfl) rfl)) (ea_w (ea_var 1 rfl)) cm_eqS rfl) (by simp)))
    | ⟨2, _⟩ =>
      refine ba_cons (sa_if (k := false) (et_cm (ea_w (ea_var 0 rfl)) (ea_w ea_int) cm_lt rfl) (fun z => by cases z) (fun _ => ba_nil ?_))
      refine ba_cons (sa_if (k := true) (et_cm (ea_w (ea_var 0 rfl)) (ea_w ea_int) cm_eqI rfl) (fun _ => ?_) (fun z => by cases z))
      exact ba_one (sa_ret (ea_is (ea_cm (ea_w (ea_fldX (U.C _) hzc hf (V.no 2) (ea_var 3 rfl) rfl)) (ea_w (ea_var 1 rfl)) cm_eqS rfl) (by simp)))
    | ⟨3, _⟩ =>
      refine ba_cons (sa_if (k := false) (et_cm (ea_w (ea_var 0 rfl)) (ea_w ea_int) cm_lt rfl) (fun z => by cases z) (fun _ => ba_nil ?_))
      refine ba_cons (sa_if (k := false) (et_cm (ea_w (ea_var 0 rfl)) (ea_w ea_int) cm_eqI rfl) (fun z => by cases z) (fun _ => ba_nil ?_))
      refine ba_cons (sa_if (k := true) (et_cm (ea_w (ea_var 0 rfl)) (ea_w ea_int) cm_lt rfl) (fun _ => ?_) (fun z => by cases z))
      exact ba_one (sa_ret (ea_if (k := true) (et_cm (ea_w (ea_var 0 rfl)) (ea_w ea_int) cm_eqI rfl) (fun _ => ea_is (ea_cm (ea_w (ea_fldX (U.C _) hzc hf (V.no 3) (ea_var 3 rfl) rfl)) (ea_w (ea_tup (l := [str n, str n]) (eas_cons (ea_var 1 rfl) (eas_cons (ea_var 1 rfl) eas_nil)) (by show 2 ≤ sizeLine; decide))) (cm_eqH (f := fun l : List Str => tupA (l.map str)) (a := [n, n]) (b := [n, n]) (i := inferInstance) hrh (enc_tup enc_str) (hok _ (by simp)) (hok _ (by simp))) rfl) (by simp)) (fun z => by cases z)))
    | ⟨4, _⟩ =>
      refine ba_cons (sa_if (k := false) (et_cm (ea_w (ea_var 0 rfl)) (ea_w ea_int) cm_lt rfl) (fun z => by cases z) (fun _ => ba_nil ?_))
      refine ba_cons (sa_if (k := false) (et_cm (ea_w (ea_var 0 rfl)) (ea_w ea_int) cm_eqI rfl) (fun z => by cases z) (fun _ => ba_nil ?_))
      refine ba_cons (sa_if (k := true) (et_cm (ea_w (ea_var 0 rfl)) (ea_w ea_int) cm_lt rfl) (fun _ => ?_) (fun z => by cases z))
      exact ba_one (sa_ret (ea_if (k := false) (et_cm (ea_w (ea_var 0 rfl)) (ea_w ea_int) cm_eqI rfl) (fun z => by cases z) (fun _ => ea_is (ea_cm (ea_w (ea_fldX (U.C _) hzc hf (V.no 4) (ea_var 3 rfl) rfl)) (ea_w (ea_tup (l := [str "open", str n, str n]) (eas_cons ea_str (eas_cons (ea_var 1 rfl) (eas_cons (ea_var 1 rfl) eas_nil))) (by show 3 ≤ sizeLine; decide))) (cm_eqH (f := fun l : List Str => tupA (l.map str)) (a := ["open", n, n]) (b := ["open", n, n]) (i := inferInstance) hrh (enc_tup enc_str) (hok _ (by simp)) (hok _ (by simp))) rfl) (by simp))))
    | ⟨5, _⟩ =>
      refine ba_cons (sa_if (k := false) (et_cm (ea_w (ea_var 0 rfl)) (ea_w ea_int) cm_lt rfl) (fun z => by cases z) (fun _ => ba_nil ?_))
      refine ba_cons (sa_if (k := false) (et_cm (ea_w (ea_var 0 rfl)) (ea_w ea_int) cm_eqI rfl) (fun z => by cases z) (fun _ => ba_nil ?_))
      refine ba_cons (sa_if (k := false) (et_cm (ea_w (ea_var 0 rfl)) (ea_w ea_int) cm_lt rfl) (fun z => by cases z) (fun _ => ba_nil ?_))
      refine ba_cons (sa_if (k := true) (et_cm (ea_w (ea_var 0 rfl)) (ea_w ea_int) cm_lt rfl) (fun _ => ?_) (fun z => by cases z))
      exact ba_one (sa_ret (ea_if (k := true) (et_cm (ea_w (ea_var 0 rfl)) (ea_w ea_int) cm_eqI rfl) (fun _ => ea_is (ea_cm (ea_w (ea_fldX (U.C _) hzc hf (V.no 5) (ea_var 3 rfl) rfl)) (ea_w (ea_var 2 rfl)) cm_eqI rfl) (by simp)) (fun z => by cases z)))
    | ⟨6, _⟩ =>
      refine ba_cons (sa_if (k := false) (et_cm (ea_w (ea_var 0 rfl)) (ea_w ea_int) cm_lt rfl) (fun z => by cases z) (fun _ => ba_nil ?_))
      refine ba_cons (sa_if (k := false) (et_cm (ea_w (ea_var 0 rfl)) (ea_w ea_int) cm_eqI rfl) (fun z => by cases z) (fun _ => ba_nil ?_))
      refine ba_cons (sa_if (k := false) (et_cm (ea_w (ea_var 0 rfl)) (ea_w ea_int) cm_lt rfl) (fun z => by cases z) (fun _ => ba_nil ?_))
      refine ba_cons (sa_if (k := true) (et_cm (ea_w (ea_var 0 rfl)) (ea_w ea_int) cm_lt rfl) (fun _ => ?_) (fun z => by cases z))
      exact ba_one (sa_ret (ea_if (k := false) (et_cm (ea_w (ea_var 0 rfl)) (ea_w ea_int) cm_eqI rfl) (fun z => by cases z) (fun _ => ea_is (ea_cm (ea_w (ea_fldX (U.C _) hzc hf (V.no 6) (ea_var 3 rfl) rfl)) (ea_w (ea_var 2 rfl)) cm_eqI rfl) (by simp))))
    | ⟨7, _⟩ =>
      refine ba_cons (sa_if (k := false) (et_cm (ea_w (ea_var 0 rfl)) (ea_w ea_int) cm_lt rfl) (fun z => by cases z) (fun _ => ba_nil ?_))
      refine ba_cons (sa_if (k := false) (et_cm (ea_w (ea_var 0 rfl)) (ea_w ea_int) cm_eqI rfl) (fun z => by cases z) (fun _ => ba_nil ?_))
      refine ba_cons (sa_if (k := false) (et_cm (ea_w (ea_var 0 rfl)) (ea_w ea_int) cm_lt rfl) (fun z => by cases z) (fun _ => ba_nil ?_))
      refine ba_cons (sa_if (k := false) (et_cm (ea_w (ea_var 0 rfl)) (ea_w ea_int) cm_lt rfl) (fun z => by cases z) (fun _ => ba_nil ?_))
      exact ba_one (sa_ret (ea_if (k := true) (et_cm (ea_w (ea_var 0 rfl)) (ea_w ea_int) cm_eqI rfl) (fun _ => ea_is (ea_cm (ea_w (ea_fldX (U.C _) hzc hf (V.no 7) (ea_var 3 rfl) rfl)) (ea_w (ea_var 2 rfl)) cm_eqI rfl) (by simp)) (fun z => by cases z)))
    | ⟨8, _⟩ =>
      refine ba_cons (sa_if (k := false) (et_cm (ea_w (ea_var 0 rfl)) (ea_w ea_int) cm_lt rfl) (fun z => by cases z) (fun _ => ba_nil ?_))
      refine ba_cons (sa_if (k := false) (et_cm (ea_w (ea_var 0 rfl)) (ea_w ea_int) cm_eqI rfl) (fun z => by cases z) (fun _ => ba_nil ?_))
      refine ba_cons (sa_if (k := false) (et_cm (ea_w (ea_var 0 rfl)) (ea_w ea_int) cm_lt rfl) (fun z => by cases z) (fun _ => ba_nil ?_))
      refine ba_cons (sa_if (k := false) (et_cm (ea_w (ea_var 0 rfl)) (ea_w ea_int) cm_lt rfl) (fun z => by cases z) (fun _ => ba_nil ?_))
      exact ba_one (sa_ret (ea_if (k := false) (et_cm (ea_w (ea_var 0 rfl)) (ea_w ea_int) cm_eqI rfl) (fun z => by cases z) (fun _ => ea_is (ea_cm (ea_w (ea_fldX (U.C _) hzc hf (V.no 8) (ea_var 3 rfl) rfl)) (ea_w (en_a (en_lst (l := [str n]) (eas_cons (ea_var 1 rfl) eas_nil) (by show 1 ≤ sizeLine; decide)))) (cm_eqH (f := fun l : List Str => lstA (l.map str)) (a := [n]) (b := [n]) (i := inferInstance) hrh (enc_lst enc_str) (hok _ (by simp)) (hok _ (by simp))) rfl) (by simp))))
    | ⟨9, _⟩ =>
      refine ba_cons (sa_if (k := false) (et_cm (ea_w (ea_var 0 rfl)) (ea_w ea_int) cm_lt rfl) (fun z => by cases z) (fun _ => ba_nil ?_))
      refine ba_cons (sa_if (k := false) (et_cm (ea_w (ea_var 0 rfl)) (ea_w ea_int) cm_eqI rfl) (fun z => by cases z) (fun _ => ba_nil ?_))
      refine ba_cons (sa_if (k := false) (et_cm (ea_w (ea_var 0 rfl)) (ea_w ea_int) cm_lt rfl) (fun z => by cases z) (fun _ => ba_nil ?_))
      refine ba_cons (sa_if (k := false) (et_cm (ea_w (ea_var 0 rfl)) (ea_w ea_int) cm_lt rfl) (fun z => by cases z) (fun _ => ba_nil ?_))
      exact ba_one (sa_ret (ea_if (k := false) (et_cm (ea_w (ea_var 0 rfl)) (ea_w ea_int) cm_eqI rfl) (fun z => by cases z) (fun _ => ea_is (ea_cm (ea_w (ea_fldX (U.C _) hzc hf (V.no 9) (ea_var 3 rfl) rfl)) (ea_w (en_a (en_lst (l := [str n]) (eas_cons (ea_var 1 rfl) eas_nil) (by show 1 ≤ sizeLine; decide)))) (cm_eqH (f := fun l : List Str => lstA (l.map str)) (a := [n]) (b := [n]) (i := inferInstance) hrh (enc_lst enc_str) (hok _ (by simp)) (hok _ (by simp))) rfl) (by simp))))
    | ⟨10, _⟩ =>
      refine ba_cons (sa_if (k := false) (et_cm (ea_w (ea_var 0 rfl)) (ea_w ea_int) cm_lt rfl) (fun z => by cases z) (fun _ => ba_nil ?_))
      refine ba_cons (sa_if (k := false) (et_cm (ea_w (ea_var 0 rfl)) (ea_w ea_int) cm_eqI rfl) (fun z => by cases z) (fun _ => ba_nil ?_))
      refine ba_cons (sa_if (k := false) (et_cm (ea_w (ea_var 0 rfl)) (ea_w ea_int) cm_lt rfl) (fun z => by cases z) (fun _ => ba_nil ?_))
      refine ba_cons (sa_if (k := false) (et_cm (ea_w (ea_var 0 rfl)) (ea_w ea_int) cm_lt rfl) (fun z => by cases z) (fun _ => ba_nil ?_))
      exact ba_one (sa_ret (ea_if (k := false) (et_cm (ea_w (ea_var 0 rfl)) (ea_w ea_int) cm_eqI rfl) (fun z => by cases z) (fun _ => ea_is (ea_cm (ea_w (ea_fldX (U.C _) hzc hf (V.no 10) (ea_var 3 rfl) rfl)) (ea_w (en_a (en_lst (l := [str n]) (eas_cons (ea_var 1 rfl) eas_nil) (by show 1 ≤ sizeLine; decide)))) (cm_eqH (f := fun l : List Str => lstA (l.map str)) (a := [n]) (b := [n]) (i := inferInstance) hrh (enc_lst enc_str) (hok _ (by simp)) (hok _ (by simp))) rfl) (by simp))))
    | ⟨11, _⟩ =>
      refine ba_cons (sa_if (k := false) (et_cm (ea_w (ea_var 0 rfl)) (ea_w ea_int) cm_lt rfl) (fun z => by cases z) (fun _ => ba_nil ?_))
      refine ba_cons (sa_if (k := false) (et_cm (ea_w (ea_var 0 rfl)) (ea_w ea_int) cm_eqI rfl) (fun z => by cases z) (fun _ => ba_nil ?_))
      refine ba_cons (sa_if (k := false) (et_cm (ea_w (ea_var 0 rfl)) (ea_w ea_int) cm_lt rfl) (fun z => by cases z) (fun _ => ba_nil ?_))
      refine ba_cons (sa_if (k := false) (et_cm (ea_w (ea_var 0 rfl)) (ea_w ea_int) cm_lt rfl) (fun z => by cases z) (fun _ => ba_nil ?_))
      exact ba_one (sa_ret (ea_if (k := false) (et_cm (ea_w (ea_var 0 rfl)) (ea_w ea_int) cm_eqI rfl) (fun z => by cases z) (fun _ => ea_is (ea_cm (ea_w (ea_fldX (U.C _) hzc hf (V.no 11) (ea_var 3 rfl) rfl)) (ea_w (en_a (en_lst (l := [str n]) (eas_cons (ea_var 1 rfl) eas_nil) (by show 1 ≤ sizeLine; decide)))) (cm_eqH (f := fun l : List Str => lstA (l.map str)) (a := [n]) (b := [n]) (i := inferInstance) hrh (enc_lst enc_str) (hok _ (by simp)) (hok _ (by simp))) rfl) (by simp))))
    | ⟨12, _⟩ =>
      refine ba_cons (sa_if (k := false) (et_cm (ea_w (ea_var 0 rfl)) (ea_w ea_int) cm_lt rfl) (fun z => by cases z) (fun _ => ba_nil ?_))
      refine ba_cons (sa_if (k := false) (et_cm (ea_w (ea_var 0 rfl)) (ea_w ea_int) cm_eqI rfl) (fun z => by cases z) (fun _ => ba_nil ?_))
      refine ba_cons (sa_if (k := false) (et_cm (ea_w (ea_var 0 rfl)) (ea_w ea_int) cm_lt rfl) (fun z => by cases z) (fun _ => ba_nil ?_))
      refine ba_cons (sa_if (k := false) (et_cm (ea_w (ea_var 0 rfl)) (ea_w ea_int) cm_lt rfl) (fun z => by cases z) (fun _ => ba_nil ?_))
      exact ba_one (sa_ret (ea_if (k := false) (et_cm (ea_w (ea_var 0 rfl)) (ea_w ea_int) cm_eqI rfl) (fun z => by cases z) (fun _ => ea_is (ea_cm (ea_w (ea_fldX (U.C _) hzc hf (V.no 12) (ea_var 3 rfl) rfl)) (ea_w (en_a (en_lst (l := [str n]) (eas_cons (ea_var 1 rfl) eas_nil) (by show 1 ≤ sizeLine; decide)))) (cm_eqH (f := fun l : List Str => lstA (l.map str)) (a := [n]) (b := [n]) (i := inferInstance) hrh (enc_lst enc_str) (hok _ (by simp)) (hok _ (by simp))) rfl) (by simp))))
    | ⟨13, _⟩ =>
      refine ba_cons (sa_if (k := false) (et_cm (ea_w (ea_var 0 rfl)) (ea_w ea_int) cm_lt rfl) (fun z => by cases z) (fun _ => ba_nil ?_))
      refine ba_cons (sa_if (k := false) (et_cm (ea_w (ea_var 0 rfl)) (ea_w ea_int) cm_eqI rfl) (fun z => by cases z) (fun _ => ba_nil ?_))
      refine ba_cons (sa_if (k := false) (et_cm (ea_w (ea_var 0 rfl)) (ea_w ea_int) cm_lt rfl) (fun z => by cases z) (fun _ => ba_nil ?_))
      refine ba_cons (sa_if (k := false) (et_cm (ea_w (ea_var 0 rfl)) (ea_w ea_int) cm_lt rfl) (fun z => by cases z) (fun _ => ba_nil ?_))
      exact ba_one (sa_ret (ea_if (k := false) (et_cm (ea_w (ea_var 0 rfl)) (ea_w ea_int) cm_eqI rfl) (fun z => by cases z) (fun _ => ea_is (ea_cm (ea_w (ea_fldX (U.C _) hzc hf (V.no 13) (ea_var 3 rfl) rfl)) (ea_w (en_a (en_lst (l := [str n]) (eas_cons (ea_var 1 rfl) eas_nil) (by show 1 ≤ sizeLine; decide)))) (cm_eqH (f := fun l : List Str => lstA (l.map str)) (a := [n]) (b := [n]) (i := inferInstance) hrh (enc_lst enc_str) (hok _ (by simp)) (hok _ (by simp))) rfl) (by simp))))
end
end Kv

set_option Elab.async false
set_option linter.all false
set_option maxRecDepth 100000
set_option maxHeartbeats 4000000
namespace Kv
open PySem PySem.Calls L2 Lk NdefX
theorem note_txt {s : Str} (h : Note s) : Txt s ∧ okS s := by
  obtain ⟨l, rfl, _, h1, h2⟩ := h
  have e : (S l).cps.toList = l := by simp [S]
  refine ⟨⟨fun c hc => ?_, ?_⟩, ?_⟩
  · rw [e] at hc
    have q := h2 c hc
    unfold alnum at q
    simp only [Bool.or_eq_true, Bool.and_eq_true, decide_eq_true_eq] at q
    have : (16 : Nat) ^ 8 = 4294967296 := by decide
    omega
  · show (S l).cps.size ≤ 100000
    have e2 : (S l).cps.size = l.length := by simp [S]
    omega
  · show (l.toArray.all fun c => decide (c < 0x110000)) = true
    rw [List.all_toArray, List.all_eq_true]
    intro c hc
    have q := h2 c hc
    unfold alnum at q
    simp only [Bool.or_eq_true, Bool.and_eq_true, decide_eq_true_eq] at q ⊢
    omega
theorem smi {z : Int} (h : z.natAbs < 10 ^ 30) : SmI z := by
  show z.natAbs.log2 < 1000
  by_cases e : z.natAbs = 0
  · rw [e]
    decide
  · rw [Nat.log2_lt e]
    exact Nat.lt_of_lt_of_le h (Nat.le_trans (by decide : 10 ^ 30 ≤ 2 ^ 100) (Nat.pow_le_pow_right (by decide) (by decide)))
section
variable {P : Program} {w : World} {K : PySem.W.Frag} {mg : Str → Option Value} {base h : Heap}
abbrev sLaw : Stmt := (topS 22)
abbrev nLaw : List Str := ["_law_script", "_law_names_here", "_law_number", "_law_k", "_law_name"]
theorem sc_law : FnScope nLaw ["_law_script"] (defScope sLaw) := ⟨rfl, rfl, rfl, by decide +kernel, rfl, by decide +kernel, by decide +kernel⟩
abbrev spLaw (K : PySem.W.Frag) : Sp := spX (fun _ : List Int => True) (fun ns => [scr K ns]) (fun _ => bl true)
theorem ok_law {f : Addr} {fd : FuncData} (F : Fun K "law" "law" sLaw f fd) (mI : mg "int" = none) (mR : mg "range" = none) (DC : Df P w K mg base 1 "_law_cell" ["_law_script", "_law_k"] (spCl K)) (DN : Df P w K mg base 3 "_law_names" ["_law_script", "_law_k", "_law_count"] (spNames K)) (DR : Df P w K mg base 3 "_law_raised" ["_law_k", "_law_name", "_law_number"] spRai) : FnOk P w K mg base CX0 4 f fd ["_law_script"] (spLaw K) := by
  refine fn_ok F sc_law (fun _ _ => rfl) fun ns cdv B0 outer s H E _ hr => ?_
  have nd := sc_law.nd
  refine ba_cons (sa_set 1 nd (ea_call DN hr (ns, 0, 2) ⟨show 0 ≤ 1000 by decide, show 2 ≤ 4 by decide⟩ (eas_cons (ea_var 0 rfl) (eas_cons (ea_is (A := int 0) ea_int rfl) (eas_cons (ea_is (A := int 2) ea_int rfl) eas_nil)))) ?_)
  refine ba_ex (i := 1) rfl fun l hl => ?_
  obtain ⟨hl2, _, hln⟩ : Names 2 l := hl
  refine ba_cons (sa_set 2 nd (ea_mod (ea_w (ea_int1 (ea_w (ea_callB (B := int (cellA ns 1)) DC (hr.mono (show 1 ≤ 3 by decide)) (ns, 1) trivial rfl (eas_cons (ea_var 0 rfl) (eas_cons (ea_is (A := int 1) ea_int rfl) eas_nil)))) mI)) (ea_w (ea_pow (ea_w ea_int) (ea_w ea_int) ⟨by decide, by decide, by decide⟩)) (by decide)) ?_)
  have hz : (cellA ns 1 % (10 ^ (30 : Int).toNat)).natAbs < 10 ^ 30 := by
    have e : (10 : Int) ^ (30 : Int).toNat = 1000000000000000000000000000000 := by decide
    have e2 : (10 : Nat) ^ 30 = 1000000000000000000000000000000 := by decide
    rw [e, e2]
    omega
  generalize cellA ns 1 % (10 ^ (30 : Int).toNat) = z at hz ⊢
  have hz2 : (0 - z).natAbs < 10 ^ 30 := by
    have : (0 - z).natAbs = z.natAbs := by omega
    omega
  let ρ0 : List En := [.fr (scr K ns), .fr (lstA (l.map str)), .fr (int z), .no, .no]
  have hle : ∀ {a b : En}, Le ρ0 [.fr (scr K ns), .fr (lstA (l.map str)), .fr (int z), a, b] := .same (.same (.same (.no (.no .nil))))
  refine ba_cons (sa_forR 3 (fun _ ρ' => ρ' = ρ0) PassesOwn.never rfl nd mR (ea_w ea_int) ⟨by decide, by decide⟩ ⟨_, rfl, hle⟩ ?hs ?hd)
  case hd =>
    rintro ρ' rfl
    exact ba_one (sa_ret (ea_is ea_bl rfl))
  case hs =>
    rintro k ρ' hk rfl
    have hk : k < 14 := hk
    let ρ1 : List En := [.fr (scr K ns), .fr (lstA (l.map str)), .fr (int z), .fr (int (k : Int)), .no]
    refine ba_one (sa_for (l := l.map str) 4 (fun _ ρ' => ρ' = ρ1) PassesOwn.never rfl nd (ea_var 1 rfl) ⟨_, rfl, .same (.same (.same (.same (.no .nil))))⟩ ?h2 ?d2)
    case d2 =>
      rintro ρ' rfl
      exact ⟨_, rfl, hle⟩
    case h2 =>
      rintro j A ρ' hj rfl
      rw [List.getElem?_map] at hj
      cases e : l[j]? with
      | none => rw [e] at hj; cases hj
      | some n =>
        rw [e] at hj
        have hj : str n = A := by simpa using hj
        subst hj
        obtain ⟨h1, h2⟩ := note_txt (hln n (List.mem_of_getElem? e))
        refine ba_one (sa_if (k := false) (et_w (ewt_or (j := false) (k := false) (et_is (et_not (et_v (ea_w (ea_callB DR hr ((⟨k, hk⟩ : Fin 14), n, z) ⟨h1, h2, smi hz⟩ (rfl : _ = bl true) (eas_cons (ea_var 3 rfl) (eas_cons (ea_var 4 rfl) (eas_cons (ea_var 2 rfl) eas_nil))))))) rfl) fun _ => ewt_or1 (et_is (et_not (et_v (ea_w (ea_callB DR hr ((⟨k, hk⟩ : Fin 14), n, 0 - z) ⟨h1, h2, smi hz2⟩ (rfl : _ = bl true) (eas_cons (ea_var 3 rfl) (eas_cons (ea_var 4 rfl) (eas_cons (ea_sub (ea_w ea_int) (ea_w (ea_var 2 rfl))) eas_nil))))))) rfl))) (fun z => by cases z) (fun _ => ba_nil ⟨ρ1, rfl, .same (.same (.same (.same (.no .nil))))⟩))
end
end Kv

set_option Elab.async false
set_option linter.all false

set_option Elab.async false
set_option linter.all false
set_option maxRecDepth 100000
set_option maxHeartbeats 4000000
namespace Kv
open PySem PySem.Calls L2 Lk NdefX
section
variable {P : Program} {w : World} {K : PySem.W.Frag} {mg : Str → Option Value} {base h : Heap} {c0 c1 c2 c3 c4 c5 c6 c7 c8 c9 c10 c11 c12 c13 CV : Addr}
local macro_rules | `(tactic| walk_at "b1") => `(tactic| exact fun _ _ _ _ _ _ us hl => match us, hl with | [_], _ => rfl)
local macro_rules | `(tactic| walk_at "b2") => `(tactic| exact fun _ _ _ _ _ _ us hl => match us, hl with | [_, _], _ => rfl)
local macro_rules | `(tactic| walk_at "b3") => `(tactic| exact fun _ _ _ _ _ _ us hl => match us, hl with | [_, _, _], _ => rfl)
local macro_rules | `(tactic| walk_at "b4") => `(tactic| exact fun _ _ _ _ _ _ us hl => match us, hl with | [_, _, _, _], _ => rfl)
local macro_rules | `(tactic| walk_at "b5") => `(tactic| exact fun _ _ _ _ _ _ us hl => match us, hl with | [_, _, _, _, _], _ => rfl)
local macro_rules | `(tactic| walk_at "b6") => `(tactic| exact fun _ _ _ _ _ _ us hl => match us, hl with | [_, _, _, _, _, _], _ => rfl)
theorem all_mk {l : PySem.W.OpenLaw} {fa : Addr}  (X : K.In h) (G : h.Ns mainGlobals mg) (hfa : mg "law" = some (.ref fa))
    (z_len : PySem.W.nsIn K mainGlobals "len" = some none)
    (z_int : PySem.W.nsIn K mainGlobals "int" = some none)
    (z_range : PySem.W.nsIn K mainGlobals "range" = some none)
    (l__law_cell : FnAt K "_law_cell" sCell)
    (l__law_digits : FnAt K "_law_digits" sDigits)
    (l__law_names : FnAt K "_law_names" sNames)
    (gV : PySem.W.nsIn K mainGlobals "VoiceError" = some (some (.ref CV)))
    (xV1 : PySem.W.subIn K (.ref CV) (.type "BaseException") = some true)
    (xV2 : PySem.W.isClsIn K CV = true)
    (xV3 : PySem.W.typeIn K (.ref CV) = some (.type "type"))
    (z_isinstance : PySem.W.nsIn K mainGlobals "isinstance" = some none)
    (z_ValueError : PySem.W.nsIn K mainGlobals "ValueError" = some none)
    (eX0 : ExAt l.prog K c0 "BadName" "BadName.__init__" "name" sBadName)
    (eX1 : ExAt l.prog K c1 "Twice" "Twice.__init__" "name" sTwice)
    (eX2 : ExAt l.prog K c2 "UnknownNote" "UnknownNote.__init__" "note" sUnknownNote)
    (eX3 : ExAt l.prog K c3 "UnknownPair" "UnknownPair.__init__" "pair" sUnknownPair)
    (eX4 : ExAt l.prog K c4 "BadRule" "BadRule.__init__" "rule" sBadRule)
    (eX5 : ExAt l.prog K c5 "BadLine" "BadLine.__init__" "number" sBadLine)
    (eX6 : ExAt l.prog K c6 "BadPlace" "BadPlace.__init__" "place" sBadPlace)
    (eX7 : ExAt l.prog K c7 "BadAhead" "BadAhead.__init__" "ahead" sBadAhead)
    (eX8 : ExAt l.prog K c8 "Silent" "Silent.__init__" "voice" sSilent)
    (gx9 : PySem.W.nsIn K mainGlobals "TooMany" = some (some (.ref c9)))
    (zk9 : PySem.W.keepIn K (.ref c9) = true)
    (zx9 : PySem.W.excIn K c9 [.type "ValueError", .type "Exception", .type "BaseException", .type "object"] "ValueError.__new__" = true)
    (zs9 : PySem.W.subIn K (.ref c9) (.type "BaseException") = some true)
    (zt9 : PySem.W.typeIn K (.ref c9) = some (.type "type"))
    (no9 : PySem.W.findIn K (.ref c9) "voice" = some none)
    (gx10 : PySem.W.nsIn K mainGlobals "SizeMismatch" = some (some (.ref c10)))
    (zk10 : PySem.W.keepIn K (.ref c10) = true)
    (zx10 : PySem.W.excIn K c10 [.type "ValueError", .type "Exception", .type "BaseException", .type "object"] "ValueError.__new__" = true)
    (zs10 : PySem.W.subIn K (.ref c10) (.type "BaseException") = some true)
    (zt10 : PySem.W.typeIn K (.ref c10) = some (.type "type"))
    (no10 : PySem.W.findIn K (.ref c10) "voice" = some none)
    (gx11 : PySem.W.nsIn K mainGlobals "BadWindow" = some (some (.ref c11)))
    (zk11 : PySem.W.keepIn K (.ref c11) = true)
    (zx11 : PySem.W.excIn K c11 [.type "ValueError", .type "Exception", .type "BaseException", .type "object"] "ValueError.__new__" = true)
    (zs11 : PySem.W.subIn K (.ref c11) (.type "BaseException") = some true)
    (zt11 : PySem.W.typeIn K (.ref c11) = some (.type "type"))
    (no11 : PySem.W.findIn K (.ref c11) "voice" = some none)
    (gx12 : PySem.W.nsIn K mainGlobals "NoAnswer" = some (some (.ref c12)))
    (zk12 : PySem.W.keepIn K (.ref c12) = true)
    (zx12 : PySem.W.excIn K c12 [.type "ValueError", .type "Exception", .type "BaseException", .type "object"] "ValueError.__new__" = true)
    (zs12 : PySem.W.subIn K (.ref c12) (.type "BaseException") = some true)
    (zt12 : PySem.W.typeIn K (.ref c12) = some (.type "type"))
    (no12 : PySem.W.findIn K (.ref c12) "voice" = some none)
    (gx13 : PySem.W.nsIn K mainGlobals "NoMove" = some (some (.ref c13)))
    (zk13 : PySem.W.keepIn K (.ref c13) = true)
    (zx13 : PySem.W.excIn K c13 [.type "ValueError", .type "Exception", .type "BaseException", .type "object"] "ValueError.__new__" = true)
    (zs13 : PySem.W.subIn K (.ref c13) (.type "BaseException") = some true)
    (zt13 : PySem.W.typeIn K (.ref c13) = some (.type "type"))
    (no13 : PySem.W.findIn K (.ref c13) "voice" = some none)
    (x0 : ExcC K c0)
    (y0 : PySem.W.subIn K (.ref c0) (.ref CV) = some true)
    (v0 : PySem.W.kitOne K (.ref c0) (.type "ValueError") = some true)
    (k0_0 : PySem.W.kitOne K (.ref c0) (.ref c0) = some true)
    (k0_1 : PySem.W.kitOne K (.ref c0) (.ref c1) = some false)
    (k0_2 : PySem.W.kitOne K (.ref c0) (.ref c2) = some false)
    (k0_3 : PySem.W.kitOne K (.ref c0) (.ref c3) = some false)
    (k0_4 : PySem.W.kitOne K (.ref c0) (.ref c4) = some false)
    (k0_5 : PySem.W.kitOne K (.ref c0) (.ref c5) = some false)
    (k0_6 : PySem.W.kitOne K (.ref c0) (.ref c6) = some false)
    (k0_7 : PySem.W.kitOne K (.ref c0) (.ref c7) = some false)
    (k0_8 : PySem.W.kitOne K (.ref c0) (.ref c8) = some false)
    (k0_9 : PySem.W.kitOne K (.ref c0) (.ref c9) = some false)
    (k0_10 : PySem.W.kitOne K (.ref c0) (.ref c10) = some false)
    (k0_11 : PySem.W.kitOne K (.ref c0) (.ref c11) = some false)
    (k0_12 : PySem.W.kitOne K (.ref c0) (.ref c12) = some false)
    (k0_13 : PySem.W.kitOne K (.ref c0) (.ref c13) = some false)
    (x1 : ExcC K c1)
    (y1 : PySem.W.subIn K (.ref c1) (.ref CV) = some true)
    (v1 : PySem.W.kitOne K (.ref c1) (.type "ValueError") = some true)
    (k1_0 : PySem.W.kitOne K (.ref c1) (.ref c0) = some false)
    (k1_1 : PySem.W.kitOne K (.ref c1) (.ref c1) = some true)
    (k1_2 : PySem.W.kitOne K (.ref c1) (.ref c2) = some false)
    (k1_3 : PySem.W.kitOne K (.ref c1) (.ref c3) = some false)
    (k1_4 : PySem.W.kitOne K (.ref c1) (.ref c4) = some false)
    (k1_5 : PySem.W.kitOne K (.ref c1) (.ref c5) = some false)
    (k1_6 : PySem.W.kitOne K (.ref c1) (.ref c6) = some false)
    (k1_7 : PySem.W.kitOne K (.ref c1) (.ref c7) = some false)
    (k1_8 : PySem.W.kitOne K (.ref c1) (.ref c8) = some false)
    (k1_9 : PySem.W.kitOne K (.ref c1) (.ref c9) = some false)
    (k1_10 : PySem.W.kitOne K (.ref c1) (.ref c10) = some false)
    (k1_11 : PySem.W.kitOne K (.ref c1) (.ref c11) = some false)
    (k1_12 : PySem.W.kitOne K (.ref c1) (.ref c12) = some false)
    (k1_13 : PySem.W.kitOne K (.ref c1) (.ref c13) = some false)
    (x2 : ExcC K c2)
    (y2 : PySem.W.subIn K (.ref c2) (.ref CV) = some true)
    (v2 : PySem.W.kitOne K (.ref c2) (.type "ValueError") = some true)
    (k2_0 : PySem.W.kitOne K (.ref c2) (.ref c0) = some false)
    (k2_1 : PySem.W.kitOne K (.ref c2) (.ref c1) = some false)
    (k2_2 : PySem.W.kitOne K (.ref c2) (.ref c2) = some true)
    (k2_3 : PySem.W.kitOne K (.ref c2) (.ref c3) = some false)
    (k2_4 : PySem.W.kitOne K (.ref c2) (.ref c4) = some false)
    (k2_5 : PySem.W.kitOne K (.ref c2) (.ref c5) = some false)
    (k2_6 : PySem.W.kitOne K (.ref c2) (.ref c6) = some false)
    (k2_7 : PySem.W.kitOne K (.ref c2) (.ref c7) = some false)
    (k2_8 : PySem.W.kitOne K (.ref c2) (.ref c8) = some false)
    (k2_9 : PySem.W.kitOne K (.ref c2) (.ref c9) = some false)
    (k2_10 : PySem.W.kitOne K (.ref c2) (.ref c10) = some false)
    (k2_11 : PySem.W.kitOne K (.ref c2) (.ref c11) = some false)
    (k2_12 : PySem.W.kitOne K (.ref c2) (.ref c12) = some false)
    (k2_13 : PySem.W.kitOne K (.ref c2) (.ref c13) = some false)
    (x3 : ExcC K c3)
    (y3 : PySem.W.subIn K (.ref c3) (.ref CV) = some true)
    (v3 : PySem.W.kitOne K (.ref c3) (.type "ValueError") = some true)
    (k3_0 : PySem.W.kitOne K (.ref c3) (.ref c0) = some false)
    (k3_1 : PySem.W.kitOne K (.ref c3) (.ref c1) = some false)
    (k3_2 : PySem.W.kitOne K (.ref c3) (.ref c2) = some false)
    (k3_3 : PySem.W.kitOne K (.ref c3) (.ref c3) = some true)
    (k3_4 : PySem.W.kitOne K (.ref c3) (.ref c4) = some false)
    (k3_5 : PySem.W.kitOne K (.ref c3) (.ref c5) = some false)
    (k3_6 : PySem.W.kitOne K (.ref c3) (.ref c6) = some false)
    (k3_7 : PySem.W.kitOne K (.ref c3) (.ref c7) = some false)
    (k3_8 : PySem.W.kitOne K (.ref c3) (.ref c8) = some false)
    (k3_9 : PySem.W.kitOne K (.ref c3) (.ref c9) = some false)
    (k3_10 : PySem.W.kitOne K (.ref c3) (.ref c10) = some false)
    (k3_11 : PySem.W.kitOne K (.ref c3) (.ref c11) = some false)
    (k3_12 : PySem.W.kitOne K (.ref c3) (.ref c12) = some false)
    (k3_13 : PySem.W.kitOne K (.ref c3) (.ref c13) = some false)
    (x4 : ExcC K c4)
    (y4 : PySem.W.subIn K (.ref c4) (.ref CV) = some true)
    (v4 : PySem.W.kitOne K (.ref c4) (.type "ValueError") = some true)
    (k4_0 : PySem.W.kitOne K (.ref c4) (.ref c0) = some false)
    (k4_1 : PySem.W.kitOne K (.ref c4) (.ref c1) = some false)
    (k4_2 : PySem.W.kitOne K (.ref c4) (.ref c2) = some false)
    (k4_3 : PySem.W.kitOne K (.ref c4) (.ref c3) = some false)
    (k4_4 : PySem.W.kitOne K (.ref c4) (.ref c4) = some true)
    (k4_5 : PySem.W.kitOne K (.ref c4) (.ref c5) = some false)
    (k4_6 : PySem.W.kitOne K (.ref c4) (.ref c6) = some false)
    (k4_7 : PySem.W.kitOne K (.ref c4) (.ref c7) = some false)
    (k4_8 : PySem.W.kitOne K (.ref c4) (.ref c8) = some false)
    (k4_9 : PySem.W.kitOne K (.ref c4) (.ref c9) = some false)
    (k4_10 : PySem.W.kitOne K (.ref c4) (.ref c10) = some false)
    (k4_11 : PySem.W.kitOne K (.ref c4) (.ref c11) = some false)
    (k4_12 : PySem.W.kitOne K (.ref c4) (.ref c12) = some false)
    (k4_13 : PySem.W.kitOne K (.ref c4) (.ref c13) = some false)
    (x5 : ExcC K c5)
    (y5 : PySem.W.subIn K (.ref c5) (.ref CV) = some true)
    (v5 : PySem.W.kitOne K (.ref c5) (.type "ValueError") = some true)
    (k5_0 : PySem.W.kitOne K (.ref c5) (.ref c0) = some false)
    (k5_1 : PySem.W.kitOne K (.ref c5) (.ref c1) = some false)
    (k5_2 : PySem.W.kitOne K (.ref c5) (.ref c2) = some false)
    (k5_3 : PySem.W.kitOne K (.ref c5) (.ref c3) = some false)
    (k5_4 : PySem.W.kitOne K (.ref c5) (.ref c4) = some false)
    (k5_5 : PySem.W.kitOne K (.ref c5) (.ref c5) = some true)
    (k5_6 : PySem.W.kitOne K (.ref c5) (.ref c6) = some false)
    (k5_7 : PySem.W.kitOne K (.ref c5) (.ref c7) = some false)
    (k5_8 : PySem.W.kitOne K (.ref c5) (.ref c8) = some false)
    (k5_9 : PySem.W.kitOne K (.ref c5) (.ref c9) = some false)
    (k5_10 : PySem.W.kitOne K (.ref c5) (.ref c10) = some false)
    (k5_11 : PySem.W.kitOne K (.ref c5) (.ref c11) = some false)
    (k5_12 : PySem.W.kitOne K (.ref c5) (.ref c12) = some false)
    (k5_13 : PySem.W.kitOne K (.ref c5) (.ref c13) = some false)
    (x6 : ExcC K c6)
    (y6 : PySem.W.subIn K (.ref c6) (.ref CV) = some true)
    (v6 : PySem.W.kitOne K (.ref c6) (.type "ValueError") = some true)
    (k6_0 : PySem.W.kitOne K (.ref c6) (.ref c0) = some false)
    (k6_1 : PySem.W.kitOne K (.ref c6) (.ref c1) = some false)
    (k6_2 : PySem.W.kitOne K (.ref c6) (.ref c2) = some false)
    (k6_3 : PySem.W.kitOne K (.ref c6) (.ref c3) = some false)
    (k6_4 : PySem.W.kitOne K (.ref c6) (.ref c4) = some false)
    (k6_5 : PySem.W.kitOne K (.ref c6) (.ref c5) = some false)
    (k6_6 : PySem.W.kitOne K (.ref c6) (.ref c6) = some true)
    (k6_7 : PySem.W.kitOne K (.ref c6) (.ref c7) = some false)
    (k6_8 : PySem.W.kitOne K (.ref c6) (.ref c8) = some false)
    (k6_9 : PySem.W.kitOne K (.ref c6) (.ref c9) = some false)
    (k6_10 : PySem.W.kitOne K (.ref c6) (.ref c10) = some false)
    (k6_11 : PySem.W.kitOne K (.ref c6) (.ref c11) = some false)
    (k6_12 : PySem.W.kitOne K (.ref c6) (.ref c12) = some false)
    (k6_13 : PySem.W.kitOne K (.ref c6) (.ref c13) = some false)
    (x7 : ExcC K c7)
    (y7 : PySem.W.subIn K (.ref c7) (.ref CV) = some true)
    (v7 : PySem.W.kitOne K (.ref c7) (.type "ValueError") = some true)
    (k7_0 : PySem.W.kitOne K (.ref c7) (.ref c0) = some false)
    (k7_1 : PySem.W.kitOne K (.ref c7) (.ref c1) = some false)
    (k7_2 : PySem.W.kitOne K (.ref c7) (.ref c2) = some false)
    (k7_3 : PySem.W.kitOne K (.ref c7) (.ref c3) = some false)
    (k7_4 : PySem.W.kitOne K (.ref c7) (.ref c4) = some false)
    (k7_5 : PySem.W.kitOne K (.ref c7) (.ref c5) = some false)
    (k7_6 : PySem.W.kitOne K (.ref c7) (.ref c6) = some false)
    (k7_7 : PySem.W.kitOne K (.ref c7) (.ref c7) = some true)
    (k7_8 : PySem.W.kitOne K (.ref c7) (.ref c8) = some false)
    (k7_9 : PySem.W.kitOne K (.ref c7) (.ref c9) = some false)
    (k7_10 : PySem.W.kitOne K (.ref c7) (.ref c10) = some false)
    (k7_11 : PySem.W.kitOne K (.ref c7) (.ref c11) = some false)
    (k7_12 : PySem.W.kitOne K (.ref c7) (.ref c12) = some false)
    (k7_13 : PySem.W.kitOne K (.ref c7) (.ref c13) = some false)
    (x8 : ExcC K c8)
    (y8 : PySem.W.subIn K (.ref c8) (.ref CV) = some true)
    (v8 : PySem.W.kitOne K (.ref c8) (.type "ValueError") = some true)
    (k8_0 : PySem.W.kitOne K (.ref c8) (.ref c0) = some false)
    (k8_1 : PySem.W.kitOne K (.ref c8) (.ref c1) = some false)
    (k8_2 : PySem.W.kitOne K (.ref c8) (.ref c2) = some false)
    (k8_3 : PySem.W.kitOne K (.ref c8) (.ref c3) = some false)
    (k8_4 : PySem.W.kitOne K (.ref c8) (.ref c4) = some false)
    (k8_5 : PySem.W.kitOne K (.ref c8) (.ref c5) = some false)
    (k8_6 : PySem.W.kitOne K (.ref c8) (.ref c6) = some false)
    (k8_7 : PySem.W.kitOne K (.ref c8) (.ref c7) = some false)
    (k8_8 : PySem.W.kitOne K (.ref c8) (.ref c8) = some true)
    (k8_9 : PySem.W.kitOne K (.ref c8) (.ref c9) = some false)
    (k8_10 : PySem.W.kitOne K (.ref c8) (.ref c10) = some false)
    (k8_11 : PySem.W.kitOne K (.ref c8) (.ref c11) = some false)
    (k8_12 : PySem.W.kitOne K (.ref c8) (.ref c12) = some false)
    (k8_13 : PySem.W.kitOne K (.ref c8) (.ref c13) = some false)
    (x9 : ExcC K c9)
    (y9 : PySem.W.subIn K (.ref c9) (.ref CV) = some true)
    (v9 : PySem.W.kitOne K (.ref c9) (.type "ValueError") = some true)
    (k9_0 : PySem.W.kitOne K (.ref c9) (.ref c0) = some false)
    (k9_1 : PySem.W.kitOne K (.ref c9) (.ref c1) = some false)
    (k9_2 : PySem.W.kitOne K (.ref c9) (.ref c2) = some false)
    (k9_3 : PySem.W.kitOne K (.ref c9) (.ref c3) = some false)
    (k9_4 : PySem.W.kitOne K (.ref c9) (.ref c4) = some false)
    (k9_5 : PySem.W.kitOne K (.ref c9) (.ref c5) = some false)
    (k9_6 : PySem.W.kitOne K (.ref c9) (.ref c6) = some false)
    (k9_7 : PySem.W.kitOne K (.ref c9) (.ref c7) = some false)
    (k9_8 : PySem.W.kitOne K (.ref c9) (.ref c8) = some false)
    (k9_9 : PySem.W.kitOne K (.ref c9) (.ref c9) = some true)
    (k9_10 : PySem.W.kitOne K (.ref c9) (.ref c10) = some false)
    (k9_11 : PySem.W.kitOne K (.ref c9) (.ref c11) = some false)
    (k9_12 : PySem.W.kitOne K (.ref c9) (.ref c12) = some false)
    (k9_13 : PySem.W.kitOne K (.ref c9) (.ref c13) = some false)
    (x10 : ExcC K c10)
    (y10 : PySem.W.subIn K (.ref c10) (.ref CV) = some true)
    (v10 : PySem.W.kitOne K (.ref c10) (.type "ValueError") = some true)
    (k10_0 : PySem.W.kitOne K (.ref c10) (.ref c0) = some false)
    (k10_1 : PySem.W.kitOne K (.ref c10) (.ref c1) = some false)
    (k10_2 : PySem.W.kitOne K (.ref c10) (.ref c2) = some false)
    (k10_3 : PySem.W.kitOne K (.ref c10) (.ref c3) = some false)
    (k10_4 : PySem.W.kitOne K (.ref c10) (.ref c4) = some false)
    (k10_5 : PySem.W.kitOne K (.ref c10) (.ref c5) = some false)
    (k10_6 : PySem.W.kitOne K (.ref c10) (.ref c6) = some false)
    (k10_7 : PySem.W.kitOne K (.ref c10) (.ref c7) = some false)
    (k10_8 : PySem.W.kitOne K (.ref c10) (.ref c8) = some false)
    (k10_9 : PySem.W.kitOne K (.ref c10) (.ref c9) = some false)
    (k10_10 : PySem.W.kitOne K (.ref c10) (.ref c10) = some true)
    (k10_11 : PySem.W.kitOne K (.ref c10) (.ref c11) = some false)
    (k10_12 : PySem.W.kitOne K (.ref c10) (.ref c12) = some false)
    (k10_13 : PySem.W.kitOne K (.ref c10) (.ref c13) = some false)
    (x11 : ExcC K c11)
    (y11 : PySem.W.subIn K (.ref c11) (.ref CV) = some true)
    (v11 : PySem.W.kitOne K (.ref c11) (.type "ValueError") = some true)
    (k11_0 : PySem.W.kitOne K (.ref c11) (.ref c0) = some false)
    (k11_1 : PySem.W.kitOne K (.ref c11) (.ref c1) = some false)
    (k11_2 : PySem.W.kitOne K (.ref c11) (.ref c2) = some false)
    (k11_3 : PySem.W.kitOne K (.ref c11) (.ref c3) = some false)
    (k11_4 : PySem.W.kitOne K (.ref c11) (.ref c4) = some false)
    (k11_5 : PySem.W.kitOne K (.ref c11) (.ref c5) = some false)
    (k11_6 : PySem.W.kitOne K (.ref c11) (.ref c6) = some false)
    (k11_7 : PySem.W.kitOne K (.ref c11) (.ref c7) = some false)
    (k11_8 : PySem.W.kitOne K (.ref c11) (.ref c8) = some false)
    (k11_9 : PySem.W.kitOne K (.ref c11) (.ref c9) = some false)
    (k11_10 : PySem.W.kitOne K (.ref c11) (.ref c10) = some false)
    (k11_11 : PySem.W.kitOne K (.ref c11) (.ref c11) = some true)
    (k11_12 : PySem.W.kitOne K (.ref c11) (.ref c12) = some false)
    (k11_13 : PySem.W.kitOne K (.ref c11) (.ref c13) = some false)
    (x12 : ExcC K c12)
    (y12 : PySem.W.subIn K (.ref c12) (.ref CV) = some true)
    (v12 : PySem.W.kitOne K (.ref c12) (.type "ValueError") = some true)
    (k12_0 : PySem.W.kitOne K (.ref c12) (.ref c0) = some false)
    (k12_1 : PySem.W.kitOne K (.ref c12) (.ref c1) = some false)
    (k12_2 : PySem.W.kitOne K (.ref c12) (.ref c2) = some false)
    (k12_3 : PySem.W.kitOne K (.ref c12) (.ref c3) = some false)
    (k12_4 : PySem.W.kitOne K (.ref c12) (.ref c4) = some false)
    (k12_5 : PySem.W.kitOne K (.ref c12) (.ref c5) = some false)
    (k12_6 : PySem.W.kitOne K (.ref c12) (.ref c6) = some false)
    (k12_7 : PySem.W.kitOne K (.ref c12) (.ref c7) = some false)
    (k12_8 : PySem.W.kitOne K (.ref c12) (.ref c8) = some false)
    (k12_9 : PySem.W.kitOne K (.ref c12) (.ref c9) = some false)
    (k12_10 : PySem.W.kitOne K (.ref c12) (.ref c10) = some false)
    (k12_11 : PySem.W.kitOne K (.ref c12) (.ref c11) = some false)
    (k12_12 : PySem.W.kitOne K (.ref c12) (.ref c12) = some true)
    (k12_13 : PySem.W.kitOne K (.ref c12) (.ref c13) = some false)
    (x13 : ExcC K c13)
    (y13 : PySem.W.subIn K (.ref c13) (.ref CV) = some true)
    (v13 : PySem.W.kitOne K (.ref c13) (.type "ValueError") = some true)
    (k13_0 : PySem.W.kitOne K (.ref c13) (.ref c0) = some false)
    (k13_1 : PySem.W.kitOne K (.ref c13) (.ref c1) = some false)
    (k13_2 : PySem.W.kitOne K (.ref c13) (.ref c2) = some false)
    (k13_3 : PySem.W.kitOne K (.ref c13) (.ref c3) = some false)
    (k13_4 : PySem.W.kitOne K (.ref c13) (.ref c4) = some false)
    (k13_5 : PySem.W.kitOne K (.ref c13) (.ref c5) = some false)
    (k13_6 : PySem.W.kitOne K (.ref c13) (.ref c6) = some false)
    (k13_7 : PySem.W.kitOne K (.ref c13) (.ref c7) = some false)
    (k13_8 : PySem.W.kitOne K (.ref c13) (.ref c8) = some false)
    (k13_9 : PySem.W.kitOne K (.ref c13) (.ref c9) = some false)
    (k13_10 : PySem.W.kitOne K (.ref c13) (.ref c10) = some false)
    (k13_11 : PySem.W.kitOne K (.ref c13) (.ref c11) = some false)
    (k13_12 : PySem.W.kitOne K (.ref c13) (.ref c12) = some false)
    (k13_13 : PySem.W.kitOne K (.ref c13) (.ref c13) = some true)
    (l__law_bare : FnAt K "_law_bare" sBare)
    (l__law_raised : FnAt K "_law_raised" sRai)
    (l_law : FnAt K "law" sLaw) :
    ∃ fd : FuncData, (∀ (s : Shared) (v : Value), BindsTo s fd ⟨[v], []⟩ [("_law_script", v)]) ∧ ∀ base : Heap, K.In base → base.Ns mainGlobals mg → FnOk l.prog w K mg base CX0 4 fa fd ["_law_script"] (spLaw K) := by
  obtain ⟨f_law, d_law, u_law, F_law⟩ := l_law.ex
  have e := hfa.symm.trans (PySem.W.mg_of X G u_law)
  cases e
  obtain ⟨f__law_cell, d__law_cell, u__law_cell, F__law_cell⟩ := l__law_cell.ex
  obtain ⟨f__law_digits, d__law_digits, u__law_digits, F__law_digits⟩ := l__law_digits.ex
  obtain ⟨f__law_names, d__law_names, u__law_names, F__law_names⟩ := l__law_names.ex
  obtain ⟨f__law_bare, d__law_bare, u__law_bare, F__law_bare⟩ := l__law_bare.ex
  obtain ⟨f__law_raised, d__law_raised, u__law_raised, F__law_raised⟩ := l__law_raised.ex
  have b_law : ∀ (s : Shared) (v : Value), BindsTo s d_law ⟨[v], []⟩ [("_law_script", v)] := fun s v => by
    obtain ⟨oc, od, kV, doc, pm, an, cdv, ct, osl, rfl, lk, hcd⟩ := F_law.ex
    exact .of_eq rfl
  refine ⟨d_law, b_law, fun base _ _ => ?_⟩
  have m_len := PySem.W.mg_none_of X G z_len
  have m_int := PySem.W.mg_none_of X G z_int
  have m_range := PySem.W.mg_none_of X G z_range
  have D1 : Df l.prog w K mg base 1 "_law_cell" ["_law_script", "_law_k"] (spCl K) := mD F__law_cell (PySem.W.mg_of X G u__law_cell) (F__law_cell.binds (ps := ["_law_script", "_law_k"]) (by walk_at "b2")) (ok_cell F__law_cell m_len)
  have D2 : Df l.prog w K mg base 2 "_law_digits" ["_law_script", "_law_k", "_law_count"] (spDigits K) := mD F__law_digits (PySem.W.mg_of X G u__law_digits) (F__law_digits.binds (ps := ["_law_script", "_law_k", "_law_count"]) (by walk_at "b3")) (ok_digits F__law_digits m_int m_range D1)
  have D3 : Df l.prog w K mg base 3 "_law_names" ["_law_script", "_law_k", "_law_count"] (spNames K) := mD F__law_names (PySem.W.mg_of X G u__law_names) (F__law_names.binds (ps := ["_law_script", "_law_k", "_law_count"]) (by walk_at "b3")) (ok_names F__law_names m_int m_range D2)
  have m_isinstance := PySem.W.mg_none_of X G z_isinstance
  have m_ValueError := PySem.W.mg_none_of X G z_ValueError
  have TE0 : EBadName l.prog w K mg base c0 := er_BadName eX0 X G
  have nm0 := PySem.W.mg_of X G eX0.nm
  have no0 := eX0.no
  have TE1 : ETwice l.prog w K mg base c1 := er_Twice eX1 X G
  have nm1 := PySem.W.mg_of X G eX1.nm
  have no1 := eX1.no
  have TE2 : EUnknownNote l.prog w K mg base c2 := er_UnknownNote eX2 X G
  have nm2 := PySem.W.mg_of X G eX2.nm
  have no2 := eX2.no
  have TE3 : EUnknownPair l.prog w K mg base c3 := er_UnknownPair eX3 X G
  have nm3 := PySem.W.mg_of X G eX3.nm
  have no3 := eX3.no
  have TE4 : EBadRule l.prog w K mg base c4 := er_BadRule eX4 X G
  have nm4 := PySem.W.mg_of X G eX4.nm
  have no4 := eX4.no
  have TE5 : EBadLine l.prog w K mg base c5 := er_BadLine eX5 X G
  have nm5 := PySem.W.mg_of X G eX5.nm
  have no5 := eX5.no
  have TE6 : EBadPlace l.prog w K mg base c6 := er_BadPlace eX6 X G
  have nm6 := PySem.W.mg_of X G eX6.nm
  have no6 := eX6.no
  have TE7 : EBadAhead l.prog w K mg base c7 := er_BadAhead eX7 X G
  have nm7 := PySem.W.mg_of X G eX7.nm
  have no7 := eX7.no
  have TE8 : ESilent l.prog w K mg base c8 := er_Silent eX8 X G
  have nm8 := PySem.W.mg_of X G eX8.nm
  have no8 := eX8.no
  have nm9 := PySem.W.mg_of X G gx9
  have TE9 : Er0 K mg "TooMany" c9 := ⟨nm9, zk9, zx9, zs9, zt9⟩
  have nm10 := PySem.W.mg_of X G gx10
  have TE10 : Er0 K mg "SizeMismatch" c10 := ⟨nm10, zk10, zx10, zs10, zt10⟩
  have nm11 := PySem.W.mg_of X G gx11
  have TE11 : Er0 K mg "BadWindow" c11 := ⟨nm11, zk11, zx11, zs11, zt11⟩
  have nm12 := PySem.W.mg_of X G gx12
  have TE12 : Er0 K mg "NoAnswer" c12 := ⟨nm12, zk12, zx12, zs12, zt12⟩
  have nm13 := PySem.W.mg_of X G gx13
  have TE13 : Er0 K mg "NoMove" c13 := ⟨nm13, zk13, zx13, zs13, zt13⟩
  let T : Fin 14 → Addr := fun d => match d with | ⟨0, _⟩ => c0 | ⟨1, _⟩ => c1 | ⟨2, _⟩ => c2 | ⟨3, _⟩ => c3 | ⟨4, _⟩ => c4 | ⟨5, _⟩ => c5 | ⟨6, _⟩ => c6 | ⟨7, _⟩ => c7 | ⟨8, _⟩ => c8 | ⟨9, _⟩ => c9 | ⟨10, _⟩ => c10 | ⟨11, _⟩ => c11 | ⟨12, _⟩ => c12 | ⟨13, _⟩ => c13
  have U : E14 K mg T CV := ⟨fun d => match d with | ⟨0, _⟩ => x0 | ⟨1, _⟩ => x1 | ⟨2, _⟩ => x2 | ⟨3, _⟩ => x3 | ⟨4, _⟩ => x4 | ⟨5, _⟩ => x5 | ⟨6, _⟩ => x6 | ⟨7, _⟩ => x7 | ⟨8, _⟩ => x8 | ⟨9, _⟩ => x9 | ⟨10, _⟩ => x10 | ⟨11, _⟩ => x11 | ⟨12, _⟩ => x12 | ⟨13, _⟩ => x13, fun d => match d with | ⟨0, _⟩ => nm0 | ⟨1, _⟩ => nm1 | ⟨2, _⟩ => nm2 | ⟨3, _⟩ => nm3 | ⟨4, _⟩ => nm4 | ⟨5, _⟩ => nm5 | ⟨6, _⟩ => nm6 | ⟨7, _⟩ => nm7 | ⟨8, _⟩ => nm8 | ⟨9, _⟩ => nm9 | ⟨10, _⟩ => nm10 | ⟨11, _⟩ => nm11 | ⟨12, _⟩ => nm12 | ⟨13, _⟩ => nm13, fun d => match d with | ⟨0, _⟩ => exm_sub xV1 xV2 xV3 y0 | ⟨1, _⟩ => exm_sub xV1 xV2 xV3 y1 | ⟨2, _⟩ => exm_sub xV1 xV2 xV3 y2 | ⟨3, _⟩ => exm_sub xV1 xV2 xV3 y3 | ⟨4, _⟩ => exm_sub xV1 xV2 xV3 y4 | ⟨5, _⟩ => exm_sub xV1 xV2 xV3 y5 | ⟨6, _⟩ => exm_sub xV1 xV2 xV3 y6 | ⟨7, _⟩ => exm_sub xV1 xV2 xV3 y7 | ⟨8, _⟩ => exm_sub xV1 xV2 xV3 y8 | ⟨9, _⟩ => exm_sub xV1 xV2 xV3 y9 | ⟨10, _⟩ => exm_sub xV1 xV2 xV3 y10 | ⟨11, _⟩ => exm_sub xV1 xV2 xV3 y11 | ⟨12, _⟩ => exm_sub xV1 xV2 xV3 y12 | ⟨13, _⟩ => exm_sub xV1 xV2 xV3 y13, fun d => match d with | ⟨0, _⟩ => (fun i => match i with | ⟨0, _⟩ => k0_0 | ⟨1, _⟩ => k0_1 | ⟨2, _⟩ => k0_2 | ⟨3, _⟩ => k0_3 | ⟨4, _⟩ => k0_4 | ⟨5, _⟩ => k0_5 | ⟨6, _⟩ => k0_6 | ⟨7, _⟩ => k0_7 | ⟨8, _⟩ => k0_8 | ⟨9, _⟩ => k0_9 | ⟨10, _⟩ => k0_10 | ⟨11, _⟩ => k0_11 | ⟨12, _⟩ => k0_12 | ⟨13, _⟩ => k0_13) | ⟨1, _⟩ => (fun i => match i with | ⟨0, _⟩ => k1_0 | ⟨1, _⟩ => k1_1 | ⟨2, _⟩ => k1_2 | ⟨3, _⟩ => k1_3 | ⟨4, _⟩ => k1_4 | ⟨5, _⟩ => k1_5 | ⟨6, _⟩ => k1_6 | ⟨7, _⟩ => k1_7 | ⟨8, _⟩ => k1_8 | ⟨9, _⟩ => k1_9 | ⟨10, _⟩ => k1_10 | ⟨11, _⟩ => k1_11 | ⟨12, _⟩ => k1_12 | ⟨13, _⟩ => k1_13) | ⟨2, _⟩ => (fun i => match i with | ⟨0, _⟩ => k2_0 | ⟨1, _⟩ => k2_1 | ⟨2, _⟩ => k2_2 | ⟨3, _⟩ => k2_3 | ⟨4, _⟩ => k2_4 | ⟨5, _⟩ => k2_5 | ⟨6, _⟩ => k2_6 | ⟨7, _⟩ => k2_7 | ⟨8, _⟩ => k2_8 | ⟨9, _⟩ => k2_9 | ⟨10, _⟩ => k2_10 | ⟨11, _⟩ => k2_11 | ⟨12, _⟩ => k2_12 | ⟨13, _⟩ => k2_13) | ⟨3, _⟩ => (fun i => match i with | ⟨0, _⟩ => k3_0 | ⟨1, _⟩ => k3_1 | ⟨2, _⟩ => k3_2 | ⟨3, _⟩ => k3_3 | ⟨4, _⟩ => k3_4 | ⟨5, _⟩ => k3_5 | ⟨6, _⟩ => k3_6 | ⟨7, _⟩ => k3_7 | ⟨8, _⟩ => k3_8 | ⟨9, _⟩ => k3_9 | ⟨10, _⟩ => k3_10 | ⟨11, _⟩ => k3_11 | ⟨12, _⟩ => k3_12 | ⟨13, _⟩ => k3_13) | ⟨4, _⟩ => (fun i => match i with | ⟨0, _⟩ => k4_0 | ⟨1, _⟩ => k4_1 | ⟨2, _⟩ => k4_2 | ⟨3, _⟩ => k4_3 | ⟨4, _⟩ => k4_4 | ⟨5, _⟩ => k4_5 | ⟨6, _⟩ => k4_6 | ⟨7, _⟩ => k4_7 | ⟨8, _⟩ => k4_8 | ⟨9, _⟩ => k4_9 | ⟨10, _⟩ => k4_10 | ⟨11, _⟩ => k4_11 | ⟨12, _⟩ => k4_12 | ⟨13, _⟩ => k4_13) | ⟨5, _⟩ => (fun i => match i with | ⟨0, _⟩ => k5_0 | ⟨1, _⟩ => k5_1 | ⟨2, _⟩ => k5_2 | ⟨3, _⟩ => k5_3 | ⟨4, _⟩ => k5_4 | ⟨5, _⟩ => k5_5 | ⟨6, _⟩ => k5_6 | ⟨7, _⟩ => k5_7 | ⟨8, _⟩ => k5_8 | ⟨9, _⟩ => k5_9 | ⟨10, _⟩ => k5_10 | ⟨11, _⟩ => k5_11 | ⟨12, _⟩ => k5_12 | ⟨13, _⟩ => k5_13) | ⟨6, _⟩ => (fun i => match i with | ⟨0, _⟩ => k6_0 | ⟨1, _⟩ => k6_1 | ⟨2, _⟩ => k6_2 | ⟨3, _⟩ => k6_3 | ⟨4, _⟩ => k6_4 | ⟨5, _⟩ => k6_5 | ⟨6, _⟩ => k6_6 | ⟨7, _⟩ => k6_7 | ⟨8, _⟩ => k6_8 | ⟨9, _⟩ => k6_9 | ⟨10, _⟩ => k6_10 | ⟨11, _⟩ => k6_11 | ⟨12, _⟩ => k6_12 | ⟨13, _⟩ => k6_13) | ⟨7, _⟩ => (fun i => match i with | ⟨0, _⟩ => k7_0 | ⟨1, _⟩ => k7_1 | ⟨2, _⟩ => k7_2 | ⟨3, _⟩ => k7_3 | ⟨4, _⟩ => k7_4 | ⟨5, _⟩ => k7_5 | ⟨6, _⟩ => k7_6 | ⟨7, _⟩ => k7_7 | ⟨8, _⟩ => k7_8 | ⟨9, _⟩ => k7_9 | ⟨10, _⟩ => k7_10 | ⟨11, _⟩ => k7_11 | ⟨12, _⟩ => k7_12 | ⟨13, _⟩ => k7_13) | ⟨8, _⟩ => (fun i => match i with | ⟨0, _⟩ => k8_0 | ⟨1, _⟩ => k8_1 | ⟨2, _⟩ => k8_2 | ⟨3, _⟩ => k8_3 | ⟨4, _⟩ => k8_4 | ⟨5, _⟩ => k8_5 | ⟨6, _⟩ => k8_6 | ⟨7, _⟩ => k8_7 | ⟨8, _⟩ => k8_8 | ⟨9, _⟩ => k8_9 | ⟨10, _⟩ => k8_10 | ⟨11, _⟩ => k8_11 | ⟨12, _⟩ => k8_12 | ⟨13, _⟩ => k8_13) | ⟨9, _⟩ => (fun i => match i with | ⟨0, _⟩ => k9_0 | ⟨1, _⟩ => k9_1 | ⟨2, _⟩ => k9_2 | ⟨3, _⟩ => k9_3 | ⟨4, _⟩ => k9_4 | ⟨5, _⟩ => k9_5 | ⟨6, _⟩ => k9_6 | ⟨7, _⟩ => k9_7 | ⟨8, _⟩ => k9_8 | ⟨9, _⟩ => k9_9 | ⟨10, _⟩ => k9_10 | ⟨11, _⟩ => k9_11 | ⟨12, _⟩ => k9_12 | ⟨13, _⟩ => k9_13) | ⟨10, _⟩ => (fun i => match i with | ⟨0, _⟩ => k10_0 | ⟨1, _⟩ => k10_1 | ⟨2, _⟩ => k10_2 | ⟨3, _⟩ => k10_3 | ⟨4, _⟩ => k10_4 | ⟨5, _⟩ => k10_5 | ⟨6, _⟩ => k10_6 | ⟨7, _⟩ => k10_7 | ⟨8, _⟩ => k10_8 | ⟨9, _⟩ => k10_9 | ⟨10, _⟩ => k10_10 | ⟨11, _⟩ => k10_11 | ⟨12, _⟩ => k10_12 | ⟨13, _⟩ => k10_13) | ⟨11, _⟩ => (fun i => match i with | ⟨0, _⟩ => k11_0 | ⟨1, _⟩ => k11_1 | ⟨2, _⟩ => k11_2 | ⟨3, _⟩ => k11_3 | ⟨4, _⟩ => k11_4 | ⟨5, _⟩ => k11_5 | ⟨6, _⟩ => k11_6 | ⟨7, _⟩ => k11_7 | ⟨8, _⟩ => k11_8 | ⟨9, _⟩ => k11_9 | ⟨10, _⟩ => k11_10 | ⟨11, _⟩ => k11_11 | ⟨12, _⟩ => k11_12 | ⟨13, _⟩ => k11_13) | ⟨12, _⟩ => (fun i => match i with | ⟨0, _⟩ => k12_0 | ⟨1, _⟩ => k12_1 | ⟨2, _⟩ => k12_2 | ⟨3, _⟩ => k12_3 | ⟨4, _⟩ => k12_4 | ⟨5, _⟩ => k12_5 | ⟨6, _⟩ => k12_6 | ⟨7, _⟩ => k12_7 | ⟨8, _⟩ => k12_8 | ⟨9, _⟩ => k12_9 | ⟨10, _⟩ => k12_10 | ⟨11, _⟩ => k12_11 | ⟨12, _⟩ => k12_12 | ⟨13, _⟩ => k12_13) | ⟨13, _⟩ => (fun i => match i with | ⟨0, _⟩ => k13_0 | ⟨1, _⟩ => k13_1 | ⟨2, _⟩ => k13_2 | ⟨3, _⟩ => k13_3 | ⟨4, _⟩ => k13_4 | ⟨5, _⟩ => k13_5 | ⟨6, _⟩ => k13_6 | ⟨7, _⟩ => k13_7 | ⟨8, _⟩ => k13_8 | ⟨9, _⟩ => k13_9 | ⟨10, _⟩ => k13_10 | ⟨11, _⟩ => k13_11 | ⟨12, _⟩ => k13_12 | ⟨13, _⟩ => k13_13), fun d => match d with | ⟨0, _⟩ => v0 | ⟨1, _⟩ => v1 | ⟨2, _⟩ => v2 | ⟨3, _⟩ => v3 | ⟨4, _⟩ => v4 | ⟨5, _⟩ => v5 | ⟨6, _⟩ => v6 | ⟨7, _⟩ => v7 | ⟨8, _⟩ => v8 | ⟨9, _⟩ => v9 | ⟨10, _⟩ => v10 | ⟨11, _⟩ => v11 | ⟨12, _⟩ => v12 | ⟨13, _⟩ => v13, PySem.W.mg_of X G gV, m_ValueError, m_isinstance, m_range⟩
  have V : E9 l.prog w K mg base T := ⟨fun d => match d with | ⟨0, _⟩ => no0 | ⟨1, _⟩ => no1 | ⟨2, _⟩ => no2 | ⟨3, _⟩ => no3 | ⟨4, _⟩ => no4 | ⟨5, _⟩ => no5 | ⟨6, _⟩ => no6 | ⟨7, _⟩ => no7 | ⟨8, _⟩ => no8 | ⟨9, _⟩ => no9 | ⟨10, _⟩ => no10 | ⟨11, _⟩ => no11 | ⟨12, _⟩ => no12 | ⟨13, _⟩ => no13, TE0, TE1, TE2, TE3, TE4, TE5, TE6, TE7, TE8⟩
  have Z : ∀ d : Fin 5, Er0 K mg (nm14 (bare d)) (T (bare d)) := fun d => match d with | ⟨0, _⟩ => TE9 | ⟨1, _⟩ => TE10 | ⟨2, _⟩ => TE11 | ⟨3, _⟩ => TE12 | ⟨4, _⟩ => TE13
  have DB : Df l.prog w K mg base 2 "_law_bare" ["_law_k"] (spBare) := mD F__law_bare (PySem.W.mg_of X G u__law_bare) (F__law_bare.binds (ps := ["_law_k"]) (by walk_at "b1")) (ok_bare F__law_bare U Z)
  have DR : Df l.prog w K mg base 3 "_law_raised" ["_law_k", "_law_name", "_law_number"] (spRai) := mD F__law_raised (PySem.W.mg_of X G u__law_raised) (F__law_raised.binds (ps := ["_law_k", "_law_name", "_law_number"]) (by walk_at "b3")) (ok_rai F__law_raised U V DB)
  exact ok_law F_law m_int m_range D1 D3 DR
end
theorem walk {l : PySem.W.OpenLaw} {q : Program} {loose : List Str} {XP : (Str → Option Value) → Heap → Prop} {YP : World → Heap → Prop} {d : DefRec} {K : Params → PySem.W.Frag} (hn : l.most = some 63) (hdf : d.params.defaults = [])
    (hY : ∀ (w : World) (h : Heap), YP w h → (K w.params).In h)
    (F : ∀ (w : World) (mg : Str → Option Value) (fa : Addr) (h : Heap), (K w.params).In h → h.Ns mainGlobals mg → mg d.name = some (.ref fa) →
      ∃ fd : FuncData, (∀ (s : Shared) (u : Value), BindsTo s fd ⟨[u], []⟩ [("_law_script", u)]) ∧ ∀ base : Heap, (K w.params).In base → base.Ns mainGlobals mg → FnOk l.prog w (K w.params) mg base CX0 4 fa fd ["_law_script"] (spLaw (K w.params))) :
    PySem.W.WalkO q loose XP YP l.row.toRowW d [] (fun f vs => PySem.call f vs) :=
  L2.walk_of (n := 63) (k := 4) (x := "_law_script") (CX := fun _ => CX0) (sp := fun w => spLaw (K w.params)) hn (by decide) hdf ⟨rfl, by decide, by decide⟩ hY F (fun _ H a ns hl _ hS => ⟨ns, trivial, H, Ex.refl H, ⟨⟨a, rfl, hS⟩, trivial⟩, fun v H' F' g hv => hv⟩) fun _ _ _ _ _ z => z
end Kv

set_option Elab.async false
set_option linter.all false
set_option maxRecDepth 100000
open PySem PySem.W PyProof.Rows
local macro_rules | `(tactic| walk_at "def") => `(tactic| (refine' Lk.fn_at ?a ?l ?c ?k; (case a => k_is); (case l => k_is); (case c => k_is); (case k => k_is)))
local macro_rules | `(tactic| walk_at "met") => `(tactic| (refine' Lk.mt_at ?a ?i ?l ?c ?k; (case a => k_is); (case i => k_is); (case l => k_is); (case c => k_is); (case k => k_is)))
local macro_rules | `(tactic| walk_at "prp") => `(tactic| (refine' Lk.pr_at ?a ?g ?t ?r ?l ?c ?k; (case a => k_is); (case g => k_is); (case t => k_is); (case r => k_is); (case l => k_is); (case c => k_is); (case k => k_is)))
local macro_rules | `(tactic| walk_at "mk0") => `(tactic| (refine' Lk.mk_at0 ?n ?m ?kc ?a ?i ?l ?c ?k; (case n => k_is); (case m => k_is); (case kc => k_is); (case a => k_is); (case i => k_is); (case l => k_is); (case c => k_is); (case k => k_is)))
local macro_rules | `(tactic| walk_at "mk1") => `(tactic| (refine' Lk.mk_at1 ?n ?m ?kc ?a ?i ?l ?lt ?c ?k; (case n => k_is); (case m => k_is); (case kc => k_is); (case a => k_is); (case i => k_is); (case l => k_is); (case lt => k_is); (case c => k_is); (case k => k_is)))
local macro_rules | `(tactic| walk_at "cls") => `(tactic| (refine' ⟨?pg, ?hd, ?po, ?sa⟩; (case pg => k_is); (case hd => k_is); (case po => k_is); (case sa => k_is)))
local macro_rules | `(tactic| walk_at "exa") => `(tactic| (refine' Kv.ex_at ?nm ?cl ?rv ?sa ?exC ?tyC ?kC ?no ?su ?a ?ty ?lk ?cd ?lc ?v2 ?fe ?ce ?sub2 ?op ?ini ?sve ?top; (case nm => k_is); (case cl => k_is); (case rv => rfl); (case sa => k_is); (case exC => k_is); (case tyC => k_is); (case kC => k_is); (case no => k_is); (case su => k_is); (case a => k_is); (case ty => k_is); (case lk => k_is); (case cd => k_is); (case lc => k_is); (case v2 => rfl); (case fe => decide +kernel); (case ce => k_is); (case sub2 => k_is); (case op => k_is); (case ini => ks_is); (case sve => k_is); (case top => decide +kernel)))
local macro_rules | `(tactic| walk_at "exc") => `(tactic| (refine' ⟨?hg, ?hk, ?hs, ?hd, ?ha, ?hn, ?ht, ?hm⟩; (case hg => k_is); (case hk => k_is); (case hs => k_is); (case hd => k_is); (case ha => k_is); (case hn => k_is); (case ht => k_is); (case hm => k_is)))
local macro_rules | `(tactic| walk_at "btx") => `(tactic| (refine' ⟨?cb, ?cm, ?nG, ?nA, ?nM, ?nH⟩; (case cb => walk_at "cls"); (case cm => walk_at "cls"); (case nG => (unfold L2.NoAttr; k_is)); (case nA => (unfold L2.NoAttr; k_is)); (case nM => (unfold L2.NoAttr; k_is)); (case nH => (unfold L2.NoAttr; k_is))))
local macro_rules | `(tactic| walk_at "noat") => `(tactic| (unfold L2.NoAttr; k_is))
local macro_rules | `(tactic| walk_at "any") => `(tactic| first | k_is | rfl | decide +kernel)
set_option maxHeartbeats 0 in
theorem PySem.Challenge.cw_lookvoice_k48_errors_holds : PySem.Challenge.rw_lookvoice_k48_errors.Holds := by
  w_on; o_law; k_head; (case hw => w_witness2)
  k_fill
  refine Kv.walk (l := PySem.Challenge.rw_lookvoice_k48_errors) rfl rfl (fun w h Y => PySem.W.kIn_of Y) ?F
  case F =>
    intro w mg fa h KX G hmg
    refine' Kv.all_mk KX G hmg ?z_len ?z_int ?z_range ?l__law_cell ?l__law_digits ?l__law_names ?gV ?xV1 ?xV2 ?xV3 ?z_isinstance ?z_ValueError ?eX0 ?eX1 ?eX2 ?eX3 ?eX4 ?eX5 ?eX6 ?eX7 ?eX8 ?gx9 ?zk9 ?zx9 ?zs9 ?zt9 ?no9 ?gx10 ?zk10 ?zx10 ?zs10 ?zt10 ?no10 ?gx11 ?zk11 ?zx11 ?zs11 ?zt11 ?no11 ?gx12 ?zk12 ?zx12 ?zs12 ?zt12 ?no12 ?gx13 ?zk13 ?zx13 ?zs13 ?zt13 ?no13 ?x0 ?y0 ?v0 ?k0_0 ?k0_1 ?k0_2 ?k0_3 ?k0_4 ?k0_5 ?k0_6 ?k0_7 ?k0_8 ?k0_9 ?k0_10 ?k0_11 ?k0_12 ?k0_13 ?x1 ?y1 ?v1 ?k1_0 ?k1_1 ?k1_2 ?k1_3 ?k1_4 ?k1_5 ?k1_6 ?k1_7 ?k1_8 ?k1_9 ?k1_10 ?k1_11 ?k1_12 ?k1_13 ?x2 ?y2 ?v2 ?k2_0 ?k2_1 ?k2_2 ?k2_3 ?k2_4 ?k2_5 ?k2_6 ?k2_7 ?k2_8 ?k2_9 ?k2_10 ?k2_11 ?k2_12 ?k2_13 ?x3 ?y3 ?v3 ?k3_0 ?k3_1 ?k3_2 ?k3_3 ?k3_4 ?k3_5 ?k3_6 ?k3_7 ?k3_8 ?k3_9 ?k3_10 ?k3_11 ?k3_12 ?k3_13 ?x4 ?y4 ?v4 ?k4_0 ?k4_1 ?k4_2 ?k4_3 ?k4_4 ?k4_5 ?k4_6 ?k4_7 ?k4_8 ?k4_9 ?k4_10 ?k4_11 ?k4_12 ?k4_13 ?x5 ?y5 ?v5 ?k5_0 ?k5_1 ?k5_2 ?k5_3 ?k5_4 ?k5_5 ?k5_6 ?k5_7 ?k5_8 ?k5_9 ?k5_10 ?k5_11 ?k5_12 ?k5_13 ?x6 ?y6 ?v6 ?k6_0 ?k6_1 ?k6_2 ?k6_3 ?k6_4 ?k6_5 ?k6_6 ?k6_7 ?k6_8 ?k6_9 ?k6_10 ?k6_11 ?k6_12 ?k6_13 ?x7 ?y7 ?v7 ?k7_0 ?k7_1 ?k7_2 ?k7_3 ?k7_4 ?k7_5 ?k7_6 ?k7_7 ?k7_8 ?k7_9 ?k7_10 ?k7_11 ?k7_12 ?k7_13 ?x8 ?y8 ?v8 ?k8_0 ?k8_1 ?k8_2 ?k8_3 ?k8_4 ?k8_5 ?k8_6 ?k8_7 ?k8_8 ?k8_9 ?k8_10 ?k8_11 ?k8_12 ?k8_13 ?x9 ?y9 ?v9 ?k9_0 ?k9_1 ?k9_2 ?k9_3 ?k9_4 ?k9_5 ?k9_6 ?k9_7 ?k9_8 ?k9_9 ?k9_10 ?k9_11 ?k9_12 ?k9_13 ?x10 ?y10 ?v10 ?k10_0 ?k10_1 ?k10_2 ?k10_3 ?k10_4 ?k10_5 ?k10_6 ?k10_7 ?k10_8 ?k10_9 ?k10_10 ?k10_11 ?k10_12 ?k10_13 ?x11 ?y11 ?v11 ?k11_0 ?k11_1 ?k11_2 ?k11_3 ?k11_4 ?k11_5 ?k11_6 ?k11_7 ?k11_8 ?k11_9 ?k11_10 ?k11_11 ?k11_12 ?k11_13 ?x12 ?y12 ?v12 ?k12_0 ?k12_1 ?k12_2 ?k12_3 ?k12_4 ?k12_5 ?k12_6 ?k12_7 ?k12_8 ?k12_9 ?k12_10 ?k12_11 ?k12_12 ?k12_13 ?x13 ?y13 ?v13 ?k13_0 ?k13_1 ?k13_2 ?k13_3 ?k13_4 ?k13_5 ?k13_6 ?k13_7 ?k13_8 ?k13_9 ?k13_10 ?k13_11 ?k13_12 ?k13_13 ?l__law_bare ?l__law_raised ?l_law
    (case eX0 => walk_at "exa")
    (case eX1 => walk_at "exa")
    (case eX2 => walk_at "exa")
    (case eX3 => walk_at "exa")
    (case eX4 => walk_at "exa")
    (case eX5 => walk_at "exa")
    (case eX6 => walk_at "exa")
    (case eX7 => walk_at "exa")
    (case eX8 => walk_at "exa")
    (case gV => k_is)
    (case gx9 => k_is)
    (case gx10 => k_is)
    (case gx11 => k_is)
    (case gx12 => k_is)
    (case gx13 => k_is)
    (case z_len => k_is)
    (case z_int => k_is)
    (case z_range => k_is)
    (case l__law_cell => walk_at "def")
    (case l__law_digits => walk_at "def")
    (case l__law_names => walk_at "def")
    (case xV1 => k_is)
    (case xV2 => k_is)
    (case xV3 => k_is)
    (case z_isinstance => k_is)
    (case z_ValueError => k_is)
    (case zk9 => k_is)
    (case zx9 => k_exc)
    (case zs9 => k_is)
    (case zt9 => k_is)
    (case no9 => k_is)
    (case zk10 => k_is)
    (case zx10 => k_exc)
    (case zs10 => k_is)
    (case zt10 => k_is)
    (case no10 => k_is)
    (case zk11 => k_is)
    (case zx11 => k_exc)
    (case zs11 => k_is)
    (case zt11 => k_is)
    (case no11 => k_is)
    (case zk12 => k_is)
    (case zx12 => k_exc)
    (case zs12 => k_is)
    (case zt12 => k_is)
    (case no12 => k_is)
    (case zk13 => k_is)
    (case zx13 => k_exc)
    (case zs13 => k_is)
    (case zt13 => k_is)
    (case no13 => k_is)
    (case x0 => walk_at "exc")
    (case y0 => walk_at "any")
    (case v0 => walk_at "any")
    (case k0_0 => walk_at "any")
    (case k0_1 => walk_at "any")
    (case k0_2 => walk_at "any")
    (case k0_3 => walk_at "any")
    (case k0_4 => walk_at "any")
    (case k0_5 => walk_at "any")
    (case k0_6 => walk_at "any")
    (case k0_7 => walk_at "any")
    (case k0_8 => walk_at "any")
    (case k0_9 => walk_at "any")
    (case k0_10 => walk_at "any")
    (case k0_11 => walk_at "any")
    (case k0_12 => walk_at "any")
    (case k0_13 => walk_at "any")
    (case x1 => walk_at "exc")
    (case y1 => walk_at "any")
    (case v1 => walk_at "any")
    (case k1_0 => walk_at "any")
    (case k1_1 => walk_at "any")
    (case k1_2 => walk_at "any")
    (case k1_3 => walk_at "any")
    (case k1_4 => walk_at "any")
    (case k1_5 => walk_at "any")
    (case k1_6 => walk_at "any")
    (case k1_7 => walk_at "any")
    (case k1_8 => walk_at "any")
    (case k1_9 => walk_at "any")
    (case k1_10 => walk_at "any")
    (case k1_11 => walk_at "any")
    (case k1_12 => walk_at "any")
    (case k1_13 => walk_at "any")
    (case x2 => walk_at "exc")
    (case y2 => walk_at "any")
    (case v2 => walk_at "any")
    (case k2_0 => walk_at "any")
    (case k2_1 => walk_at "any")
    (case k2_2 => walk_at "any")
    (case k2_3 => walk_at "any")
    (case k2_4 => walk_at "any")
    (case k2_5 => walk_at "any")
    (case k2_6 => walk_at "any")
    (case k2_7 => walk_at "any")
    (case k2_8 => walk_at "any")
    (case k2_9 => walk_at "any")
    (case k2_10 => walk_at "any")
    (case k2_11 => walk_at "any")
    (case k2_12 => walk_at "any")
    (case k2_13 => walk_at "any")
    (case x3 => walk_at "exc")
    (case y3 => walk_at "any")
    (case v3 => walk_at "any")
    (case k3_0 => walk_at "any")
    (case k3_1 => walk_at "any")
    (case k3_2 => walk_at "any")
    (case k3_3 => walk_at "any")
    (case k3_4 => walk_at "any")
    (case k3_5 => walk_at "any")
    (case k3_6 => walk_at "any")
    (case k3_7 => walk_at "any")
    (case k3_8 => walk_at "any")
    (case k3_9 => walk_at "any")
    (case k3_10 => walk_at "any")
    (case k3_11 => walk_at "any")
    (case k3_12 => walk_at "any")
    (case k3_13 => walk_at "any")
    (case x4 => walk_at "exc")
    (case y4 => walk_at "any")
    (case v4 => walk_at "any")
    (case k4_0 => walk_at "any")
    (case k4_1 => walk_at "any")
    (case k4_2 => walk_at "any")
    (case k4_3 => walk_at "any")
    (case k4_4 => walk_at "any")
    (case k4_5 => walk_at "any")
    (case k4_6 => walk_at "any")
    (case k4_7 => walk_at "any")
    (case k4_8 => walk_at "any")
    (case k4_9 => walk_at "any")
    (case k4_10 => walk_at "any")
    (case k4_11 => walk_at "any")
    (case k4_12 => walk_at "any")
    (case k4_13 => walk_at "any")
    (case x5 => walk_at "exc")
    (case y5 => walk_at "any")
    (case v5 => walk_at "any")
    (case k5_0 => walk_at "any")
    (case k5_1 => walk_at "any")
    (case k5_2 => walk_at "any")
    (case k5_3 => walk_at "any")
    (case k5_4 => walk_at "any")
    (case k5_5 => walk_at "any")
    (case k5_6 => walk_at "any")
    (case k5_7 => walk_at "any")
    (case k5_8 => walk_at "any")
    (case k5_9 => walk_at "any")
    (case k5_10 => walk_at "any")
    (case k5_11 => walk_at "any")
    (case k5_12 => walk_at "any")
    (case k5_13 => walk_at "any")
    (case x6 => walk_at "exc")
    (case y6 => walk_at "any")
    (case v6 => walk_at "any")
    (case k6_0 => walk_at "any")
    (case k6_1 => walk_at "any")
    (case k6_2 => walk_at "any")
    (case k6_3 => walk_at "any")
    (case k6_4 => walk_at "any")
    (case k6_5 => walk_at "any")
    (case k6_6 => walk_at "any")
    (case k6_7 => walk_at "any")
    (case k6_8 => walk_at "any")
    (case k6_9 => walk_at "any")
    (case k6_10 => walk_at "any")
    (case k6_11 => walk_at "any")
    (case k6_12 => walk_at "any")
    (case k6_13 => walk_at "any")
    (case x7 => walk_at "exc")
    (case y7 => walk_at "any")
    (case v7 => walk_at "any")
    (case k7_0 => walk_at "any")
    (case k7_1 => walk_at "any")
    (case k7_2 => walk_at "any")
    (case k7_3 => walk_at "any")
    (case k7_4 => walk_at "any")
    (case k7_5 => walk_at "any")
    (case k7_6 => walk_at "any")
    (case k7_7 => walk_at "any")
    (case k7_8 => walk_at "any")
    (case k7_9 => walk_at "any")
    (case k7_10 => walk_at "any")
    (case k7_11 => walk_at "any")
    (case k7_12 => walk_at "any")
    (case k7_13 => walk_at "any")
    (case x8 => walk_at "exc")
    (case y8 => walk_at "any")
    (case v8 => walk_at "any")
    (case k8_0 => walk_at "any")
    (case k8_1 => walk_at "any")
    (case k8_2 => walk_at "any")
    (case k8_3 => walk_at "any")
    (case k8_4 => walk_at "any")
    (case k8_5 => walk_at "any")
    (case k8_6 => walk_at "any")
    (case k8_7 => walk_at "any")
    (case k8_8 => walk_at "any")
    (case k8_9 => walk_at "any")
    (case k8_10 => walk_at "any")
    (case k8_11 => walk_at "any")
    (case k8_12 => walk_at "any")
    (case k8_13 => walk_at "any")
    (case x9 => walk_at "exc")
    (case y9 => walk_at "any")
    (case v9 => walk_at "any")
    (case k9_0 => walk_at "any")
    (case k9_1 => walk_at "any")
    (case k9_2 => walk_at "any")
    (case k9_3 => walk_at "any")
    (case k9_4 => walk_at "any")
    (case k9_5 => walk_at "any")
    (case k9_6 => walk_at "any")
    (case k9_7 => walk_at "any")
    (case k9_8 => walk_at "any")
    (case k9_9 => walk_at "any")
    (case k9_10 => walk_at "any")
    (case k9_11 => walk_at "any")
    (case k9_12 => walk_at "any")
    (case k9_13 => walk_at "any")
    (case x10 => walk_at "exc")
    (case y10 => walk_at "any")
    (case v10 => walk_at "any")
    (case k10_0 => walk_at "any")
    (case k10_1 => walk_at "any")
    (case k10_2 => walk_at "any")
    (case k10_3 => walk_at "any")
    (case k10_4 => walk_at "any")
    (case k10_5 => walk_at "any")
    (case k10_6 => walk_at "any")
    (case k10_7 => walk_at "any")
    (case k10_8 => walk_at "any")
    (case k10_9 => walk_at "any")
    (case k10_10 => walk_at "any")
    (case k10_11 => walk_at "any")
    (case k10_12 => walk_at "any")
    (case k10_13 => walk_at "any")
    (case x11 => walk_at "exc")
    (case y11 => walk_at "any")
    (case v11 => walk_at "any")
    (case k11_0 => walk_at "any")
    (case k11_1 => walk_at "any")
    (case k11_2 => walk_at "any")
    (case k11_3 => walk_at "any")
    (case k11_4 => walk_at "any")
    (case k11_5 => walk_at "any")
    (case k11_6 => walk_at "any")
    (case k11_7 => walk_at "any")
    (case k11_8 => walk_at "any")
    (case k11_9 => walk_at "any")
    (case k11_10 => walk_at "any")
    (case k11_11 => walk_at "any")
    (case k11_12 => walk_at "any")
    (case k11_13 => walk_at "any")
    (case x12 => walk_at "exc")
    (case y12 => walk_at "any")
    (case v12 => walk_at "any")
    (case k12_0 => walk_at "any")
    (case k12_1 => walk_at "any")
    (case k12_2 => walk_at "any")
    (case k12_3 => walk_at "any")
    (case k12_4 => walk_at "any")
    (case k12_5 => walk_at "any")
    (case k12_6 => walk_at "any")
    (case k12_7 => walk_at "any")
    (case k12_8 => walk_at "any")
    (case k12_9 => walk_at "any")
    (case k12_10 => walk_at "any")
    (case k12_11 => walk_at "any")
    (case k12_12 => walk_at "any")
    (case k12_13 => walk_at "any")
    (case x13 => walk_at "exc")
    (case y13 => walk_at "any")
    (case v13 => walk_at "any")
    (case k13_0 => walk_at "any")
    (case k13_1 => walk_at "any")
    (case k13_2 => walk_at "any")
    (case k13_3 => walk_at "any")
    (case k13_4 => walk_at "any")
    (case k13_5 => walk_at "any")
    (case k13_6 => walk_at "any")
    (case k13_7 => walk_at "any")
    (case k13_8 => walk_at "any")
    (case k13_9 => walk_at "any")
    (case k13_10 => walk_at "any")
    (case k13_11 => walk_at "any")
    (case k13_12 => walk_at "any")
    (case k13_13 => walk_at "any")
    (case l__law_bare => walk_at "def")
    (case l__law_raised => walk_at "def")
    (case l_law => walk_at "def")
#print axioms PySem.Challenge.cw_lookvoice_k48_errors_holds
