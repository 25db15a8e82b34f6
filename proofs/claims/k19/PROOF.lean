import PyProof.Rows.All
import Wide.All
import OpenK.AllK
import Wide.FinOn
import HandS.ForMost
import HandS.Deep
import HandS.Star
import HandS.Property
import HandS.Exc
import HandS.StrMore
import HandS.Text
import HandS.More
import HandS.Dict
import HandS.Rev
import HandS.IsInst
import HandS.ExcInit
import HandS.ExcOwn
import HandS.TryOnly
import HandS.Nested
import HandS.FStr
import HandS.FStrTup
import KE.KExcSuper
import HandS.DictComp
import HandS.SortInts
import HandS.Zip
import HandS.WordsExc
import HandS.ExcIs
import KE.KExcIs
import HandS.HotCalls
import HandS.TupAny
import PyProof.DictMoreH
import HandS.DictTup
import HandS.SetKeys
import KE.KeyNested
import KE.KDictKeyed
import PyProof.DictRoadsH
import HandS.SetFor
import KE.DataFind
import HandS.Defaults
import HandS.Iter
import KE.KDictWalk
import KE.KUnpackStar
import KE.GoesEnum
import HandS.TupLe
import KE.RegKSuper
import PySem.Challenge.RW_lookvoice_k19_whole_answer
set_option Elab.async false
set_option linter.all false
set_option maxRecDepth 100000
set_option maxHeartbeats 4000000
namespace Lk
open PySem L2

/-! ### heaps that grow -/
def Ex (H H' : Hp) : Prop := ∀ a o, H a = some o → H' a = some o
theorem Ex.refl (H : Hp) : Ex H H := fun _ _ h => h
theorem Ex.trans {H H1 H2 : Hp} (a : Ex H H1) (b : Ex H1 H2) : Ex H H2 := fun x o h => b x o (a x o h)
theorem Ex.new {H : Hp} {p : Addr} {o : HO} (h : H p = none) : Ex H (upd H p o) := fun a u e => by
  rw [upd_ne (ne_of_none e h)]
  exact e
theorem Ex.none {H H' : Hp} (e : Ex H H') {p : Addr} (h : H' p = none) : H p = none := by
  cases h1 : H p with
  | none => rfl
  | some o =>
    rw [e p o h1] at h
    cases h
theorem Ex.rd {H H' : Hp} {a : Addr} {u : HO} (e : Ex H H') (h : Rd H a u) : Rd H' a u := by
  rcases h with h | ⟨o, h⟩
  · exact Or.inl (e a _ h)
  · exact Or.inr ⟨o, e a _ h⟩
theorem Ex.sql {K : PySem.W.Frag} {H H' : Hp} {a : Addr} {xs : List V} (e : Ex H H') (h : SqL K H a xs) : SqL K H' a xs := by
  rcases h with h | h
  · exact Or.inl (e.rd h)
  · exact Or.inr h
theorem Ex.sqt {K : PySem.W.Frag} {H H' : Hp} {a : Addr} {xs : List V} (e : Ex H H') (h : SqT K H a xs) : SqT K H' a xs := by
  rcases h with h | h
  · exact Or.inl (e.rd h)
  · exact Or.inr h
/-- F, a part of H, has grown to F', H to H'; what was in H outside of F is outside of F' -/
structure Gr (F H F' H' : Hp) : Prop where
  f : Ex F F'
  h : Ex H H'
  i : Ex F' H'
  n : ∀ a o, H a = some o → F a = none → F' a = none
theorem Gr.refl {F H : Hp} (e : Ex F H) : Gr F H F H := ⟨Ex.refl F, Ex.refl H, e, fun _ _ _ h => h⟩
theorem Gr.trans {F H F1 H1 F2 H2 : Hp} (a : Gr F H F1 H1) (b : Gr F1 H1 F2 H2) : Gr F H F2 H2 :=
  ⟨a.f.trans b.f, a.h.trans b.h, b.i, fun x o h1 h2 => b.n x o (a.h x o h1) (a.n x o h1 h2)⟩
/-- a new object, in both -/
theorem Gr.new {F H : Hp} {p : Addr} {o : HO} (e : Ex F H) (hp : H p = none) : Gr F H (upd F p o) (upd H p o) := by
  refine ⟨Ex.new (e.none hp), Ex.new hp, fun a u h => ?_, fun a u h1 h2 => ?_⟩
  · by_cases hb : a = p
    · rw [hb, upd_same] at h
      rw [hb, upd_same]
      exact h
    · rw [upd_ne hb] at h
      rw [upd_ne hb]
      exact e a u h
  · rw [upd_ne (ne_of_none h1 hp)]
    exact h2
/-- a new object, in H alone -/
theorem Gr.newH {F H : Hp} {p : Addr} {o : HO} (e : Ex F H) (hp : H p = none) : Gr F H F (upd H p o) :=
  ⟨Ex.refl F, Ex.new hp, e.trans (Ex.new hp), fun _ _ _ h => h⟩
/-- an object of H' that was not in H is taken in -/
theorem Gr.take {F H F' H' : Hp} {p : Addr} {o : HO} (g : Gr F H F' H') (hn : H p = none) (hF : F' p = none) (hp : H' p = some o) : Gr F H (upd F' p o) H' := by
  refine ⟨g.f.trans (Ex.new hF), g.h, fun a u h => ?_, fun a u h1 h2 => ?_⟩
  · by_cases hb : a = p
    · rw [hb, upd_same] at h
      rw [hb, hp]
      exact h
    · rw [upd_ne hb] at h
      exact g.i a u h
  · rw [upd_ne (ne_of_none h1 hn)]
    exact g.n a u h1 h2

/-! ### what is said of a value -/
structure As where
  p : Hp → V → Prop
  mono : ∀ {F F' : Hp} {v : V}, Ex F F' → p F v → p F' v
def sc (c : V) : As := ⟨fun _ v => v = c, fun _ h => h⟩
abbrev int (i : Int) : As := sc (.int i)
abbrev str (s : Str) : As := sc (.str s)
abbrev bl (b : Bool) : As := sc (.bl b)
abbrev non : As := sc .non
def AllV (F : Hp) : List V → List As → Prop
  | [], [] => True
  | v :: vs, A :: l => A.p F v ∧ AllV F vs l
  | _, _ => False
theorem AllV.mono {F F' : Hp} (e : Ex F F') : ∀ {vs : List V} {l : List As}, AllV F vs l → AllV F' vs l
  | [], [], h => h
  | _ :: _, A :: _, h => ⟨A.mono e h.1, AllV.mono e h.2⟩
  | [], _ :: _, h => h.elim
  | _ :: _, [], h => h.elim
theorem AllV.length {F : Hp} : ∀ {vs : List V} {l : List As}, AllV F vs l → vs.length = l.length
  | [], [], _ => rfl
  | _ :: _, _ :: _, h => congrArg (· + 1) (AllV.length h.2)
  | [], _ :: _, h => h.elim
  | _ :: _, [], h => h.elim
theorem AllV.get {F : Hp} : ∀ {vs : List V} {l : List As} {i : Nat} {A : As}, AllV F vs l → l[i]? = some A → ∃ v, vs[i]? = some v ∧ A.p F v
  | v :: _, B :: _, 0, A, h, e => by
    have e : B = A := by simpa using e
    subst e
    exact ⟨v, rfl, h.1⟩
  | _ :: vs, _ :: l, i + 1, A, h, e => by
    obtain ⟨v, h1, h2⟩ := AllV.get (vs := vs) (l := l) (i := i) h.2 (by simpa using e)
    exact ⟨v, by simpa using h1, h2⟩
  | [], [], _, _, _, e => by simp at e
  | [], _ :: _, _, _, h, _ => h.elim
  | _ :: _, [], _, _, h, _ => h.elim
theorem AllV.append {F : Hp} : ∀ {vs us : List V} {l m : List As}, AllV F vs l → AllV F us m → AllV F (vs ++ us) (l ++ m)
  | [], _, [], _, _, k => k
  | _ :: _, _, _ :: _, _, h, k => ⟨h.1, AllV.append h.2 k⟩
  | [], _, _ :: _, _, h, _ => h.elim
  | _ :: _, _, [], _, h, _ => h.elim
theorem AllV.nil {F : Hp} : AllV F [] [] := trivial
theorem AllV.one {F : Hp} {v : V} {A : As} (h : A.p F v) : AllV F [v] [A] := ⟨h, trivial⟩
theorem AllV.snoc {F : Hp} {vs : List V} {l : List As} {v : V} {A : As} (h : AllV F vs l) (k : A.p F v) : AllV F (vs ++ [v]) (l ++ [A]) := h.append (.one k)
theorem AllV.take {F : Hp} : ∀ {vs : List V} {l : List As} (n : Nat), AllV F vs l → AllV F (vs.take n) (l.take n)
  | _, _, 0, _ => by simp [AllV]
  | [], [], _ + 1, _ => trivial
  | _ :: _, _ :: _, n + 1, h => ⟨h.1, AllV.take n h.2⟩
  | [], _ :: _, _ + 1, h => h.elim
  | _ :: _, [], _ + 1, h => h.elim
theorem AllV.drop {F : Hp} : ∀ {vs : List V} {l : List As} (n : Nat), AllV F vs l → AllV F (vs.drop n) (l.drop n)
  | _, _, 0, h => h
  | [], [], _ + 1, _ => trivial
  | _ :: _, _ :: _, n + 1, h => AllV.drop n h.2
  | [], _ :: _, _ + 1, h => h.elim
  | _ :: _, [], _ + 1, h => h.elim
theorem AllV.scs {F : Hp} : ∀ {vs : List V} {cs : List V}, AllV F vs (cs.map sc) → vs = cs
  | [], [], _ => rfl
  | v :: vs, c :: cs, h => by
    have e : v = c := h.1
    rw [e, AllV.scs (vs := vs) (cs := cs) h.2]
  | [], _ :: _, h => h.elim
  | _ :: _, [], h => h.elim
theorem AllV.of_scs {F : Hp} : ∀ {cs : List V}, AllV F cs (cs.map sc)
  | [] => trivial
  | _ :: _ => ⟨rfl, AllV.of_scs⟩
theorem AllV.eraseIdx {F : Hp} : ∀ {vs : List V} {l : List As} (n : Nat), AllV F vs l → AllV F (vs.eraseIdx n) (l.eraseIdx n)
  | [], [], _, _ => by simp [AllV]
  | _ :: _, _ :: _, 0, h => h.2
  | _ :: _, _ :: _, n + 1, h => ⟨h.1, AllV.eraseIdx n h.2⟩
  | [], _ :: _, _, h => h.elim
  | _ :: _, [], _, h => h.elim
theorem AllV.imp {F : Hp} {α : Type} {f g : α → As} : ∀ {vs : List V} {l : List α}, AllV F vs (l.map f) → (∀ a ∈ l, ∀ v, (f a).p F v → (g a).p F v) → AllV F vs (l.map g)
  | [], [], _, _ => trivial
  | _ :: vs, a :: l, h, k => ⟨k a List.mem_cons_self _ h.1, AllV.imp (vs := vs) (l := l) h.2 fun b hb => k b (List.mem_cons_of_mem _ hb)⟩
  | [], _ :: _, h, _ => h.elim
  | _ :: _, [], h, _ => h.elim
/-- a list, a tuple of what is said -/
def lstA (l : List As) : As := ⟨fun F v => ∃ a xs, v = .ref a ∧ F a = some (.lst xs) ∧ AllV F xs l, fun e ⟨a, xs, h1, h2, h3⟩ => ⟨a, xs, h1, e a _ h2, h3.mono e⟩⟩
def tupA (l : List As) : As := ⟨fun F v => ∃ a xs, v = .ref a ∧ F a = some (.tup xs) ∧ AllV F xs l, fun e ⟨a, xs, h1, h2, h3⟩ => ⟨a, xs, h1, e a _ h2, h3.mono e⟩⟩
def exA {ι : Type} (pre : ι → Prop) (f : ι → As) : As := ⟨fun F v => ∃ i, pre i ∧ (f i).p F v, fun e ⟨i, h, k⟩ => ⟨i, h, (f i).mono e k⟩⟩
/-- ints of the script -/
def scr (K : PySem.W.Frag) (ns : List Int) : As := ⟨fun F v => ∃ a, v = .ref a ∧ SqL K F a (ns.map V.int), fun e ⟨a, h1, h2⟩ => ⟨a, h1, e.sql h2⟩⟩

/-! ### the slots -/
/-- what is said of an object of one's own that is no list -/
structure Ob where
  p : Hp → Addr → HO → Prop
  mono : ∀ {F F' : Hp} {a : Addr} {o : HO}, Ex F F' → p F a o → p F' a o
inductive En where
  | no
  | fr (A : As)
  | own (l : List As)
  | ow (B : Ob)
def En.Mn : En → Prop
  | .own _ => True
  | .ow _ => True
  | _ => False
def En.mnB : En → Bool
  | .own _ => true
  | .ow _ => true
  | _ => false
theorem no_mn {ρ : List En} (h : ρ.any En.mnB = false) {i : Nat} {x : En} (e : ρ[i]? = some x) : ¬ x.Mn := fun m => by
  have z : ρ.any En.mnB = true := List.any_eq_true.mpr ⟨x, List.mem_of_getElem? e, by
    cases x with
    | no => exact m.elim
    | fr A => exact m.elim
    | own l => rfl
    | ow B => rfl⟩
  rw [h] at z
  cases z
structure Sat (H0 F : Hp) (σ : L2.St) (H : Hp) (ρ : List En) : Prop where
  ex : Ex F H
  fr : ∀ (i : Nat) (A : As), ρ[i]? = some (En.fr A) → ∃ v : V, σ[i]? = some (some v) ∧ A.p F v
  own : ∀ (i : Nat) (l : List As), ρ[i]? = some (En.own l) → ∃ (p : Addr) (xs : List V), σ[i]? = some (some (V.ref p)) ∧ F p = none ∧ H0 p = none ∧ H p = some (HO.lst xs) ∧ AllV F xs l
  sep : ∀ (i j : Nat) (e e' : En) (p : Addr), ρ[i]? = some e → ρ[j]? = some e' → e.Mn → e'.Mn → σ[i]? = some (some (V.ref p)) → σ[j]? = some (some (V.ref p)) → i = j
  len : ρ.length = σ.length
  ow : ∀ (i : Nat) (B : Ob), ρ[i]? = some (En.ow B) → ∃ (p : Addr) (o : HO), σ[i]? = some (some (V.ref p)) ∧ F p = none ∧ H0 p = none ∧ H p = some o ∧ B.p F p o
theorem Sat.gr {H0 F H F' H' : Hp} {σ : L2.St} {ρ : List En} (S : Sat H0 F σ H ρ) (g : Gr F H F' H') : Sat H0 F' σ H' ρ := by
  refine ⟨g.i, fun i A e => ?_, fun i l e => ?_, S.sep, S.len, fun i B e => ?_⟩
  · obtain ⟨v, h1, h2⟩ := S.fr i A e
    exact ⟨v, h1, A.mono g.f h2⟩
  · obtain ⟨p, xs, h1, h2, h3, h4, h5⟩ := S.own i l e
    exact ⟨p, xs, h1, g.n p _ h4 h2, h3, g.h p _ h4, h5.mono g.f⟩
  · obtain ⟨p, o, h1, h2, h3, h4, h5⟩ := S.ow i B e
    exact ⟨p, o, h1, g.n p _ h4 h2, h3, g.h p _ h4, B.mono g.f h5⟩

/-! ### expressions -/
def tA (ρ : List En) (A : As) : TE := fun σ H Q => ∃ H0 F, Sat H0 F σ H ρ ∧ ∀ v H' F', Gr F H F' H' → A.p F' v → Q v H'
def tW (ρ : List En) (A : As) : TE := fun σ H Q => ∃ H0 F, Sat H0 F σ H ρ ∧ ∀ v H' F', Gr F H F' H' → A.p H' v → Q v H'
def tL (ρ : List En) (l : List As) : TE := fun σ H Q => ∃ H0 F, Sat H0 F σ H ρ ∧ ∀ a xs H' F', Gr F H F' H' → H' a = some (.lst xs) → AllV F' xs l → Q (.ref a) H'
def tN (ρ : List En) (l : List As) : TE := fun σ H Q => ∃ H0 F, Sat H0 F σ H ρ ∧ ∀ a xs H' F', Gr F H F' H' → H a = none → F' a = none → H' a = some (.lst xs) → AllV F' xs l → Q (.ref a) H'
def tTs (ρ : List En) (b : Bool) : TT := fun σ H Q => ∃ H0 F, Sat H0 F σ H ρ ∧ ∀ H' F', Gr F H F' H' → Q b H'
def tAs (ρ : List En) (l : List As) : TA := fun σ H Q => ∃ H0 F, Sat H0 F σ H ρ ∧ ∀ vs H' F', Gr F H F' H' → AllV F' vs l → Q vs H'
abbrev EA (X : Cx) (e : Expr) (ρ : List En) (A : As) : Prop := PE X e (tA ρ A)
abbrev EW (X : Cx) (e : Expr) (ρ : List En) (A : As) : Prop := PE X e (tW ρ A)
abbrev EL (X : Cx) (e : Expr) (ρ : List En) (l : List As) : Prop := PE X e (tL ρ l)
abbrev EN (X : Cx) (e : Expr) (ρ : List En) (l : List As) : Prop := PE X e (tN ρ l)
abbrev ET (X : Cx) (e : Expr) (ρ : List En) (b : Bool) : Prop := PT X e (tTs ρ b)
abbrev EAs (X : Cx) (es : List Expr) (ρ : List En) (l : List As) : Prop := PA X es (tAs ρ l)
theorem pe_imp {X : Cx} {e : Expr} {t t' : TE} (h : PE X e t) (i : ∀ σ H Q, t' σ H Q → t σ H Q) : PE X e t' := ⟨fun pins s σ H Q I q => h.run pins s σ H Q I (i σ H Q q)⟩
theorem pt_imp {X : Cx} {e : Expr} {t t' : TT} (h : PT X e t) (i : ∀ σ H Q, t' σ H Q → t σ H Q) : PT X e t' := ⟨fun pins s σ H Q I q => h.run pins s σ H Q I (i σ H Q q)⟩
theorem pw_imp {X : Cx} {e : Expr} {t t' : TT} (h : PW X e t) (i : ∀ σ H Q, t' σ H Q → t σ H Q) : PW X e t' := ⟨fun wh pins s σ H Q I q => h.run wh pins s σ H Q I (i σ H Q q)⟩
theorem pa_imp {X : Cx} {es : List Expr} {t t' : TA} (h : PA X es t) (i : ∀ σ H Q, t' σ H Q → t σ H Q) : PA X es t' := ⟨fun pos pins s σ H Q I q => h.run pos pins s σ H Q I (i σ H Q q)⟩
theorem ps_imp {X : Cx} {st : Stmt} {t t' : TS} (h : PS X st t) (i : ∀ D σ H, t' D σ H → t D σ H) : PS X st t' := ⟨fun pins s σ H D I q => h.run pins s σ H D I (i D σ H q)⟩
theorem pss_imp {X : Cx} {st : List Stmt} {t t' : TS} (h : PSs X st t) (i : ∀ D σ H, t' D σ H → t D σ H) : PSs X st t' := ⟨fun pins s σ H D I q => h.run pins s σ H D I (i D σ H q)⟩
section
variable {X : Cx} {e a b c : Expr} {es : List Expr} {ρ : List En} {A B C : As} {l m : List As} {pos : Pos}
theorem ea_imp (h : EA X e ρ A) (i : ∀ F v, A.p F v → B.p F v) : EA X e ρ B := pe_imp h fun σ H Q ⟨H0, F, S, k⟩ => ⟨H0, F, S, fun v H' F' g p => k v H' F' g (i F' v p)⟩
theorem ew_imp (h : EW X e ρ A) (i : ∀ F v, A.p F v → B.p F v) : EW X e ρ B := pe_imp h fun σ H Q ⟨H0, F, S, k⟩ => ⟨H0, F, S, fun v H' F' g p => k v H' F' g (i H' v p)⟩
theorem ea_is (h : EA X e ρ A) (i : A = B) : EA X e ρ B := i ▸ h
theorem ew_is (h : EW X e ρ A) (i : A = B) : EW X e ρ B := i ▸ h
theorem et_is {x y : Bool} (h : ET X e ρ x) (i : x = y) : ET X e ρ y := i ▸ h
theorem ea_w (h : EA X e ρ A) : EW X e ρ A := pe_imp h fun σ H Q ⟨H0, F, S, k⟩ => ⟨H0, F, S, fun v H' F' g p => k v H' F' g (A.mono g.i p)⟩
theorem ea_l (h : EA X e ρ (lstA l)) : EL X e ρ l := pe_imp h fun σ H Q ⟨H0, F, S, k⟩ => ⟨H0, F, S, fun v H' F' g ⟨a, xs, e1, e2, e3⟩ => by
  subst e1
  exact k a xs H' F' g (g.i a _ e2) e3⟩
theorem en_l (h : EN X e ρ l) : EL X e ρ l := pe_imp h fun σ H Q ⟨H0, F, S, k⟩ => ⟨H0, F, S, fun a xs H' F' g _ _ h2 h3 => k a xs H' F' g h2 h3⟩
theorem en_a (h : EN X e ρ l) : EA X e ρ (lstA l) := pe_imp h fun σ H Q ⟨H0, F, S, k⟩ => ⟨H0, F, S, fun a xs H' F' g n f h2 h3 =>
  k _ H' (upd F' a (.lst xs)) (g.take n f h2) ⟨a, xs, rfl, upd_same, h3.mono (Ex.new f)⟩⟩
theorem el_w (h : EL X e ρ l) : EW X e ρ (lstA l) := pe_imp h fun σ H Q ⟨H0, F, S, k⟩ => ⟨H0, F, S, fun a xs H' F' g h2 h3 => k _ H' F' g ⟨a, xs, rfl, h2, h3.mono g.i⟩⟩
theorem en_w (h : EN X e ρ l) : EW X e ρ (lstA l) := el_w (en_l h)
theorem sc_w {v : V} (h : EW X e ρ (sc v)) : EA X e ρ (sc v) := pe_imp h fun σ H Q ⟨H0, F, S, k⟩ => ⟨H0, F, S, fun u H' F' g p => k u H' F' g p⟩

/-! names and constants -/
theorem ea_var (i : Nat) {x : Str} (hr : ρ[i]? = some (.fr A)) (hN : X.N[i]? = some x := by rfl) (hv : Vis X.env.scope x := by first | exact Or.inl rfl | exact Or.inr (Or.inl rfl) | exact Or.inr (Or.inr rfl)) (hd : (x == ("__debug__" : Str)) = false := by decide)
    (hcd : (x == ("__classdict__" : Str)) = false := by decide) : EA X (.Name x pos) ρ A := pe_imp (pe_var hN hv hd hcd) fun σ H Q ⟨H0, F, S, k⟩ => by
  obtain ⟨v, h1, h2⟩ := S.fr i A hr
  exact ⟨v, h1, k v H F (.refl S.ex) h2⟩
theorem el_var (i : Nat) {x : Str} (hr : ρ[i]? = some (.own l)) (hN : X.N[i]? = some x := by rfl) (hv : Vis X.env.scope x := by first | exact Or.inl rfl | exact Or.inr (Or.inl rfl) | exact Or.inr (Or.inr rfl)) (hd : (x == ("__debug__" : Str)) = false := by decide)
    (hcd : (x == ("__classdict__" : Str)) = false := by decide) : EL X (.Name x pos) ρ l := pe_imp (pe_var hN hv hd hcd) fun σ H Q ⟨H0, F, S, k⟩ => by
  obtain ⟨p, xs, h1, h2, h3, h4, h5⟩ := S.own i l hr
  exact ⟨_, h1, k p xs H F (.refl S.ex) h4 h5⟩
theorem ea_c {v : V} (h : PE X e (tC v)) : EA X e ρ (sc v) := pe_imp h fun σ H Q ⟨H0, F, S, k⟩ => k v H F (.refl S.ex) rfl
theorem ea_int {i : Int} {j} : EA X (.Constant (.int i) j pos) ρ (int i) := ea_c pe_int
theorem ea_str {s : Str} {j} : EA X (.Constant (.str s) j pos) ρ (str s) := ea_c pe_str
theorem ea_bl {k : Bool} {j} : EA X (.Constant (.bool k) j pos) ρ (bl k) := ea_c pe_bl
theorem ea_non {j} : EA X (.Constant .none j pos) ρ non := ea_c pe_non
theorem ea_glob {x : Str} {v : V} {u : Value} (hg : Gl X x) (hm : X.mg x = some u) (r : RelV v u) (hd : (x == ("__debug__" : Str)) = false := by decide) : EA X (.Name x pos) ρ (sc v) := ea_c (pe_glob hg hm r hd)

/-! two-place operations -/
theorem ea_op {op : Operator} {r : R2} (ho : OpR X (binaryOp op) r) (ha : EW X a ρ A) (hb : EW X b ρ B) {v : V} (hr : ∀ x y H Q, A.p H x → B.p H y → Q v H → r x y H Q) : EA X (.BinOp a op b pos) ρ (sc v) :=
  pe_imp (pe_op ho ha hb) fun σ H Q ⟨H0, F, S, k⟩ => ⟨H0, F, S, fun x H1 F1 g1 h1 => ⟨H0, F1, S.gr g1, fun y H2 F2 g2 h2 => hr x y H2 Q (A.mono g2.h h1) h2 (k v H2 F2 (g1.trans g2) rfl)⟩⟩
theorem ea_add {i j : Int} (ha : EW X a ρ (int i)) (hb : EW X b ρ (int j)) : EA X (.BinOp a .Add b pos) ρ (int (i + j)) := ea_op op_add ha hb fun x y H Q h1 h2 q => ⟨i, j, h1, h2, q⟩
theorem ea_sub {i j : Int} (ha : EW X a ρ (int i)) (hb : EW X b ρ (int j)) : EA X (.BinOp a .Sub b pos) ρ (int (i - j)) := ea_op op_sub ha hb fun x y H Q h1 h2 q => ⟨i, j, h1, h2, q⟩
theorem ea_mul {i j : Int} (ha : EW X a ρ (int i)) (hb : EW X b ρ (int j)) (hc : CMul i j) : EA X (.BinOp a .Mult b pos) ρ (int (i * j)) := ea_op op_mul ha hb fun x y H Q h1 h2 q => ⟨i, j, h1, h2, hc, q⟩
theorem ea_fdiv {i j : Int} (ha : EW X a ρ (int i)) (hb : EW X b ρ (int j)) (hc : CDiv i j) : EA X (.BinOp a .FloorDiv b pos) ρ (int (i / j)) := ea_op op_fdiv ha hb fun x y H Q h1 h2 q => ⟨i, j, h1, h2, hc, q⟩
theorem ea_mod {i j : Int} (ha : EW X a ρ (int i)) (hb : EW X b ρ (int j)) (hc : 0 < j) : EA X (.BinOp a .Mod b pos) ρ (int (i % j)) := ea_op op_mod ha hb fun x y H Q h1 h2 q => ⟨i, j, h1, h2, hc, q⟩
theorem ea_pow {i j : Int} (ha : EW X a ρ (int i)) (hb : EW X b ρ (int j)) (hc : CPow i j) : EA X (.BinOp a .Pow b pos) ρ (int (i ^ j.toNat)) := ea_op op_pow ha hb fun x y H Q h1 h2 q => ⟨i, j, h1, h2, hc, q⟩
theorem ea_adds {s t : Str} (ha : EW X a ρ (str s)) (hb : EW X b ρ (str t)) (hc : s.length + t.length ≤ sizeLine) : EA X (.BinOp a .Add b pos) ρ (str (s ++ t)) := ea_op op_add_str ha hb fun x y H Q h1 h2 q => ⟨s, t, h1, h2, hc, q⟩
/-- lists: a new one -/
theorem en_cat (ha : EL X a ρ l) (hb : EL X b ρ m) (hz : l.length + m.length ≤ sizeLine) : EN X (.BinOp a .Add b pos) ρ (l ++ m) :=
  pe_imp (pe_op op_cat ha hb) fun σ H Q ⟨H0, F, S, k⟩ => ⟨H0, F, S, fun x xs H1 F1 g1 h1 h2 => ⟨H0, F1, S.gr g1, fun y ys H2 F2 g2 h3 h4 => by
    have h5 := h2.mono g2.f
    refine ⟨x, y, xs, ys, rfl, rfl, g2.h x _ h1, h3, by rw [h2.length, h4.length]; exact hz, fun p hp => ?_⟩
    have g := g1.trans g2
    exact k p _ _ F2 (g.trans (.newH g.i hp)) (g.h.none hp) (g.i.none hp) upd_same (h5.append h4)⟩⟩
/-- tuples (the left one not empty) -/
theorem ea_catT (ha : EA X a ρ (tupA l)) (hb : EA X b ρ (tupA m)) (h0 : l ≠ []) (hz : l.length + m.length ≤ sizeLine) : EA X (.BinOp a .Add b pos) ρ (tupA (l ++ m)) :=
  pe_imp (pe_op op_catT ha hb) fun σ H Q ⟨H0, F, S, k⟩ => ⟨H0, F, S, fun v H1 F1 g1 ⟨x, xs, e1, h1, h2⟩ => ⟨H0, F1, S.gr g1, fun u H2 F2 g2 ⟨y, ys, e2, h3, h4⟩ => by
    have h5 := h2.mono g2.f
    have g := g1.trans g2
    have n1 : xs ≠ [] := fun z => by
      have q := h2.length
      rw [z] at q
      exact h0 (List.length_eq_zero_iff.mp q.symm)
    refine ⟨x, y, xs, ys, e1, e2, SqT.of (g2.h x _ (g1.i x _ h1)), SqT.of (g2.i y _ h3), n1, by rw [h2.length, h4.length]; exact hz, fun z => ?_, fun z p hp => ?_⟩
    · have hm : m = [] := List.length_eq_zero_iff.mp (by rw [← h4.length, z]; rfl)
      subst hm
      rw [List.append_nil] at k
      exact k _ H2 F2 g ⟨x, xs, rfl, g2.f x _ h1, h5⟩
    · exact k _ _ _ (g.trans (.new g.i hp)) ⟨p, _, rfl, upd_same, (h5.append h4).mono (Ex.new (g.i.none hp))⟩⟩⟩

/-! arguments, displays -/
theorem eas_nil : EAs X [] ρ [] := pa_imp pa_nil fun σ H Q ⟨H0, F, S, k⟩ => k [] H F (.refl S.ex) trivial
theorem eas_cons (ha : EA X e ρ A) (hr : EAs X es ρ l) (hs : starEach (e :: es) X.env = (false, eval e X.env) :: starEach es X.env := by rfl) : EAs X (e :: es) ρ (A :: l) :=
  pa_imp (pa_cons ha hr hs) fun σ H Q ⟨H0, F, S, k⟩ => ⟨H0, F, S, fun v H1 F1 g1 h1 => ⟨H0, F1, S.gr g1, fun vs H2 F2 g2 h2 => k (v :: vs) H2 F2 (g1.trans g2) ⟨A.mono g2.f h1, h2⟩⟩⟩
theorem ea_tup {x1} (h : EAs X es ρ l) (hz : l.length ≤ sizeLine) : EA X (.Tuple es x1 pos) ρ (tupA l) :=
  pe_imp (pe_tup h) fun σ H Q ⟨H0, F, S, k⟩ => ⟨H0, F, S, fun vs H1 F1 g1 h1 => ⟨by rw [h1.length]; exact hz, fun p hp =>
    k _ _ _ (g1.trans (.new g1.i hp)) ⟨p, vs, rfl, upd_same, h1.mono (Ex.new (g1.i.none hp))⟩⟩⟩
theorem en_lst (h : EAs X es ρ l) (hz : l.length ≤ sizeLine) : EN X (.List es pos) ρ l :=
  pe_imp (pe_lst h) fun σ H Q ⟨H0, F, S, k⟩ => ⟨H0, F, S, fun vs H1 F1 g1 h1 => ⟨by rw [h1.length]; exact hz, fun p hp =>
    k p vs _ F1 (g1.trans (.newH g1.i hp)) (g1.h.none hp) (g1.i.none hp) upd_same h1⟩⟩

/-! tests -/
theorem et_cmp {op : CmpOp} {r : R2} (ho : OpR X (compareOp op) r) (ha : EW X a ρ A) (hb : EW X b ρ B) {k : Bool} (hr : ∀ x y H Q, A.p H x → B.p H y → Q (.bl k) H → r x y H Q) (hm : behindInMarks op b = false) : ET X (.Compare a [op] [b] pos) ρ k :=
  pt_imp (pt_cmpR ho ha hb hm) fun σ H Q ⟨H0, F, S, q⟩ => ⟨H0, F, S, fun x H1 F1 g1 h1 => ⟨H0, F1, S.gr g1, fun y H2 F2 g2 h2 => hr x y H2 _ (A.mono g2.h h1) h2 ⟨k, rfl, q H2 F2 (g1.trans g2)⟩⟩⟩
theorem ea_cmp {op : CmpOp} {r : R2} (ho : OpR X (compareOp op) r) (ha : EW X a ρ A) (hb : EW X b ρ B) {k : Bool} (hr : ∀ x y H Q, A.p H x → B.p H y → Q (.bl k) H → r x y H Q) (hm : behindInMarks op b = false) : EA X (.Compare a [op] [b] pos) ρ (bl k) :=
  pe_imp (pe_cmpR ho ha hb hm) fun σ H Q ⟨H0, F, S, q⟩ => ⟨H0, F, S, fun x H1 F1 g1 h1 => ⟨H0, F1, S.gr g1, fun y H2 F2 g2 h2 => hr x y H2 _ (A.mono g2.h h1) h2 (q _ H2 F2 (g1.trans g2) rfl)⟩⟩
/-- a comparison by values: op, what it gives -/
structure Cm (X : Cx) (op : CmpOp) (A B : As) (k : Bool) : Prop where
  of : ∃ r, OpR X (compareOp op) r ∧ ∀ x y H Q, A.p H x → B.p H y → Q (.bl k) H → r x y H Q
theorem et_cm {op : CmpOp} {k : Bool} (ha : EW X a ρ A) (hb : EW X b ρ B) (h : Cm X op A B k) (hm : behindInMarks op b = false) : ET X (.Compare a [op] [b] pos) ρ k := let ⟨_, ho, hr⟩ := h.of; et_cmp ho ha hb hr hm
theorem ea_cm {op : CmpOp} {k : Bool} (ha : EW X a ρ A) (hb : EW X b ρ B) (h : Cm X op A B k) (hm : behindInMarks op b = false) : EA X (.Compare a [op] [b] pos) ρ (bl k) := let ⟨_, ho, hr⟩ := h.of; ea_cmp ho ha hb hr hm
theorem cm_lt {i j : Int} : Cm X .Lt (int i) (int j) (decide (i < j)) := ⟨_, op_lt, fun x y H Q h1 h2 q => ⟨i, j, h1, h2, q⟩⟩
theorem cm_le {i j : Int} : Cm X .LtE (int i) (int j) (decide (i ≤ j)) := ⟨_, op_le, fun x y H Q h1 h2 q => ⟨i, j, h1, h2, q⟩⟩
theorem cm_gt {i j : Int} : Cm X .Gt (int i) (int j) (decide (j < i)) := ⟨_, op_gt, fun x y H Q h1 h2 q => ⟨i, j, h1, h2, q⟩⟩
theorem cm_ge {i j : Int} : Cm X .GtE (int i) (int j) (decide (j ≤ i)) := ⟨_, op_ge, fun x y H Q h1 h2 q => ⟨i, j, h1, h2, q⟩⟩
theorem cm_eqI {i j : Int} : Cm X .Eq (int i) (int j) (decide (i = j)) := ⟨_, op_eq, fun x y H Q h1 h2 q => by
  have e1 : x = .int i := h1
  have e2 : y = .int j := h2
  subst e1 e2
  refine ⟨rfl, ?_⟩
  have e : decide (V.int i = V.int j) = decide (i = j) := by simp
  rw [e]
  exact q⟩
theorem cm_neI {i j : Int} : Cm X .NotEq (int i) (int j) (!decide (i = j)) := ⟨_, op_ne, fun x y H Q h1 h2 q => by
  have e1 : x = .int i := h1
  have e2 : y = .int j := h2
  subst e1 e2
  refine ⟨rfl, ?_⟩
  have e : decide (V.int i = V.int j) = decide (i = j) := by simp
  rw [e]
  exact q⟩
theorem cm_eqS {s t : Str} : Cm X .Eq (str s) (str t) (decide (s = t)) := ⟨_, op_eq, fun x y H Q h1 h2 q => by
  have e1 : x = .str s := h1
  have e2 : y = .str t := h2
  subst e1 e2
  refine ⟨rfl, ?_⟩
  have e : decide (V.str s = V.str t) = decide (s = t) := by simp
  rw [e]
  exact q⟩
theorem cm_neS {s t : Str} : Cm X .NotEq (str s) (str t) (!decide (s = t)) := ⟨_, op_ne, fun x y H Q h1 h2 q => by
  have e1 : x = .str s := h1
  have e2 : y = .str t := h2
  subst e1 e2
  refine ⟨rfl, ?_⟩
  have e : decide (V.str s = V.str t) = decide (s = t) := by simp
  rw [e]
  exact q⟩
theorem cm_eqB {s t : Bool} : Cm X .Eq (bl s) (bl t) (decide (s = t)) := ⟨_, op_eq, fun x y H Q h1 h2 q => by
  have e1 : x = .bl s := h1
  have e2 : y = .bl t := h2
  subst e1 e2
  refine ⟨rfl, ?_⟩
  have e : decide (V.bl s = V.bl t) = decide (s = t) := by simp
  rw [e]
  exact q⟩
theorem cm_neB {s t : Bool} : Cm X .NotEq (bl s) (bl t) (!decide (s = t)) := ⟨_, op_ne, fun x y H Q h1 h2 q => by
  have e1 : x = .bl s := h1
  have e2 : y = .bl t := h2
  subst e1 e2
  refine ⟨rfl, ?_⟩
  have e : decide (V.bl s = V.bl t) = decide (s = t) := by simp
  rw [e]
  exact q⟩
/-- a value's truth -/
theorem et_v {k : Bool} (h : EW X e ρ (bl k)) (he : ∀ whole, isTrue e X.env whole = (do let v ← whole; standAt e.pos; holding [v] (truthy v)) := by intro _; rfl) : ET X e ρ k :=
  pt_imp (pt_val h he) fun σ H Q ⟨H0, F, S, q⟩ => ⟨H0, F, S, fun v H1 F1 g1 h1 => ⟨k, h1, q H1 F1 g1⟩⟩
abbrev EWt (X : Cx) (e : Expr) (ρ : List En) (b : Bool) : Prop := PW X e (tTs ρ b)
theorem et_not {k : Bool} (h : ET X a ρ k) : ET X (.UnaryOp .Not a pos) ρ (!k) := pt_imp (pt_not h) fun σ H Q ⟨H0, F, S, q⟩ => ⟨H0, F, S, fun H1 F1 g1 => q H1 F1 g1⟩
theorem ea_not {k : Bool} (h : EW X a ρ (bl k)) : EA X (.UnaryOp .Not a pos) ρ (bl (!k)) := pe_imp (pe_not h) fun σ H Q ⟨H0, F, S, q⟩ => ⟨H0, F, S, fun v H1 F1 g1 h1 => ⟨k, h1, q _ H1 F1 g1 rfl⟩⟩
theorem ewt_and1 {k : Bool} (h : ET X a ρ k) : EWt X (.BoolOp .And [a] pos) ρ k := pw_and1 h
theorem ewt_or1 {k : Bool} (h : ET X a ρ k) : EWt X (.BoolOp .Or [a] pos) ρ k := pw_or1 h
theorem ewt_and {j k : Bool} (h1 : ET X a ρ j) (h2 : j = true → EWt X (.BoolOp .And (b :: es) pos) ρ k) : EWt X (.BoolOp .And (a :: b :: es) pos) ρ (j && k) := by
  have hb : PW X (.BoolOp .And (b :: es) pos) (fun σ H Q => j = true ∧ tTs ρ k σ H Q) := ⟨fun wh pins s σ H Q I ⟨z, q⟩ => (h2 z).run wh pins s σ H Q I q⟩
  refine pw_imp (pw_and h1 hb) fun σ H Q ⟨H0, F, S, q⟩ => ⟨H0, F, S, fun H1 F1 g1 => ?_⟩
  cases j with
  | true => exact ⟨rfl, H0, F1, S.gr g1, fun H2 F2 g2 => q H2 F2 (g1.trans g2)⟩
  | false => exact q H1 F1 g1
theorem ewt_or {j k : Bool} (h1 : ET X a ρ j) (h2 : j = false → EWt X (.BoolOp .Or (b :: es) pos) ρ k) : EWt X (.BoolOp .Or (a :: b :: es) pos) ρ (j || k) := by
  have hb : PW X (.BoolOp .Or (b :: es) pos) (fun σ H Q => j = false ∧ tTs ρ k σ H Q) := ⟨fun wh pins s σ H Q I ⟨z, q⟩ => (h2 z).run wh pins s σ H Q I q⟩
  refine pw_imp (pw_or h1 hb) fun σ H Q ⟨H0, F, S, q⟩ => ⟨H0, F, S, fun H1 F1 g1 => ?_⟩
  cases j with
  | false => exact ⟨rfl, H0, F1, S.gr g1, fun H2 F2 g2 => q H2 F2 (g1.trans g2)⟩
  | true => exact q H1 F1 g1
theorem et_w {k : Bool} (h : EWt X e ρ k) : ET X e ρ k := h.pt
/-- .. as values -/
theorem ea_one {op} (h : EA X a ρ A) : EA X (.BoolOp op [a] pos) ρ A := pe_imp (pe_one h) fun σ H Q q => q
theorem ea_and {j k : Bool} (h1 : EW X a ρ (bl j)) (h2 : j = true → EA X (.BoolOp .And (b :: es) pos) ρ (bl k)) : EA X (.BoolOp .And (a :: b :: es) pos) ρ (bl (j && k)) := by
  have hb : PE X (.BoolOp .And (b :: es) pos) (fun σ H Q => j = true ∧ tA ρ (bl k) σ H Q) := ⟨fun pins s σ H Q I ⟨z, q⟩ => (h2 z).run pins s σ H Q I q⟩
  refine pe_imp (pe_and h1 hb) fun σ H Q ⟨H0, F, S, q⟩ => ⟨H0, F, S, fun v H1 F1 g1 hv => ⟨j, hv, ?_⟩⟩
  cases j with
  | true => exact ⟨rfl, H0, F1, S.gr g1, fun v H2 F2 g2 h => q v H2 F2 (g1.trans g2) h⟩
  | false => exact q _ H1 F1 g1 rfl
theorem ea_or {j k : Bool} (h1 : EW X a ρ (bl j)) (h2 : j = false → EA X (.BoolOp .Or (b :: es) pos) ρ (bl k)) : EA X (.BoolOp .Or (a :: b :: es) pos) ρ (bl (j || k)) := by
  have hb : PE X (.BoolOp .Or (b :: es) pos) (fun σ H Q => j = false ∧ tA ρ (bl k) σ H Q) := ⟨fun pins s σ H Q I ⟨z, q⟩ => (h2 z).run pins s σ H Q I q⟩
  refine pe_imp (pe_or h1 hb) fun σ H Q ⟨H0, F, S, q⟩ => ⟨H0, F, S, fun v H1 F1 g1 hv => ⟨j, hv, ?_⟩⟩
  cases j with
  | false => exact ⟨rfl, H0, F1, S.gr g1, fun v H2 F2 g2 h => q v H2 F2 (g1.trans g2) h⟩
  | true => exact q _ H1 F1 g1 rfl
theorem ea_if {k : Bool} (hc : ET X c ρ k) (h1 : k = true → EA X a ρ A) (h2 : k = false → EA X b ρ A) : EA X (.IfExp c a b pos) ρ A := by
  have p1 : PE X a (fun σ H Q => k = true ∧ tA ρ A σ H Q) := ⟨fun pins s σ H Q I ⟨z, q⟩ => (h1 z).run pins s σ H Q I q⟩
  have p2 : PE X b (fun σ H Q => k = false ∧ tA ρ A σ H Q) := ⟨fun pins s σ H Q I ⟨z, q⟩ => (h2 z).run pins s σ H Q I q⟩
  refine pe_imp (pe_ifExp hc p1 p2) fun σ H Q ⟨H0, F, S, q⟩ => ⟨H0, F, S, fun H1 F1 g1 => ?_⟩
  cases k with
  | true => exact ⟨rfl, H0, F1, S.gr g1, fun v H2 F2 g2 h => q v H2 F2 (g1.trans g2) h⟩
  | false => exact ⟨rfl, H0, F1, S.gr g1, fun v H2 F2 g2 h => q v H2 F2 (g1.trans g2) h⟩

/-! items, slices, len -/
theorem ea_ixL {i : Int} {j : Nat} (ha : EL X a ρ l) (hb : EW X b ρ (int i)) (hi : i = (j : Int)) (hj : l[j]? = some A) (hs : PlainIx b := by exact fun _ _ => rfl) : EA X (.Subscript a b pos) ρ A :=
  pe_imp (pe_ix ix_list ha hb hs) fun σ H Q ⟨H0, F, S, k⟩ => ⟨H0, F, S, fun x xs H1 F1 g1 h1 h2 => ⟨H0, F1, S.gr g1, fun y H2 F2 g2 h3 => by
    obtain ⟨v, e1, e2⟩ := h2.get hj
    have h3 : y = .int i := h3
    subst h3
    subst hi
    exact ⟨x, xs, (j : Int), v, rfl, rfl, SqL.of (g2.h x _ h1), atI_nat e1, k v H2 F2 (g1.trans g2) (A.mono g2.f e2)⟩⟩⟩
theorem ea_ixT {i : Int} {j : Nat} (ha : EA X a ρ (tupA l)) (hb : EW X b ρ (int i)) (hi : i = (j : Int)) (hj : l[j]? = some A) (hs : PlainIx b := by exact fun _ _ => rfl) : EA X (.Subscript a b pos) ρ A :=
  pe_imp (pe_ix ix_tup ha hb hs) fun σ H Q ⟨H0, F, S, k⟩ => ⟨H0, F, S, fun x H1 F1 g1 ⟨p, xs, e0, h1, h2⟩ => ⟨H0, F1, S.gr g1, fun y H2 F2 g2 h3 => by
    obtain ⟨v, e1, e2⟩ := h2.get hj
    have h3 : y = .int i := h3
    subst h3
    subst hi
    exact ⟨p, xs, (j : Int), v, e0, rfl, SqT.of (g2.h p _ (g1.i p _ h1)), atI_nat e1, k v H2 F2 (g1.trans g2) (A.mono g2.f e2)⟩⟩⟩
theorem ea_ixS {s : Str} {i : Int} {j : Nat} {c0 : Nat} (ha : EW X a ρ (str s)) (hb : EW X b ρ (int i)) (hz : s.length ≤ sizeLine) (hi : i = (j : Int)) (hj : s.cps.toList[j]? = some c0) (hs : PlainIx b := by exact fun _ _ => rfl) : EA X (.Subscript a b pos) ρ (str ⟨#[c0]⟩) :=
  pe_imp (pe_ix ix_str ha hb hs) fun σ H Q ⟨H0, F, S, k⟩ => ⟨H0, F, S, fun x H1 F1 g1 h1 => ⟨H0, F1, S.gr g1, fun y H2 F2 g2 h3 => by
    have h3 : y = .int i := h3
    have h1 : x = .str s := h1
    subst h3
    subst hi
    subst h1
    exact ⟨s, (j : Int), c0, rfl, rfl, hz, atI_nat hj, k _ H2 F2 (g1.trans g2) rfl⟩⟩⟩
theorem ea_len (ha : EL X a ρ l) {x : Str} {p : Pos} (hg : Gl X x) (hm : X.mg x = none) (hv : bootBuiltins x = some (.builtin "len")) (hn : x ≠ "__name__" := by decide) (hdb : (x == ("__debug__" : Str)) = false := by decide)
    (hs : starEach [a] X.env = (false, eval a X.env) :: starEach [] X.env := by rfl) (hpl : (backTo pos (starEach [] X.env)).any (·.1) = false := by rfl) : EA X (.Call (.Name x p) [a] [] pos) ρ (int (l.length : Int)) :=
  pe_imp (pe_callB call_len_seq hg hm hv (pa_cons ha pa_nil hs) hn hdb (he := hs) (hpl := hpl)) fun σ H Q ⟨H0, F, S, k⟩ => ⟨H0, F, S, fun x xs H1 F1 g1 h1 h2 => ⟨x, xs, rfl, .inl (SqL.of h1), by
    rw [h2.length]
    exact k _ H1 F1 g1 rfl⟩⟩
theorem ea_lenT (ha : EA X a ρ (tupA l)) {x : Str} {p : Pos} (hg : Gl X x) (hm : X.mg x = none) (hv : bootBuiltins x = some (.builtin "len")) (hn : x ≠ "__name__" := by decide) (hdb : (x == ("__debug__" : Str)) = false := by decide)
    (hs : starEach [a] X.env = (false, eval a X.env) :: starEach [] X.env := by rfl) (hpl : (backTo pos (starEach [] X.env)).any (·.1) = false := by rfl) : EA X (.Call (.Name x p) [a] [] pos) ρ (int (l.length : Int)) :=
  pe_imp (pe_callB call_len_seq hg hm hv (pa_cons ha pa_nil hs) hn hdb (he := hs) (hpl := hpl)) fun σ H Q ⟨H0, F, S, k⟩ => ⟨H0, F, S, fun v H1 F1 g1 ⟨p, xs, e0, h1, h2⟩ => ⟨p, xs, by rw [e0], .inr (SqT.of (g1.i p _ h1)), by
    rw [h2.length]
    exact k _ H1 F1 g1 rfl⟩⟩
end

/-! ### statements -/
structure Wn where
  R : As
  B : List En → Prop := fun _ => False
  C : List En → Prop := fun _ => False
  /-- what may be raised, where, and what is wished of it -/
  er : List En → Hp → Value → Option Addr → Prop := fun _ _ _ _ => False
  wx : WX := fun _ _ _ _ => True
def sA (ρ : List En) (Nx : List En → Prop) (W : Wn) : TS := fun D σ H => ∃ F0 H0 F, Gr F0 H0 F H ∧ Sat H0 F σ H ρ ∧
  (∀ ρ' σ' H' F', Nx ρ' → Gr F0 H0 F' H' → Sat H0 F' σ' H' ρ' → D.nx σ' H') ∧ (∀ v H' F', Gr F0 H0 F' H' → W.R.p F' v → D.rt v H') ∧
  (∀ ρ' σ' H' F', W.B ρ' → Gr F0 H0 F' H' → Sat H0 F' σ' H' ρ' → D.bk σ' H') ∧ (∀ ρ' σ' H' F', W.C ρ' → Gr F0 H0 F' H' → Sat H0 F' σ' H' ρ' → D.ct σ' H') ∧
  (∀ cls d ρ' σ' H' F', W.er ρ' F' cls d → Gr F0 H0 F' H' → Sat H0 F' σ' H' ρ' → W.wx cls d σ' H')
abbrev SA (X : Cx) (st : Stmt) (ρ : List En) (Nx : List En → Prop) (W : Wn) : Prop := PS X st (sA ρ Nx W)
abbrev BA (X : Cx) (sts : List Stmt) (ρ : List En) (Nx : List En → Prop) (W : Wn) : Prop := PSs X sts (sA ρ Nx W)
/-- ρ says no more than ρ' -/
inductive Le : List En → List En → Prop
  | nil : Le [] []
  | no {e : En} {ρ ρ' : List En} : Le ρ ρ' → Le (.no :: ρ) (e :: ρ')
  | same {e : En} {ρ ρ' : List En} : Le ρ ρ' → Le (e :: ρ) (e :: ρ')
  | imp {A B : As} {ρ ρ' : List En} : (∀ F v, B.p F v → A.p F v) → Le ρ ρ' → Le (.fr A :: ρ) (.fr B :: ρ')
theorem Le.refl : ∀ ρ, Le ρ ρ
  | [] => .nil
  | _ :: ρ => .same (Le.refl ρ)
theorem Le.len {ρ ρ' : List En} (h : Le ρ ρ') : ρ.length = ρ'.length := by
  induction h with
  | nil => rfl
  | no _ ih => simp [ih]
  | same _ ih => simp [ih]
  | imp _ _ ih => simp [ih]
theorem Le.own {ρ ρ' : List En} (h : Le ρ ρ') : ∀ {i : Nat} {l : List As}, ρ[i]? = some (.own l) → ρ'[i]? = some (.own l) := by
  induction h with
  | nil => intro i l e; simp at e
  | no _ ih => intro i l e; cases i with
    | zero => simp at e
    | succ i => simpa using ih (by simpa using e)
  | same _ ih => intro i l e; cases i with
    | zero => simpa using e
    | succ i => simpa using ih (by simpa using e)
  | imp _ _ ih => intro i l e; cases i with
    | zero => simp at e
    | succ i => simpa using ih (by simpa using e)
theorem Le.fr {ρ ρ' : List En} (h : Le ρ ρ') : ∀ {i : Nat} {A : As}, ρ[i]? = some (.fr A) → ∃ B, ρ'[i]? = some (.fr B) ∧ ∀ F v, B.p F v → A.p F v := by
  induction h with
  | nil => intro i l e; simp at e
  | no _ ih => intro i l e; cases i with
    | zero => simp at e
    | succ i => simpa using ih (by simpa using e)
  | @same e0 _ _ _ ih => intro i A e; cases i with
    | zero =>
      have e : e0 = .fr A := by simpa using e
      subst e
      exact ⟨A, by simp, fun _ _ h => h⟩
    | succ i => simpa using ih (by simpa using e)
  | @imp A0 B0 _ _ k _ ih => intro i A e; cases i with
    | zero =>
      have e : A0 = A := by simpa using e
      subst e
      exact ⟨B0, by simp, k⟩
    | succ i => simpa using ih (by simpa using e)
theorem Le.mine {ρ ρ' : List En} (h : Le ρ ρ') : ∀ {i : Nat} {x : En}, ρ[i]? = some x → x.Mn → ρ'[i]? = some x := by
  induction h with
  | nil => intro i l e; simp at e
  | no _ ih => intro i x e hx; cases i with
    | zero =>
      have e : En.no = x := by simpa using e
      rw [← e] at hx
      exact hx.elim
    | succ i => simpa using ih (by simpa using e) hx
  | same _ ih => intro i x e hx; cases i with
    | zero => simpa using e
    | succ i => simpa using ih (by simpa using e) hx
  | @imp A0 _ _ _ _ _ ih => intro i x e hx; cases i with
    | zero =>
      have e : En.fr A0 = x := by simpa using e
      rw [← e] at hx
      exact hx.elim
    | succ i => simpa using ih (by simpa using e) hx
theorem Sat.le {H0 F H : Hp} {σ : L2.St} {ρ ρ' : List En} (S : Sat H0 F σ H ρ') (h : Le ρ ρ') : Sat H0 F σ H ρ := by
  refine ⟨S.ex, fun i A e => ?_, fun i l e => S.own i l (h.own e), fun i j x y p e1 e2 m1 m2 => S.sep i j x y p (h.mine e1 m1) (h.mine e2 m2) m1 m2, h.len.trans S.len, fun i B e => S.ow i B (h.mine e True.intro)⟩
  obtain ⟨B, e1, k⟩ := h.fr e
  obtain ⟨v, e2, q⟩ := S.fr i B e1
  exact ⟨v, e2, k F v q⟩
theorem Sat.set {H0 F H : Hp} {σ : L2.St} {ρ : List En} (S : Sat H0 F σ H ρ) {i : Nat} {v : V} {A : As} (h : A.p F v) : Sat H0 F (σ.set i (some v)) H (ρ.set i (.fr A)) := by
  have hl := S.len
  have nj : ∀ {j : Nat} {x : En}, (ρ.set i (.fr A))[j]? = some x → x.Mn → i ≠ j ∧ ρ[j]? = some x := fun {j x} e hx => by
    by_cases hj : i = j
    · subst hj
      by_cases hi : i < ρ.length
      · rw [List.getElem?_set_self hi] at e
        have e : En.fr A = x := by simpa using e
        rw [← e] at hx
        exact hx.elim
      · rw [List.getElem?_eq_none (by rw [List.length_set]; omega)] at e
        cases e
    · rw [List.getElem?_set_ne hj] at e
      exact ⟨hj, e⟩
  refine ⟨S.ex, fun j B e => ?_, fun j l e => ?_, fun j k x y p e1 e2 m1 m2 h1 h2 => ?_, by rw [List.length_set, List.length_set, hl], fun j B e => ?_⟩
  · by_cases hj : i = j
    · subst hj
      by_cases hi : i < ρ.length
      · rw [List.getElem?_set_self hi] at e
        have e : A = B := by simpa using e
        subst e
        exact ⟨v, List.getElem?_set_self (by omega), h⟩
      · rw [List.getElem?_eq_none (by rw [List.length_set]; omega)] at e
        cases e
    · rw [List.getElem?_set_ne hj] at e
      obtain ⟨u, h1, h2⟩ := S.fr j B e
      exact ⟨u, by rw [List.getElem?_set_ne hj]; exact h1, h2⟩
  · obtain ⟨hj, e⟩ := nj e True.intro
    obtain ⟨p, xs, h1, h2⟩ := S.own j l e
    exact ⟨p, xs, by rw [List.getElem?_set_ne hj]; exact h1, h2⟩
  · obtain ⟨n1, e1⟩ := nj e1 m1
    obtain ⟨n2, e2⟩ := nj e2 m2
    rw [List.getElem?_set_ne n1] at h1
    rw [List.getElem?_set_ne n2] at h2
    exact S.sep j k x y p e1 e2 m1 m2 h1 h2
  · obtain ⟨hj, e⟩ := nj e True.intro
    obtain ⟨p, o, h1, h2⟩ := S.ow j B e
    exact ⟨p, o, by rw [List.getElem?_set_ne hj]; exact h1, h2⟩
/-- a thing of one's own is named -/
theorem Sat.setM {H0 F H : Hp} {σ : L2.St} {ρ : List En} (S : Sat H0 F σ H ρ) {i : Nat} {p : Addr} {o : HO} {x : En} (h0 : H0 p = none) (hF : F p = none) (hH : H p = some o) (hx : (∃ l xs, x = .own l ∧ o = .lst xs ∧ AllV F xs l) ∨ ∃ B, x = .ow B ∧ B.p F p o)
    (hn : ∀ j y q, ρ[j]? = some y → y.Mn → σ[j]? = some (some (.ref q)) → q ≠ p ∨ j = i) : Sat H0 F (σ.set i (some (.ref p))) H (ρ.set i x) := by
  have hl := S.len
  have at_ : ∀ {j : Nat} {y : En}, (ρ.set i x)[j]? = some y → (i = j ∧ i < ρ.length ∧ x = y) ∨ (i ≠ j ∧ ρ[j]? = some y) := fun {j y} e => by
    by_cases hj : i = j
    · subst hj
      by_cases hi : i < ρ.length
      · rw [List.getElem?_set_self hi] at e
        exact .inl ⟨rfl, hi, by simpa using e⟩
      · rw [List.getElem?_eq_none (by rw [List.length_set]; omega)] at e
        cases e
    · rw [List.getElem?_set_ne hj] at e
      exact .inr ⟨hj, e⟩
  refine ⟨S.ex, fun j B e => ?_, fun j m e => ?_, fun j k y z q e1 e2 m1 m2 h1 h2 => ?_, by rw [List.length_set, List.length_set, hl], fun j B e => ?_⟩
  · rcases at_ e with ⟨_, _, rfl⟩ | ⟨hj, e⟩
    · rcases hx with ⟨_, _, z, _⟩ | ⟨_, z, _⟩ <;> cases z
    · obtain ⟨u, h1, h2⟩ := S.fr j B e
      exact ⟨u, by rw [List.getElem?_set_ne hj]; exact h1, h2⟩
  · rcases at_ e with ⟨rfl, hi, rfl⟩ | ⟨hj, e⟩
    · rcases hx with ⟨l, xs, z, rfl, h⟩ | ⟨_, z, _⟩
      · have z : m = l := by simpa using z
        subst z
        exact ⟨p, xs, List.getElem?_set_self (by omega), hF, h0, hH, h⟩
      · cases z
    · obtain ⟨p', xs', h1, h2⟩ := S.own j m e
      exact ⟨p', xs', by rw [List.getElem?_set_ne hj]; exact h1, h2⟩
  · rcases at_ e1 with ⟨rfl, hi, rfl⟩ | ⟨hj, e1⟩
    · rcases at_ e2 with ⟨rfl, _, _⟩ | ⟨hk, e2⟩
      · rfl
      · exfalso
        rw [List.getElem?_set_self (by omega)] at h1
        have h1 : p = q := by simpa using h1
        rw [List.getElem?_set_ne hk] at h2
        rcases hn k z q e2 m2 h2 with w | w
        · exact w h1.symm
        · exact hk w.symm
    · rw [List.getElem?_set_ne hj] at h1
      rcases at_ e2 with ⟨rfl, hi, rfl⟩ | ⟨hk, e2⟩
      · exfalso
        rw [List.getElem?_set_self (by omega)] at h2
        have h2 : p = q := by simpa using h2
        rcases hn j y q e1 m1 h1 with w | w
        · exact w h2.symm
        · exact hj w.symm
      · rw [List.getElem?_set_ne hk] at h2
        exact S.sep j k y z q e1 e2 m1 m2 h1 h2
  · rcases at_ e with ⟨rfl, hi, rfl⟩ | ⟨hj, e⟩
    · rcases hx with ⟨_, _, z, _⟩ | ⟨B', z, h⟩
      · cases z
      · have z : B = B' := by simpa using z
        subst z
        exact ⟨p, o, List.getElem?_set_self (by omega), hF, h0, hH, h⟩
    · obtain ⟨p', o', h1, h2⟩ := S.ow j B e
      exact ⟨p', o', by rw [List.getElem?_set_ne hj]; exact h1, h2⟩
theorem Sat.setN {H0 F H : Hp} {σ : L2.St} {ρ : List En} (S : Sat H0 F σ H ρ) {i : Nat} {p : Addr} {xs : List V} {l : List As} (h0 : H0 p = none) (hF : F p = none) (hH : H p = some (.lst xs)) (h : AllV F xs l) (hn : ∀ j y q, ρ[j]? = some y → y.Mn → σ[j]? = some (some (.ref q)) → q ≠ p ∨ j = i) :
    Sat H0 F (σ.set i (some (.ref p))) H (ρ.set i (.own l)) := S.setM h0 hF hH (.inl ⟨l, xs, rfl, rfl, h⟩) hn
/-- a new object is no one's -/
theorem Sat.newAt {H0 F H : Hp} {σ : L2.St} {ρ : List En} (S : Sat H0 F σ H ρ) {p : Addr} (n : H p = none) (i : Nat) : ∀ (j : Nat) (y : En) (q : Addr), ρ[j]? = some y → y.Mn → σ[j]? = some (some (.ref q)) → q ≠ p ∨ j = i := fun j y q e m h => .inl fun z => by
  cases y with
  | no => exact m.elim
  | fr A => exact m.elim
  | own l =>
    obtain ⟨p', xs', h1, _, _, h4, _⟩ := S.own j l e
    rw [h1] at h
    have h : p' = q := by simpa using h
    rw [h, z, n] at h4
    cases h4
  | ow B =>
    obtain ⟨p', o', h1, _, _, h4, _⟩ := S.ow j B e
    rw [h1] at h
    have h : p' = q := by simpa using h
    rw [h, z, n] at h4
    cases h4
end Lk

set_option Elab.async false
set_option linter.all false
set_option maxRecDepth 100000
set_option maxHeartbeats 4000000
namespace Lk
open PySem PySem.Calls L2
section
variable {X : Cx} {e a b c : Expr} {es : List Expr} {ρ : List En} {A B C : As} {l m : List As} {pos : Pos} {st : Stmt} {sts s1 s2 : List Stmt} {Nx Mid : List En → Prop} {W : Wn}

/-! ### blocks and statements -/
theorem ba_nil (h : Nx ρ) : BA X [] ρ Nx W := pss_imp pss_nil fun D σ H ⟨F0, H0, F, g, S, k, _⟩ => k ρ σ H F h g S
theorem ba_cons (h : SA X st ρ (fun ρ' => BA X sts ρ' Nx W) W) : BA X (st :: sts) ρ Nx W := by
  have hu : PSs X sts (fun D σ H => ∃ ρ', BA X sts ρ' Nx W ∧ sA ρ' Nx W D σ H) := ⟨fun pins s σ H D I ⟨ρ', hb, q⟩ => hb.run pins s σ H D I q⟩
  exact pss_imp (pss_cons h hu) fun D σ H ⟨F0, H0, F, g, S, k, r⟩ => ⟨F0, H0, F, g, S, fun ρ' σ' H' F' hm g' S' => ⟨ρ', hm, F0, H0, F', g', S', k, r⟩, r⟩
theorem ba_one (h : SA X st ρ Nx W) : BA X [st] ρ Nx W := pss_one h
theorem ba_le {ρ' : List En} (h : BA X sts ρ' Nx W) (le : Le ρ' ρ) : BA X sts ρ Nx W := pss_imp h fun D σ H ⟨F0, H0, F, g, S, k⟩ => ⟨F0, H0, F, g, S.le le, k⟩
theorem sa_le {ρ' : List En} (h : SA X st ρ' Nx W) (le : Le ρ' ρ) : SA X st ρ Nx W := ps_imp h fun D σ H ⟨F0, H0, F, g, S, k⟩ => ⟨F0, H0, F, g, S.le le, k⟩
theorem ba_nx (h : BA X sts ρ Mid W) (i : ∀ ρ', Mid ρ' → Nx ρ') : BA X sts ρ Nx W := pss_imp h fun D σ H ⟨F0, H0, F, g, S, k, r⟩ => ⟨F0, H0, F, g, S, fun ρ' σ' H' F' q => k ρ' σ' H' F' (i ρ' q), r⟩
theorem sa_nx (h : SA X st ρ Mid W) (i : ∀ ρ', Mid ρ' → Nx ρ') : SA X st ρ Nx W := ps_imp h fun D σ H ⟨F0, H0, F, g, S, k, r⟩ => ⟨F0, H0, F, g, S, fun ρ' σ' H' F' q => k ρ' σ' H' F' (i ρ' q), r⟩
/-- what is said with a letter is opened -/
theorem sat_ex {H0 F H : Hp} {σ : L2.St} {ι : Type} {pre : ι → Prop} {f : ι → As} {i : Nat} (S : Sat H0 F σ H ρ) (hi : ρ[i]? = some (En.fr (exA pre f))) : ∃ x, pre x ∧ Sat H0 F σ H (ρ.set i (.fr (f x))) := by
  obtain ⟨v, h1, x, hp, h2⟩ := S.fr i _ hi
  refine ⟨x, hp, ?_⟩
  have T := S.set (i := i) (v := v) (A := f x) h2
  have e : σ.set i (some v) = σ := by
    obtain ⟨hl, hq⟩ := List.getElem?_eq_some_iff.mp h1
    rw [← hq]
    exact List.set_getElem_self hl
  rw [e] at T
  exact T
theorem ba_ex {ι : Type} {pre : ι → Prop} {f : ι → As} {i : Nat} (hi : ρ[i]? = some (En.fr (exA pre f))) (h : ∀ x, pre x → BA X sts (ρ.set i (.fr (f x))) Nx W) : BA X sts ρ Nx W := by
  refine ⟨fun pins s σ H D I ⟨F0, H0, F, g, S, k⟩ => ?_⟩
  obtain ⟨x, hp, T⟩ := sat_ex S hi
  exact (h x hp).run pins s σ H D I ⟨F0, H0, F, g, T, k⟩
/-- a list of one's own is let go -/
theorem sat_free {H0 F0 F H : Hp} {σ : L2.St} {i : Nat} (g : Gr F0 H0 F H) (S : Sat H0 F σ H ρ) (hi : ρ[i]? = some (En.own l)) : ∃ F', Gr F0 H0 F' H ∧ Sat H0 F' σ H (ρ.set i (.fr (lstA l))) := by
  obtain ⟨p, xs, h1, h2, h3, h4, h5⟩ := S.own i l hi
  have g' : Gr F0 H0 (upd F p (.lst xs)) H := g.take h3 h2 h4
  have hi' : i < ρ.length := (List.getElem?_eq_some_iff.mp hi).1
  have at_ : ∀ {j : Nat} {y : En}, (ρ.set i (.fr (lstA l)))[j]? = some y → y.Mn → i ≠ j ∧ ρ[j]? = some y := fun {j y} e m => by
    by_cases hj : i = j
    · subst hj
      rw [List.getElem?_set_self hi'] at e
      have e : En.fr (lstA l) = y := by simpa using e
      rw [← e] at m
      exact m.elim
    · rw [List.getElem?_set_ne hj] at e
      exact ⟨hj, e⟩
  refine ⟨upd F p (.lst xs), g', ⟨g'.i, fun j B e => ?_, fun j m e => ?_, fun j k y z q e1 e2 m1 m2 q1 q2 => ?_, by rw [List.length_set]; exact S.len, fun j B e => ?_⟩⟩
  · by_cases hj : i = j
    · subst hj
      rw [List.getElem?_set_self hi'] at e
      have e : lstA l = B := by simpa using e
      subst e
      exact ⟨_, h1, p, xs, rfl, upd_same, h5.mono (Ex.new h2)⟩
    · rw [List.getElem?_set_ne hj] at e
      obtain ⟨v, e1, e2⟩ := S.fr j B e
      exact ⟨v, e1, B.mono (Ex.new h2) e2⟩
  · obtain ⟨hj, e⟩ := at_ e True.intro
    obtain ⟨q, ys, e1, e2, e3, e4, e5⟩ := S.own j m e
    have nq : q ≠ p := fun z => hj (S.sep i j _ _ p hi e True.intro True.intro h1 (z ▸ e1))
    exact ⟨q, ys, e1, by rw [upd_ne nq]; exact e2, e3, e4, e5.mono (Ex.new h2)⟩
  · obtain ⟨n1, e1⟩ := at_ e1 m1
    obtain ⟨n2, e2⟩ := at_ e2 m2
    exact S.sep j k y z q e1 e2 m1 m2 q1 q2
  · obtain ⟨hj, e⟩ := at_ e True.intro
    obtain ⟨q, o, e1, e2, e3, e4, e5⟩ := S.ow j B e
    have nq : q ≠ p := fun z => hj (S.sep i j _ _ p hi e True.intro True.intro h1 (z ▸ e1))
    exact ⟨q, o, e1, by rw [upd_ne nq]; exact e2, e3, e4, B.mono (Ex.new h2) e5⟩
theorem ba_free {i : Nat} (hi : ρ[i]? = some (En.own l)) (h : BA X sts (ρ.set i (.fr (lstA l))) Nx W) : BA X sts ρ Nx W := by
  refine ⟨fun pins s σ H D I ⟨F0, H0, F, g, S, k⟩ => ?_⟩
  obtain ⟨F', g', T⟩ := sat_free g S hi
  exact h.run pins s σ H D I ⟨F0, H0, F', g', T, k⟩
theorem sa_free {i : Nat} (hi : ρ[i]? = some (En.own l)) (h : SA X st (ρ.set i (.fr (lstA l))) Nx W) : SA X st ρ Nx W := by
  refine ⟨fun pins s σ H D I ⟨F0, H0, F, g, S, k⟩ => ?_⟩
  obtain ⟨F', g', T⟩ := sat_free g S hi
  exact h.run pins s σ H D I ⟨F0, H0, F', g', T, k⟩
/-- name = e -/
theorem sa_set (i : Nat) {x : Str} {pos' : Pos} (hN : X.N.Nodup) (he : EA X e ρ A) (k : Nx (ρ.set i (.fr A))) (hi : X.N[i]? = some x := by rfl) (hx : Loc X.env.scope x := by first | exact .inl rfl | exact .inr rfl) (hs : swapsWith e (some (.Name x pos')) pos.line X.env = pure false := by rfl)
    (hf : X.fn x = true ∨ X.env.scope.names.lookup x = some .local := by first | exact .inl rfl | exact .inr rfl | assumption) : SA X (.Assign [.Name x pos'] e pos) ρ Nx W :=
  ps_imp (ps_set hN hi hx he hs hf) fun D σ H ⟨F0, H0, F, g, S, q, _⟩ => ⟨H0, F, S, fun v H' F' g' hv => q _ _ H' F' k (g.trans g') ((S.gr g').set hv)⟩
/-- name = a new list -/
theorem sa_setN (i : Nat) {x : Str} {pos' : Pos} (hN : X.N.Nodup) (he : EN X e ρ l) (k : Nx (ρ.set i (.own l))) (hi : X.N[i]? = some x := by rfl) (hx : Loc X.env.scope x := by first | exact .inl rfl | exact .inr rfl) (hs : swapsWith e (some (.Name x pos')) pos.line X.env = pure false := by rfl)
    (hf : X.fn x = true ∨ X.env.scope.names.lookup x = some .local := by first | exact .inl rfl | exact .inr rfl | assumption) : SA X (.Assign [.Name x pos'] e pos) ρ Nx W :=
  ps_imp (ps_set hN hi hx he hs hf) fun D σ H ⟨F0, H0, F, g, S, q, _⟩ => ⟨H0, F, S, fun p xs H' F' g' n1 n2 hp hv => q _ _ H' F' k (g.trans g') ((S.gr g').setN (g.h.none n1) n2 hp hv (S.newAt n1 _))⟩
theorem sa_ret (he : EA X e ρ W.R) : SA X (.Return (some e) pos) ρ Nx W := ps_imp (ps_ret he) fun D σ H ⟨F0, H0, F, g, S, _, q, _⟩ => ⟨H0, F, S, fun v H' F' g' hv => q v H' F' (g.trans g') hv⟩
theorem sa_retN (h : ∀ F, W.R.p F .non) : SA X (.Return none pos) ρ Nx W := ps_imp ps_retN fun D σ H ⟨F0, H0, F, g, S, _, q, _⟩ => q .non H F g (h F)
theorem sa_if {k : Bool} (hc : ET X c ρ k) (h1 : k = true → BA X s1 ρ Nx W) (h2 : k = false → BA X s2 ρ Nx W) : SA X (.If c s1 s2 pos) ρ Nx W := by
  have p1 : PSs X s1 (fun D σ H => k = true ∧ sA ρ Nx W D σ H) := ⟨fun pins s σ H D I ⟨z, q⟩ => (h1 z).run pins s σ H D I q⟩
  have p2 : PSs X s2 (fun D σ H => k = false ∧ sA ρ Nx W D σ H) := ⟨fun pins s σ H D I ⟨z, q⟩ => (h2 z).run pins s σ H D I q⟩
  refine ps_imp (ps_if hc p1 p2) fun D σ H ⟨F0, H0, F, g, S, q⟩ => ⟨H0, F, S, fun H1 F1 g1 => ?_⟩
  cases k with
  | true => exact ⟨rfl, F0, H0, F1, g.trans g1, S.gr g1, q⟩
  | false => exact ⟨rfl, F0, H0, F1, g.trans g1, S.gr g1, q⟩
theorem sa_expr (he : EW X e ρ A) (k : Nx ρ) (hs : swapsWith e none pos.line X.env = pure false := by rfl) : SA X (.Expr e pos) ρ Nx W :=
  ps_imp (ps_expr he hs) fun D σ H ⟨F0, H0, F, g, S, q, _⟩ => ⟨H0, F, S, fun v H' F' g' _ => q ρ σ H' F' k (g.trans g') (S.gr g')⟩
theorem sa_pass (k : Nx ρ) : SA X (.Pass pos) ρ Nx W := ps_imp ps_pass fun D σ H ⟨F0, H0, F, g, S, q, _⟩ => q ρ σ H F k g S
theorem sa_never (h : False) : SA X st ρ Nx W := h.elim
/-- a thing of one's own is written -/
theorem sat_wrM {H0 F0 F H : Hp} {σ : L2.St} {i : Nat} {p : Addr} {o' : HO} {x x' : En} (g : Gr F0 H0 F H) (S : Sat H0 F σ H ρ) (hi : ρ[i]? = some x) (hm : x.Mn) (hp : σ[i]? = some (some (V.ref p))) (hv : (∃ l ys, x' = .own l ∧ o' = .lst ys ∧ AllV F ys l) ∨ ∃ B, x' = .ow B ∧ B.p F p o') :
    Gr F0 H0 F (upd H p o') ∧ Sat H0 F σ (upd H p o') (ρ.set i x') := by
  obtain ⟨h2, h3⟩ : F p = none ∧ H0 p = none := by
    cases x with
    | no => exact hm.elim
    | fr A => exact hm.elim
    | own l =>
      obtain ⟨p', xs, h1, h2, h3, _⟩ := S.own i l hi
      rw [h1] at hp
      have e : p' = p := by simpa using hp
      rw [← e]
      exact ⟨h2, h3⟩
    | ow B =>
      obtain ⟨p', xs, h1, h2, h3, _⟩ := S.ow i B hi
      rw [h1] at hp
      have e : p' = p := by simpa using hp
      rw [← e]
      exact ⟨h2, h3⟩
  have x1 : Ex F (upd H p o') := fun a o z => by
    rw [upd_ne (ne_of_none z h2)]
    exact S.ex a o z
  have x2 : Ex H0 (upd H p o') := fun a o z => by
    rw [upd_ne (ne_of_none z h3)]
    exact g.h a o z
  have hi' : i < ρ.length := (List.getElem?_eq_some_iff.mp hi).1
  have xm : x'.Mn := by rcases hv with ⟨_, _, rfl, _⟩ | ⟨_, rfl, _⟩ <;> exact True.intro
  have at_ : ∀ {j : Nat} {y : En}, (ρ.set i x')[j]? = some y → (i = j ∧ x' = y) ∨ (i ≠ j ∧ ρ[j]? = some y) := fun {j y} e => by
    by_cases hj : i = j
    · subst hj
      rw [List.getElem?_set_self hi'] at e
      exact .inl ⟨rfl, by simpa using e⟩
    · rw [List.getElem?_set_ne hj] at e
      exact .inr ⟨hj, e⟩
  refine ⟨⟨g.f, x2, x1, g.n⟩, ⟨x1, fun j B e => ?_, fun j m' e => ?_, fun j k m1 n1 q e1 e2 y1 y2 q1 q2 => ?_, by rw [List.length_set]; exact S.len, fun j B e => ?_⟩⟩
  · rcases at_ e with ⟨_, rfl⟩ | ⟨_, e⟩
    · exact xm.elim
    · exact S.fr j B e
  · rcases at_ e with ⟨rfl, rfl⟩ | ⟨hj, e⟩
    · rcases hv with ⟨l, ys, z, rfl, h⟩ | ⟨_, z, _⟩
      · have z : m' = l := by simpa using z
        subst z
        exact ⟨p, ys, hp, h2, h3, upd_same, h⟩
      · cases z
    · obtain ⟨q, zs, e1, e2, e3, e4, e5⟩ := S.own j m' e
      have nq : q ≠ p := fun z => hj (S.sep i j _ _ p hi e hm True.intro hp (z ▸ e1))
      exact ⟨q, zs, e1, e2, e3, by rw [upd_ne nq]; exact e4, e5⟩
  · have back : ∀ {j : Nat} {y : En}, (ρ.set i x')[j]? = some y → y.Mn → ∃ z, ρ[j]? = some z ∧ z.Mn := fun {j y} e m => by
      rcases at_ e with ⟨rfl, _⟩ | ⟨_, e⟩
      · exact ⟨x, hi, hm⟩
      · exact ⟨y, e, m⟩
    obtain ⟨a1, z1, w1⟩ := back e1 y1
    obtain ⟨a2, z2, w2⟩ := back e2 y2
    exact S.sep j k a1 a2 q z1 z2 w1 w2 q1 q2
  · rcases at_ e with ⟨rfl, rfl⟩ | ⟨hj, e⟩
    · rcases hv with ⟨_, _, z, _⟩ | ⟨B', z, h⟩
      · cases z
      · have z : B = B' := by simpa using z
        subst z
        exact ⟨p, o', hp, h2, h3, upd_same, h⟩
    · obtain ⟨q, o, e1, e2, e3, e4, e5⟩ := S.ow j B e
      have nq : q ≠ p := fun z => hj (S.sep i j _ _ p hi e hm True.intro hp (z ▸ e1))
      exact ⟨q, o, e1, e2, e3, by rw [upd_ne nq]; exact e4, e5⟩
theorem sat_wr {H0 F0 F H : Hp} {σ : L2.St} {i : Nat} {p : Addr} {ys : List V} (g : Gr F0 H0 F H) (S : Sat H0 F σ H ρ) (hi : ρ[i]? = some (En.own l)) (hp : σ[i]? = some (some (V.ref p))) (hv : AllV F ys m) :
    Gr F0 H0 F (upd H p (.lst ys)) ∧ Sat H0 F σ (upd H p (.lst ys)) (ρ.set i (.own m)) := sat_wrM g S hi True.intro hp (.inl ⟨m, ys, rfl, rfl, hv⟩)
/-- x.append(e), x a list of one's own: hb by pe_bm .. (pv i) (pa_cons _ pa_nil) -/
theorem sa_app (i : Nat) (hr : ρ[i]? = some (En.own l)) (hb : PE X e (tBM X.K "list" rAppend (tVar i) (tCons (tA ρ A) tNil))) (hz : l.length < sizeLine) (k : Nx (ρ.set i (.own (l ++ [A])))) (hsw : swapsWith e none pos.line X.env = pure false := by rfl) :
    SA X (.Expr e pos) ρ Nx W := by
  refine ps_imp (ps_expr hb hsw) fun D σ H ⟨F0, H0, F, g, S, q, _⟩ => ?_
  obtain ⟨p, xs, h1, h2, h3, h4, h5⟩ := S.own i l hr
  refine ⟨_, h1, .inl ⟨rfl, _, SqL.of h4⟩, H0, F, S, fun v H' F' g' hv' => ?_⟩
  have g2 := g.trans g'
  refine ⟨p, xs, v, rfl, rfl, g'.h p _ h4, by rw [h5.length]; exact hz, ?_⟩
  obtain ⟨g3, S3⟩ := sat_wr g2 (S.gr g') hr h1 ((h5.mono g'.f).snoc hv')
  exact q _ σ _ F' k g3 S3

/-! ### calls -/
def spP (l : List As) (A : As) : Sp := fun vs H Q _ => ∃ F, Ex F H ∧ AllV F vs l ∧ ∀ v H' F', Gr F H F' H' → A.p F' v → Q v H'
def spX {ι : Type} (pre : ι → Prop) (l : ι → List As) (A : ι → As) : Sp := fun vs H Q E => ∃ i, pre i ∧ spP (l i) (A i) vs H Q E
/-- a def of the module that keeps a promise -/
structure Df (P : Program) (w : World) (K : PySem.W.Frag) (mg : Str → Option Value) (base : Heap) (k : Nat) (x : Str) (ps : List Str) (sp : Sp) : Prop where
  ex : ∃ f fd, FnOk P w K mg base CX0 k f fd ps sp ∧ mg x = some (.ref f) ∧ PySem.W.keepIn K (.ref f) = true ∧ Binds K fd ps []
theorem Df.mono {P : Program} {w : World} {K : PySem.W.Frag} {mg : Str → Option Value} {base : Heap} {j k : Nat} {x : Str} {ps : List Str} {sp : Sp} (D : Df P w K mg base j x ps sp) (h : j ≤ k) : Df P w K mg base k x ps sp :=
  let ⟨f, fd, h1, h2⟩ := D.ex
  ⟨f, fd, h1.mono h, h2⟩
theorem ea_call {k : Nat} {x : Str} {ps : List Str} {ι : Type} {pre : ι → Prop} {l : ι → List As} {A : ι → As} {p : Pos} (D : Df X.prog X.w X.K X.mg X.base k x ps (spX pre l A)) (hr : Room k X.A) (i : ι) (hp : pre i) (ha : EAs X (e :: es) ρ (l i)) (hg : Gl X x := by rfl)
    (hdb : (x == ("__debug__" : Str)) = false := by decide) (he : starEach (e :: es) X.env = (false, eval e X.env) :: starEach es X.env := by rfl) (hpl : (backTo pos (starEach es X.env)).any (·.1) = false := by rfl) : EA X (.Call (.Name x p) (e :: es) [] pos) ρ (A i) := by
  obtain ⟨f, fd, G, hm, hk, hb⟩ := D.ex
  refine pe_imp (pe_call G hr hg hm hk hb .nil pass0 ha (hdb := hdb) (he := he) (hpl := hpl)) fun σ H Q ⟨H0, F, S, q⟩ => ⟨H0, F, S, fun vs H1 F1 g1 h1 => ?_⟩
  show spX pre l A (vs ++ []) H1 Q E0
  rw [List.append_nil]
  exact ⟨i, hp, F1, g1.i, h1, fun v H' F' g hv => q v H' F' (g1.trans g) hv⟩

/-! ### loops -/
def tbL (I : Nat → List En → Prop) (l : List As) (j : Nat) (W : Wn) (Nx : List En → Prop) : TS := fun D σ H => ∃ n A ρ', l[n]? = some A ∧ I n ρ' ∧ sA (ρ'.set j (.fr A)) (fun ρ2 => ∃ ρ3, I (n + 1) ρ3 ∧ Le ρ3 ρ2) { W with B := Nx, C := fun ρ2 => ∃ ρ3, I (n + 1) ρ3 ∧ Le ρ3 ρ2 } D σ H
def tbR (I : Nat → List En → Prop) (z : Nat) (j : Nat) (W : Wn) (Nx : List En → Prop) : TS := fun D σ H => ∃ (n : Nat) (ρ' : List En), n < z ∧ I n ρ' ∧ sA (ρ'.set j (.fr (int (n : Int)))) (fun ρ2 => ∃ ρ3, I (n + 1) ρ3 ∧ Le ρ3 ρ2) { W with B := Nx, C := fun ρ2 => ∃ ρ3, I (n + 1) ρ3 ∧ Le ρ3 ρ2 } D σ H
/-- for x in a list that stays -/
theorem sa_for (j : Nat) {x : Str} {px : Pos} {it : Expr} (I : Nat → List En → Prop) (hp : PassesOwn (model X.prog X.w) X.A X.env X.xe) (hcalm : X.calm = true) (hN : X.N.Nodup) (hi : EA X it ρ (lstA l)) (h0 : ∃ ρ0, I 0 ρ0 ∧ Le ρ0 ρ)
    (hs : ∀ n A ρ', l[n]? = some A → I n ρ' → BA X sts (ρ'.set j (.fr A)) (fun ρ2 => ∃ ρ3, I (n + 1) ρ3 ∧ Le ρ3 ρ2) { W with B := Nx, C := fun ρ2 => ∃ ρ3, I (n + 1) ρ3 ∧ Le ρ3 ρ2 })
    (hd : ∀ ρ', I l.length ρ' → Nx ρ') (hj : X.N[j]? = some x := by rfl) (hx : Loc X.env.scope x := by first | exact .inl rfl | exact .inr rfl) (hf : X.fn x = true ∨ X.env.scope.names.lookup x = some .local := by first | exact .inl rfl | exact .inr rfl | assumption)
    (hfo : ∀ z, foldedSetIterable it X.env z = pure z := by intro _; rfl) :
    SA X (.For (.Name x px) it sts [] pos) ρ Nx W := by
  have hb : PSs X sts (tbL I l j W Nx) := ⟨fun pins s σ H D I' ⟨n, A, ρ', h1, h2, q⟩ => (hs n A ρ' h1 h2).run pins s σ H D I' q⟩
  refine ps_imp (ps_for hp hcalm (pi_list hi) (pg_name hN hj hx hf) hb hfo) fun D σ H ⟨F0, H0, F, g, S, q1, q2, q3, q4, q5⟩ => ?_
  refine ⟨H0, F, S, fun v H1 F1 g1 ⟨a, xs, ev, ha, hall⟩ => ⟨a, ev, ⟨xs, SqL.of (g1.i a _ ha)⟩, ?_⟩⟩
  have gA := g.trans g1
  refine for_list (K := X.K) (a := a) (xs := xs) (g := gName j) (tb := tbL I l j W Nx) (D := D) (fun n σ' H' => ∃ ρ' F', I n ρ' ∧ Gr F0 H0 F' H' ∧ Ex F1 F' ∧ Sat H0 F' σ' H' ρ') ?_ (fun n σ' H' _ ⟨ρ', F', _, g', x', _⟩ => SqL.of (g'.i a _ (x' a _ ha))) ?_ ?_
  · obtain ⟨ρ0, i0, le⟩ := h0
    exact ⟨ρ0, F1, i0, gA, Ex.refl F1, (S.gr g1).le le⟩
  · rintro n y σ' H' hy ⟨ρ', F', hI, g', x', S'⟩
    have hn : n < l.length := by
      have z := (List.getElem?_eq_some_iff.mp hy).1
      rw [hall.length] at z
      exact z
    obtain ⟨u, hu, hA⟩ := hall.get (List.getElem?_eq_getElem hn)
    rw [hy] at hu
    have e : y = u := by simpa using hu
    subst e
    have fin : ∀ ρ2 σ2 H2 F2, (∃ ρ3, I (n + 1) ρ3 ∧ Le ρ3 ρ2) → Gr F0 H0 F2 H2 → Ex F' F2 → Sat H0 F2 σ2 H2 ρ2 → ∃ ρ' F', I (n + 1) ρ' ∧ Gr F0 H0 F' H2 ∧ Ex F1 F' ∧ Sat H0 F' σ2 H2 ρ' := fun ρ2 σ2 H2 F2 ⟨ρ3, i3, le⟩ g2 x2 S2 => ⟨ρ3, F2, i3, g2, x'.trans x2, S2.le le⟩
    -- the body, from F'
    refine ⟨n, l[n], ρ', List.getElem?_eq_getElem hn, hI, F', H0, F', ?_, S'.set (l[n].mono x' hA), ?_, ?_, ?_, ?_, ?_⟩
    · exact ⟨Ex.refl F', g'.h, g'.i, fun a o z1 z2 => z2⟩
    · intro ρ2 σ2 H2 F2 hm g2 S2
      exact fin ρ2 σ2 H2 F2 hm ⟨g'.f.trans g2.f, g2.h, g2.i, fun a o z1 z2 => g2.n a o z1 (g'.n a o z1 z2)⟩ g2.f S2
    · intro v H2 F2 g2 hv
      exact q2 v H2 F2 ⟨g'.f.trans g2.f, g2.h, g2.i, fun a o z1 z2 => g2.n a o z1 (g'.n a o z1 z2)⟩ hv
    · intro ρ2 σ2 H2 F2 hm g2 S2
      exact q1 ρ2 σ2 H2 F2 hm ⟨g'.f.trans g2.f, g2.h, g2.i, fun a o z1 z2 => g2.n a o z1 (g'.n a o z1 z2)⟩ S2
    · intro ρ2 σ2 H2 F2 hm g2 S2
      exact fin ρ2 σ2 H2 F2 hm ⟨g'.f.trans g2.f, g2.h, g2.i, fun a o z1 z2 => g2.n a o z1 (g'.n a o z1 z2)⟩ g2.f S2
    · intro cls d ρ2 σ2 H2 F2 he g2 S2
      exact q5 cls d ρ2 σ2 H2 F2 he ⟨g'.f.trans g2.f, g2.h, g2.i, fun a o z1 z2 => g2.n a o z1 (g'.n a o z1 z2)⟩ S2
  · rintro σ' H' ⟨ρ', F', hI, g', x', S'⟩
    rw [hall.length] at hI
    exact q1 ρ' σ' H' F' (hd ρ' hI) g' S'
/-- for k in range(n) -/
theorem sa_forR (j : Nat) {x : Str} {px p1 : Pos} {it : Expr} {z : Int} (I : Nat → List En → Prop) (hp : PassesOwn (model X.prog X.w) X.A X.env X.xe) (hcalm : X.calm = true) (hN : X.N.Nodup) (hm : X.mg "range" = none) (hi : EW X it ρ (int z)) (hz : -(2 ^ 62) ≤ z ∧ z < 2 ^ 62) (h0 : ∃ ρ0, I 0 ρ0 ∧ Le ρ0 ρ)
    (hs : ∀ (n : Nat) ρ', n < z.toNat → I n ρ' → BA X sts (ρ'.set j (.fr (int (n : Int)))) (fun ρ2 => ∃ ρ3, I (n + 1) ρ3 ∧ Le ρ3 ρ2) { W with B := Nx, C := fun ρ2 => ∃ ρ3, I (n + 1) ρ3 ∧ Le ρ3 ρ2 })
    (hd : ∀ ρ', I z.toNat ρ' → Nx ρ') (hj : X.N[j]? = some x := by rfl) (hx : Loc X.env.scope x := by first | exact .inl rfl | exact .inr rfl) (hf : X.fn x = true ∨ X.env.scope.names.lookup x = some .local := by first | exact .inl rfl | exact .inr rfl | assumption)
    (hg : Gl X "range" := by rfl) (hse : starEach [it] X.env = [(false, eval it X.env)] := by rfl) (hfo : ∀ z, foldedSetIterable (.Call (.Name "range" p1) [it] [] pos) X.env z = pure z := by intro _; rfl) {pos' : Pos} :
    SA X (.For (.Name x px) (.Call (.Name "range" p1) [it] [] pos) sts [] pos') ρ Nx W := by
  have hb : PSs X sts (tbR I z.toNat j W Nx) := ⟨fun pins s σ H D I' ⟨n, ρ', h1, h2, q⟩ => (hs n ρ' h1 h2).run pins s σ H D I' q⟩
  refine ps_imp (ps_for hp hcalm (pi_range1 hg hm (pa_cons hi pa_nil hse) hse) (pg_name hN hj hx hf) hb hfo) fun D σ H ⟨F0, H0, F, g, S, q1, q2, q3, q4, q5⟩ => ?_
  refine ⟨H0, F, S, fun v H1 F1 g1 ev => ?_⟩
  have ev : v = .int z := ev
  subst ev
  refine ⟨z, rfl, hz.1, hz.2, ?_⟩
  have gA := g.trans g1
  refine for_range (lo := 0) (n := z.toNat) (g := gName j) (tb := tbR I z.toNat j W Nx) (D := D) (fun n σ' H' => ∃ ρ' F', I n ρ' ∧ Gr F0 H0 F' H' ∧ Sat H0 F' σ' H' ρ') ?_ ?_ ?_
  · obtain ⟨ρ0, i0, le⟩ := h0
    exact ⟨ρ0, F1, i0, gA, (S.gr g1).le le⟩
  · rintro n σ' H' hn ⟨ρ', F', hI, g', S'⟩
    have e0 : (0 : Int) + (n : Int) = (n : Int) := Int.zero_add _
    show tbR I z.toNat j W Nx _ (σ'.set j (some (.int ((0 : Int) + (n : Int))))) H'
    rw [e0]
    refine ⟨n, ρ', hn, hI, F0, H0, F', g', S'.set rfl, ?_, q2, q1, ?_, q5⟩
    · intro ρ2 σ2 H2 F2 ⟨ρ3, i3, le⟩ g2 S2
      exact ⟨ρ3, F2, i3, g2, S2.le le⟩
    · intro ρ2 σ2 H2 F2 ⟨ρ3, i3, le⟩ g2 S2
      exact ⟨ρ3, F2, i3, g2, S2.le le⟩
  · rintro σ' H' ⟨ρ', F', hI, g', S'⟩
    exact q1 ρ' σ' H' F' (hd ρ' hI) g' S'
end

/-! ### a def -/
def entry (N : List Str) (l : List As) : List En := l.map En.fr ++ List.replicate (N.length - l.length) En.no
theorem sat_start {N ps : List Str} {vs : List V} {F H : Hp} {l : List As} (e : Ex F H) (h : AllV F vs l) : Sat H F (L2.start N vs) H (entry N l) := by
  have hl := h.length
  have nm : ∀ {i : Nat} {y : En}, (entry N l)[i]? = some y → ¬ y.Mn := fun {i y} ei m => by
    unfold entry at ei
    rcases List.mem_append.mp (List.mem_of_getElem? ei) with z | z
    · obtain ⟨A, _, rfl⟩ := List.mem_map.mp z
      exact m
    · rw [(List.mem_replicate.mp z).2] at m
      exact m
  refine ⟨e, fun i A ei => ?_, fun i m ei => (nm ei True.intro).elim, fun i j m n p ei _ m1 => (nm ei m1).elim, ?_, fun i B ei => (nm ei True.intro).elim⟩
  · by_cases hi : i < l.length
    · unfold entry at ei
      rw [List.getElem?_append_left (by simpa using hi), List.getElem?_map] at ei
      cases q : l[i]? with
      | none =>
        rw [q] at ei
        cases ei
      | some B =>
        rw [q] at ei
        have e2 : B = A := by simpa using ei
        subst e2
        obtain ⟨v, h1, h2⟩ := h.get q
        refine ⟨v, ?_, h2⟩
        unfold L2.start
        rw [List.getElem?_append_left (by simpa [hl] using hi), List.getElem?_map, h1]
        rfl
    · unfold entry at ei
      rw [List.getElem?_append_right (by simpa using Nat.le_of_not_lt hi)] at ei
      have z := List.mem_replicate.mp (List.mem_of_getElem? ei)
      cases z.2
  · unfold entry L2.start
    simp [hl]
theorem fn_ok {P : Program} {w : World} {K : PySem.W.Frag} {mg : Str → Option Value} {base : Heap} {x qual : Str} {st : Stmt} {f : Addr} {fd : FuncData} {N ps : List Str} {k : Nat} {ι : Type} {pre : ι → Prop} {l : ι → List As} {A : ι → As} (F : Fun K x qual st f fd) (S : FnScope N ps (defScope st)) (hl : ∀ i, pre i → (l i).length = ps.length)
    (hb : ∀ (i : ι) (cdv : Value) (B : Around) (outer : List Env) (s : Shared) (H : Hp) (E : XK), pre i → Room k (B.deeper (PyProof.Rows.envOfC qual (defScope st) s.heap.objs.size f cdv)) →
      BA (cxOf CX0 P w K mg base N qual (defScope st) f cdv B outer s H E).nox (defBody st) (entry N (l i)) (fun _ => ∀ F, (A i).p F .non) { R := A i }) : FnOk P w K mg base CX0 (k + 1) f fd ps (spX pre l A) := by
  refine F.ok S (fun vs H Q E h => ?_) (fun cdv B outer s H vs Q E hr h => ?_)
  · obtain ⟨i, hp, F, e, hv, _⟩ := h
    rw [hv.length, hl i hp]
  · obtain ⟨i, hp, F, e, hv, q⟩ := h
    refine ⟨_, hb i cdv B outer s H E hp hr, F, H, F, .refl e, sat_start (ps := ps) e hv, ?_, ?_, ?_, ?_, ?_⟩
    · intro ρ' σ' H' F' hn g' S'
      exact q .non H' F' g' (hn F')
    · intro v H' F' g' hv
      exact q v H' F' g' hv
    · intro _ _ _ _ z
      exact z.elim
    · intro _ _ _ _ z
      exact z.elim
    · intro _ _ _ _ _ _ z
      exact z.elim
end Lk

set_option Elab.async false
set_option linter.all false
set_option maxRecDepth 100000
set_option maxHeartbeats 4000000
namespace Lk
open PySem PySem.Calls L2
/-! ### comprehensions -/
def wipeE (ρ : List En) : List Nat → List En
  | [] => ρ
  | v :: vs => (wipeE ρ vs).set v .no
theorem wipeE_length (ρ : List En) : ∀ vs, (wipeE ρ vs).length = ρ.length
  | [] => rfl
  | v :: vs => by unfold wipeE; rw [List.length_set, wipeE_length ρ vs]
theorem wipeE_get {ρ : List En} {i : Nat} {x : En} (hx : x ≠ .no) : ∀ {vs : List Nat}, (wipeE ρ vs)[i]? = some x → ρ[i]? = some x ∧ i ∉ vs
  | [], h => ⟨h, by simp⟩
  | v :: vs, h => by
    unfold wipeE at h
    by_cases hi : v = i
    · subst hi
      by_cases hv : v < (wipeE ρ vs).length
      · rw [List.getElem?_set_self hv] at h
        exact absurd (Option.some.inj h).symm hx
      · rw [List.getElem?_eq_none (by simpa using hv)] at h; cases h
    · rw [List.getElem?_set_ne hi] at h
      obtain ⟨h1, h2⟩ := wipeE_get hx h
      exact ⟨h1, by simp only [List.mem_cons, not_or]; exact ⟨fun e => hi e.symm, h2⟩⟩
theorem wipe_get {σ : L2.St} {i : Nat} : ∀ {vs : List Nat}, i ∉ vs → (wipe σ vs)[i]? = σ[i]?
  | [], _ => rfl
  | v :: vs, h => by
    unfold wipe
    have h1 : v ≠ i := fun e => h (e ▸ List.mem_cons_self)
    rw [List.getElem?_set_ne h1]
    exact wipe_get fun z => h (List.mem_cons_of_mem _ z)
theorem Sat.wipe {H0 F H : Hp} {σ : L2.St} {ρ : List En} (S : Sat H0 F σ H ρ) (vs : List Nat) : Sat H0 F (L2.wipe σ vs) H (wipeE ρ vs) := by
  have mn : ∀ {i : Nat} {y : En}, (wipeE ρ vs)[i]? = some y → y.Mn → ρ[i]? = some y ∧ i ∉ vs := fun {i y} e m => wipeE_get (fun z => by rw [z] at m; exact m) e
  refine ⟨S.ex, fun i A e => ?_, fun i l e => ?_, fun i j y z p e1 e2 m1 m2 h1 h2 => ?_, by rw [wipeE_length, wipe_length]; exact S.len, fun i B e => ?_⟩
  · obtain ⟨h1, h2⟩ := wipeE_get (x := En.fr A) (fun z => by cases z) e
    rw [wipe_get h2]
    exact S.fr i A h1
  · obtain ⟨h1, h2⟩ := mn e True.intro
    rw [wipe_get h2]
    exact S.own i l h1
  · obtain ⟨a1, a2⟩ := mn e1 m1
    obtain ⟨b1, b2⟩ := mn e2 m2
    rw [wipe_get a2] at h1
    rw [wipe_get b2] at h2
    exact S.sep i j y z p a1 b1 m1 m2 h1 h2
  · obtain ⟨h1, h2⟩ := mn e True.intro
    rw [wipe_get h2]
    exact S.ow i B h1
theorem wipe_set {σ : L2.St} {j : Nat} {x : Option V} : ∀ {vs : List Nat}, j ∈ vs → L2.wipe ((L2.wipe σ vs).set j x) vs = L2.wipe σ vs := by
  have idem : ∀ (vs : List Nat) (τ : L2.St) (i : Nat), i ∈ vs → (L2.wipe τ vs)[i]? = if i < τ.length then some none else none := by
    intro vs
    induction vs with
    | nil => intro τ i h; simp at h
    | cons v vs ih =>
      intro τ i h
      unfold L2.wipe
      by_cases e : v = i
      · subst e
        rw [List.getElem?_set]
        simp [wipe_length]
      · rw [List.getElem?_set_ne e]
        exact ih τ i ((List.mem_cons.mp h).resolve_left fun z => e z.symm)
  intro vs hj
  refine List.ext_getElem? fun i => ?_
  by_cases hi : i ∈ vs
  · rw [idem vs _ i hi, idem vs _ i hi, List.length_set, wipe_length]
  · rw [wipe_get hi, List.getElem?_set_ne (fun z => hi (by rw [← z]; exact hj))]
section
variable {α : Type}
/-- the test and the element of a comprehension over data -/
def tTc (ρ : α → List En) (l : List α) (p : α → Bool) : TT := fun σ H Q => ∃ a, a ∈ l ∧ tTs (ρ a) (p a) σ H Q
def tEc (ρ : α → List En) (l : List α) (p : α → Bool) (g : α → As) : TE := fun σ H Q => ∃ a, a ∈ l ∧ p a = true ∧ tA (ρ a) (g a) σ H Q
theorem pts_c {X : Cx} {ifs : List Expr} {ρ : α → List En} {l : List α} {p : α → Bool} (h : ∀ a ∈ l, PTs X ifs (tTs (ρ a) (p a))) : PTs X ifs (tTc ρ l p) := ⟨fun pins s σ H Q I ⟨a, ha, q⟩ => (h a ha).run pins s σ H Q I q⟩
theorem pe_c {X : Cx} {e : Expr} {ρ : α → List En} {l : List α} {p : α → Bool} {g : α → As} (h : ∀ a ∈ l, p a = true → EA X e (ρ a) (g a)) : PE X e (tEc ρ l p g) := ⟨fun pins s σ H Q I ⟨a, ha, hp, q⟩ => (h a ha hp).run pins s σ H Q I q⟩
theorem pts_yes {X : Cx} {ρ : List En} : PTs X [] (tTs ρ true) := ⟨fun pins s σ H Q I ⟨H0, F, S, k⟩ => pts_nil.run pins s σ H Q I (k H F (.refl S.ex))⟩
/-- the state of the walk through a comprehension: the list so far at D -/
structure Lcs (F1 H1 : Hp) (D : Addr) (l : List α) (p : α → Bool) (g : α → As) (i : Nat) (H' : Hp) : Prop where
  ex : ∃ F' acc, Gr F1 H1 F' H' ∧ F' D = none ∧ H' D = some (.lst acc) ∧ AllV F' acc (((l.take i).filter p).map g)
theorem lcs_turn {F1 H1 : Hp} {D : Addr} {l : List α} {p : α → Bool} {g : α → As} {i : Nat} {H' H0 H00 F00 : Hp} {σ : L2.St} {j : Nat} {ρ : List En} {enc : α → As} {x : V} {vs : List Nat} {a : α} (hj : j ∈ vs) (ha : l[i]? = some a) (hz : l.length < sizeLine)
    (S : Sat H0 F1 σ H1 ρ) (hx : (enc a).p F1 x) (L : Lcs F1 H1 D l p g i H') (hD : H1 D = none) :
    gName j x (L2.wipe σ vs) H' fun σ2 H2 => L2.wipe σ2 vs = L2.wipe σ vs ∧ tTc (fun a => (wipeE ρ vs).set j (.fr (enc a))) l p σ2 H2 fun b H3 =>
      if b = true then tEc (fun a => (wipeE ρ vs).set j (.fr (enc a))) l p g σ2 H3 fun y H4 => ∃ acc, H4 D = some (.lst acc) ∧ acc.length < sizeLine ∧ Lcs F1 H1 D l p g (i + 1) (upd H4 D (.lst (acc ++ [y]))) else Lcs F1 H1 D l p g (i + 1) H3 := by
  obtain ⟨F', acc, G, fD, hDl, hall⟩ := L.ex
  have hi : i < l.length := (List.getElem?_eq_some_iff.mp ha).1
  have mem : a ∈ l := List.mem_of_getElem? ha
  have tk : l.take (i + 1) = l.take i ++ [a] := by
    rw [List.take_add_one, ha]
    rfl
  refine ⟨wipe_set hj, a, mem, H0, F', ((S.gr G).wipe vs).set ((enc a).mono G.f hx), fun H3 F3 g3 => ?_⟩
  have GD : Gr F1 H1 F3 H3 := G.trans g3
  have f3 : F3 D = none := g3.n D _ hDl fD
  have h3 : H3 D = some (.lst acc) := g3.h D _ hDl
  cases hp : p a with
  | false =>
    refine ⟨F3, acc, GD, f3, h3, ?_⟩
    rw [tk, List.filter_append, List.filter_cons, hp]
    simpa using hall.mono g3.f
  | true =>
    refine ⟨a, mem, hp, H0, F3, ((S.gr GD).wipe vs).set ((enc a).mono GD.f hx), fun y H4 F4 g4 hy => ⟨acc, g4.h D _ h3, ?_, ?_⟩⟩
    · rw [hall.length, List.length_map]
      have q := List.length_filter_le p (l.take i)
      rw [List.length_take] at q
      omega
    · have f4 : F4 D = none := g4.n D _ h3 f3
      have GE := GD.trans g4
      refine ⟨F4, acc ++ [y], ⟨GE.f, fun b o z => ?_, fun b o z => ?_, GE.n⟩, f4, upd_same, ?_⟩
      · rw [upd_ne (ne_of_none z hD)]
        exact GE.h b o z
      · rw [upd_ne (ne_of_none z f4)]
        exact GE.i b o z
      · rw [tk, List.filter_append, List.map_append]
        have e : (List.filter p [a]).map g = [g a] := by simp [hp]
        rw [e]
        exact (hall.mono (g3.f.trans g4.f)).snoc hy
theorem tlc_list {K : PySem.W.Frag} {σ : L2.St} {H : Hp} {Q : VK} {ρ : List En} {l : List α} {enc : α → As} {p : α → Bool} {g : α → As} {vs : List Nat} {j : Nat} (hj : j ∈ vs) (hz : l.length < sizeLine) (h : tN ρ ((l.filter p).map g) σ H Q) :
    tLc (iList K (tL ρ (l.map enc))) (gName j) (tTc (fun a => (wipeE ρ vs).set j (.fr (enc a))) l p) (tEc (fun a => (wipeE ρ vs).set j (.fr (enc a))) l p g) vs σ H Q := by
  obtain ⟨H0, F, S, k⟩ := h
  refine ⟨H0, F, S, fun a xs H1 F1 g1 h1 h2 => ⟨a, rfl, ⟨xs, SqL.of h1⟩, fun D hD => ?_⟩⟩
  have hlen : xs.length = l.length := by rw [h2.length, List.length_map]
  refine lc_list (K := K) (a := a) (xs := xs) (fun i H' => Lcs F1 H1 D l p g i H') ⟨F1, [], .newH g1.i hD, g1.i.none hD, upd_same, by simp [AllV]⟩ (fun i H' _ L => ?_) (fun i x H' hx L => ?_) (fun H' L => ?_)
  · obtain ⟨F', acc, G, _⟩ := L.ex
    exact SqL.of (G.h a _ h1)
  · have hi : i < l.length := by
      have z := (List.getElem?_eq_some_iff.mp hx).1
      omega
    have ha : l[i]? = some l[i] := List.getElem?_eq_getElem hi
    obtain ⟨u, hu, hA⟩ := h2.get (i := i) (A := enc l[i]) (by rw [List.getElem?_map, ha]; rfl)
    rw [hx] at hu
    have e : x = u := by simpa using hu
    subst e
    exact lcs_turn (H00 := H) (F00 := F) hj ha hz (S.gr g1) hA L hD
  · rw [hlen] at L
    obtain ⟨F', acc, G, fD, hDl, hall⟩ := L.ex
    rw [List.take_length] at hall
    exact k D acc H' F' (g1.trans G) (g1.h.none hD) fD hDl hall
theorem tlc_range {σ : L2.St} {H : Hp} {Q : VK} {ρ : List En} {z : Int} {p : Nat → Bool} {g : Nat → As} {vs : List Nat} {j : Nat} (hj : j ∈ vs) (h1 : -(2 ^ 62) ≤ z ∧ z < 2 ^ 24) (h : tN ρ (((List.range z.toNat).filter p).map g) σ H Q) :
    tLc (iRng1 (tCons (tW ρ (int z)) tNil)) (gName j) (tTc (fun a => (wipeE ρ vs).set j (.fr (int (a : Nat)))) (List.range z.toNat) p) (tEc (fun a => (wipeE ρ vs).set j (.fr (int (a : Nat)))) (List.range z.toNat) p g) vs σ H Q := by
  obtain ⟨H0, F, S, k⟩ := h
  refine ⟨H0, F, S, fun v H1 F1 g1 hv => ?_⟩
  have hv : v = .int z := hv
  subst hv
  refine ⟨z, rfl, h1.1, by omega, fun D hD => ?_⟩
  have hz : (List.range z.toNat).length < sizeLine := by
    rw [List.length_range, sizeLine_eq]
    omega
  refine lc_range (lo := 0) (n := z.toNat) (fun i H' => Lcs F1 H1 D (List.range z.toNat) p g i H') ⟨F1, [], .newH g1.i hD, g1.i.none hD, upd_same, by simp [AllV]⟩ (fun i H' hi L => ?_) (fun H' L => ?_)
  · have e0 : (0 : Int) + (i : Int) = (i : Int) := Int.zero_add _
    rw [e0]
    exact lcs_turn (enc := fun a : Nat => int (a : Int)) (H00 := H) (F00 := F) hj (by rw [List.getElem?_range hi]) hz (S.gr g1) rfl L hD
  · obtain ⟨F', acc, G, fD, hDl, hall⟩ := L.ex
    rw [List.take_of_length_le (by rw [List.length_range]; exact Nat.le_refl _)] at hall
    exact k D acc H' F' (g1.trans G) (g1.h.none hD) fD hDl hall
end
section
variable {α : Type} {X : Cx} {ρ : List En} {pos spos : Pos} {elt it : Expr} {ifs : List Expr} {scope : Scope} {Nx : List En → Prop} {W : Wn}
/-- [elt for x in it if ..] over data, own: the comprehension's names, j x's slot -/
theorem en_lc {own : List (Str × Nat)} (j : Nat) {x : Str} {px : Pos} {l : List α} {enc : α → As} {p : α → Bool} {g : α → As} (hc : X.calm = true) (hN : X.N.Nodup) (hi : EL X it ρ (l.map enc)) (hz : l.length < sizeLine) (ok : BlkOk X.N X.env.scope scope own)
    (hg : ∀ (s : Shared) (H : Hp) (C : Addr) (cl : List (Str × Addr)) (fp : List Addr), PG (X.blk s H scope (compEnvC scope cl C X.env) fp) (.Name x px) (gName j))
    (ht : ∀ (s : Shared) (H : Hp) (C : Addr) (cl : List (Str × Addr)) (fp : List Addr), ∀ a ∈ l, PTs (X.blk s H scope (compEnvC scope cl C X.env) fp) ifs (tTs ((wipeE ρ (own.map (·.2))).set j (.fr (enc a))) (p a)))
    (he : ∀ (s : Shared) (H : Hp) (C : Addr) (cl : List (Str × Addr)) (fp : List Addr), ∀ a ∈ l, p a = true → EA (X.blk s H scope (compEnvC scope cl C X.env) fp) elt ((wipeE ρ (own.map (·.2))).set j (.fr (enc a))) (g a))
    (hj : j ∈ own.map (·.2) := by decide) (hs : ∀ z, foldedSetIterable it X.env z = pure z := by intro _; rfl) :
    EN X (.ListComp elt [⟨.Name x px, it, ifs, 0⟩] scope pos) ρ ((l.filter p).map g) :=
  pe_imp (pe_lc (own := own) hc hN (pi_list hi) ok hg (fun s H C cl fp => pts_c (ht s H C cl fp)) (fun s H C cl fp => pe_c (he s H C cl fp)) hs) fun σ H Q h => tlc_list hj hz h
theorem sa_setLc {own : List (Str × Nat)} (i j : Nat) {x y : Str} {px py : Pos} {l : List α} {enc : α → As} {p : α → Bool} {g : α → As} (hc : X.calm = true) (hN : X.N.Nodup) (hi : EL X it ρ (l.map enc)) (hz : l.length < sizeLine) (ok : BlkOk X.N X.env.scope scope own)
    (hg : ∀ (s : Shared) (H : Hp) (C : Addr) (cl : List (Str × Addr)) (fp : List Addr), PG (X.blk s H scope (compEnvC scope cl C X.env) fp) (.Name x px) (gName j))
    (ht : ∀ (s : Shared) (H : Hp) (C : Addr) (cl : List (Str × Addr)) (fp : List Addr), ∀ a ∈ l, PTs (X.blk s H scope (compEnvC scope cl C X.env) fp) ifs (tTs ((wipeE ρ (own.map (·.2))).set j (.fr (enc a))) (p a)))
    (he : ∀ (s : Shared) (H : Hp) (C : Addr) (cl : List (Str × Addr)) (fp : List Addr), ∀ a ∈ l, p a = true → EA (X.blk s H scope (compEnvC scope cl C X.env) fp) elt ((wipeE ρ (own.map (·.2))).set j (.fr (enc a))) (g a))
    (k : Nx (ρ.set i (.own ((l.filter p).map g)))) (hy : X.N[i]? = some y := by rfl) (hyl : X.env.scope.names.lookup y = some .local := by rfl)
    (hsw : swapsWith (.ListComp elt [⟨.Name x px, it, ifs, 0⟩] scope pos) (some (.Name y py)) spos.line X.env = pure true := by exact sw_true rfl rfl rfl (by decide +kernel))
    (hj : j ∈ own.map (·.2) := by decide) (hs : ∀ z, foldedSetIterable it X.env z = pure z := by intro _; rfl) :
    SA X (.Assign [.Name y py] (.ListComp elt [⟨.Name x px, it, ifs, 0⟩] scope pos) spos) ρ Nx W :=
  ps_imp (ps_setLc (own := own) (i := i) hc hN hy hyl hsw (pi_list hi) ok hg (fun s H C cl fp => pts_c (ht s H C cl fp)) (fun s H C cl fp => pe_c (he s H C cl fp)) hs) fun D σ H ⟨F0, H0, F, g0, S, q, _⟩ => tlc_list hj hz ⟨H0, F, S, fun p' xs H' F' g' n1 n2 hp hv => q _ _ H' F' k (g0.trans g') ((S.gr g').setN (g0.h.none n1) n2 hp hv (S.newAt n1 _))⟩
theorem en_lcR {own : List (Str × Nat)} (j : Nat) {x : Str} {px p1 p2 : Pos} {z : Int} {p : Nat → Bool} {g : Nat → As} (hc : X.calm = true) (hN : X.N.Nodup) (hm : X.mg "range" = none) (hi : EW X it ρ (int z)) (hz : -(2 ^ 62) ≤ z ∧ z < 2 ^ 24) (ok : BlkOk X.N X.env.scope scope own)
    (hg : ∀ (s : Shared) (H : Hp) (C : Addr) (cl : List (Str × Addr)) (fp : List Addr), PG (X.blk s H scope (compEnvC scope cl C X.env) fp) (.Name x px) (gName j))
    (ht : ∀ (s : Shared) (H : Hp) (C : Addr) (cl : List (Str × Addr)) (fp : List Addr), ∀ a ∈ List.range z.toNat, PTs (X.blk s H scope (compEnvC scope cl C X.env) fp) ifs (tTs ((wipeE ρ (own.map (·.2))).set j (.fr (int (a : Nat)))) (p a)))
    (he : ∀ (s : Shared) (H : Hp) (C : Addr) (cl : List (Str × Addr)) (fp : List Addr), ∀ a ∈ List.range z.toNat, p a = true → EA (X.blk s H scope (compEnvC scope cl C X.env) fp) elt ((wipeE ρ (own.map (·.2))).set j (.fr (int (a : Nat)))) (g a))
    (hgr : Gl X "range" := by rfl) (hse : starEach [it] X.env = [(false, eval it X.env)] := by rfl) (hj : j ∈ own.map (·.2) := by decide) (hs : ∀ z, foldedSetIterable (.Call (.Name "range" p1) [it] [] p2) X.env z = pure z := by intro _; rfl) :
    EN X (.ListComp elt [⟨.Name x px, .Call (.Name "range" p1) [it] [] p2, ifs, 0⟩] scope pos) ρ (((List.range z.toNat).filter p).map g) :=
  pe_imp (pe_lc (own := own) hc hN (pi_range1 hgr hm (pa_cons hi pa_nil hse) hse) ok hg (fun s H C cl fp => pts_c (ht s H C cl fp)) (fun s H C cl fp => pe_c (he s H C cl fp)) hs) fun σ H Q h => tlc_range hj hz h
theorem sa_setLcR {own : List (Str × Nat)} (i j : Nat) {x y : Str} {px py p1 p2 : Pos} {z : Int} {p : Nat → Bool} {g : Nat → As} (hc : X.calm = true) (hN : X.N.Nodup) (hm : X.mg "range" = none) (hi : EW X it ρ (int z)) (hz : -(2 ^ 62) ≤ z ∧ z < 2 ^ 24) (ok : BlkOk X.N X.env.scope scope own)
    (hg : ∀ (s : Shared) (H : Hp) (C : Addr) (cl : List (Str × Addr)) (fp : List Addr), PG (X.blk s H scope (compEnvC scope cl C X.env) fp) (.Name x px) (gName j))
    (ht : ∀ (s : Shared) (H : Hp) (C : Addr) (cl : List (Str × Addr)) (fp : List Addr), ∀ a ∈ List.range z.toNat, PTs (X.blk s H scope (compEnvC scope cl C X.env) fp) ifs (tTs ((wipeE ρ (own.map (·.2))).set j (.fr (int (a : Nat)))) (p a)))
    (he : ∀ (s : Shared) (H : Hp) (C : Addr) (cl : List (Str × Addr)) (fp : List Addr), ∀ a ∈ List.range z.toNat, p a = true → EA (X.blk s H scope (compEnvC scope cl C X.env) fp) elt ((wipeE ρ (own.map (·.2))).set j (.fr (int (a : Nat)))) (g a))
    (k : Nx (ρ.set i (.own (((List.range z.toNat).filter p).map g)))) (hy : X.N[i]? = some y := by rfl) (hyl : X.env.scope.names.lookup y = some .local := by rfl)
    (hsw : swapsWith (.ListComp elt [⟨.Name x px, .Call (.Name "range" p1) [it] [] p2, ifs, 0⟩] scope pos) (some (.Name y py)) spos.line X.env = pure true := by exact sw_true rfl rfl rfl (by decide +kernel))
    (hgr : Gl X "range" := by rfl) (hse : starEach [it] X.env = [(false, eval it X.env)] := by rfl) (hj : j ∈ own.map (·.2) := by decide) (hs : ∀ z, foldedSetIterable (.Call (.Name "range" p1) [it] [] p2) X.env z = pure z := by intro _; rfl) :
    SA X (.Assign [.Name y py] (.ListComp elt [⟨.Name x px, .Call (.Name "range" p1) [it] [] p2, ifs, 0⟩] scope pos) spos) ρ Nx W :=
  ps_imp (ps_setLc (own := own) (i := i) hc hN hy hyl hsw (pi_range1 hgr hm (pa_cons hi pa_nil hse) hse) ok hg (fun s H C cl fp => pts_c (ht s H C cl fp)) (fun s H C cl fp => pe_c (he s H C cl fp)) hs) fun D σ H ⟨F0, H0, F, g0, S, q, _⟩ => tlc_range hj hz ⟨H0, F, S, fun p' xs H' F' g' n1 n2 hp hv => q _ _ H' F' k (g0.trans g') ((S.gr g').setN (g0.h.none n1) n2 hp hv (S.newAt n1 _))⟩
end
end Lk

set_option Elab.async false
set_option linter.all false
set_option maxRecDepth 100000
set_option maxHeartbeats 4000000
namespace Lk
open PySem PySem.Calls L2
section
variable {X : Cx} {e a b c : Expr} {es : List Expr} {ρ : List En} {A B C : As} {l m : List As} {pos : Pos}
/-- a call of a built-in type with one value -/
theorem ea_ty1 {T : String} {r : List V → Hp → VK → Prop} {x : Str} {p : Pos} (hc : CallR X (.type T) r) (ha : EW X a ρ A) {v : V} (hr : ∀ u H Q, A.p H u → Q v H → r [u] H Q) (hm : X.mg x = none) (hv : bootBuiltins x = some (.type T)) (hg : Gl X x := by rfl)
    (hn : x ≠ "__name__" := by decide) (hdb : (x == ("__debug__" : Str)) = false := by decide) (hs : starEach [a] X.env = (false, eval a X.env) :: starEach [] X.env := by rfl) (hpl : (backTo pos (starEach [] X.env)).any (·.1) = false := by rfl) : EA X (.Call (.Name x p) [a] [] pos) ρ (sc v) :=
  pe_imp (pe_callTy hc hg hm hv (pa_cons ha pa_nil hs) hn hdb (he := hs) (hpl := hpl)) fun σ H Q ⟨H0, F, S, k⟩ => ⟨H0, F, S, fun u H1 F1 g1 h1 => hr u H1 Q h1 (k v H1 F1 g1 rfl)⟩
theorem ea_bi1 {T : String} {r : List V → Hp → VK → Prop} {x : Str} {p : Pos} (hc : CallR X (.builtin T) r) (ha : EW X a ρ A) {v : V} (hr : ∀ u H Q, A.p H u → Q v H → r [u] H Q) (hm : X.mg x = none) (hv : bootBuiltins x = some (.builtin T)) (hg : Gl X x := by rfl)
    (hn : x ≠ "__name__" := by decide) (hdb : (x == ("__debug__" : Str)) = false := by decide) (hs : starEach [a] X.env = (false, eval a X.env) :: starEach [] X.env := by rfl) (hpl : (backTo pos (starEach [] X.env)).any (·.1) = false := by rfl) : EA X (.Call (.Name x p) [a] [] pos) ρ (sc v) :=
  pe_imp (pe_callB hc hg hm hv (pa_cons ha pa_nil hs) hn hdb (he := hs) (hpl := hpl)) fun σ H Q ⟨H0, F, S, k⟩ => ⟨H0, F, S, fun u H1 F1 g1 h1 => hr u H1 Q h1 (k v H1 F1 g1 rfl)⟩
theorem bo_int : bootBuiltins ("int" : Str) = some (.type "int") := by decide +kernel
theorem bo_len : bootBuiltins ("len" : Str) = some (.builtin "len") := by decide +kernel
theorem bo_list : bootBuiltins ("list" : Str) = some (.type "list") := by decide +kernel
theorem bo_tuple : bootBuiltins ("tuple" : Str) = some (.type "tuple") := by decide +kernel
theorem bo_any : bootBuiltins ("any" : Str) = some (.builtin "any") := by decide +kernel
theorem bo_all : bootBuiltins ("all" : Str) = some (.builtin "all") := by decide +kernel
theorem bo_isi : bootBuiltins ("isinstance" : Str) = some (.builtin "isinstance") := by decide +kernel
theorem ea_int1 {i : Int} {p : Pos} (ha : EW X a ρ (int i)) (hm : X.mg "int" = none) (hg : Gl X "int" := by rfl) (hs : starEach [a] X.env = (false, eval a X.env) :: starEach [] X.env := by rfl) (hpl : (backTo pos (starEach [] X.env)).any (·.1) = false := by rfl) : EA X (.Call (.Name "int" p) [a] [] pos) ρ (int i) :=
  ea_ty1 call_int1 ha (fun u H Q h q => .inl ⟨i, by rw [show u = V.int i from h], q⟩) hm bo_int hg (hs := hs) (hpl := hpl)
theorem ea_lenScr {ns : List Int} {p : Pos} (ha : EW X a ρ (scr X.K ns)) (hm : X.mg "len" = none) (hg : Gl X "len" := by rfl) (hs : starEach [a] X.env = (false, eval a X.env) :: starEach [] X.env := by rfl) (hpl : (backTo pos (starEach [] X.env)).any (·.1) = false := by rfl) : EA X (.Call (.Name "len" p) [a] [] pos) ρ (int (ns.length : Int)) :=
  ea_bi1 call_len_seq ha (fun u H Q ⟨q, e, h⟩ k => ⟨q, _, by rw [e], .inl h, by rw [List.length_map]; exact k⟩) hm bo_len hg (hs := hs) (hpl := hpl)
theorem ea_lenL {p : Pos} (ha : EL X a ρ l) (hm : X.mg "len" = none) (hg : Gl X "len" := by rfl) (hs : starEach [a] X.env = (false, eval a X.env) :: starEach [] X.env := by rfl) (hpl : (backTo pos (starEach [] X.env)).any (·.1) = false := by rfl) : EA X (.Call (.Name "len" p) [a] [] pos) ρ (int (l.length : Int)) :=
  ea_len ha hg hm bo_len (hs := hs) (hpl := hpl)
theorem ea_lenTp {p : Pos} (ha : EA X a ρ (tupA l)) (hm : X.mg "len" = none) (hg : Gl X "len" := by rfl) (hs : starEach [a] X.env = (false, eval a X.env) :: starEach [] X.env := by rfl) (hpl : (backTo pos (starEach [] X.env)).any (·.1) = false := by rfl) : EA X (.Call (.Name "len" p) [a] [] pos) ρ (int (l.length : Int)) :=
  ea_lenT ha hg hm bo_len (hs := hs) (hpl := hpl)
theorem ea_lenS {s : Str} {p : Pos} (ha : EW X a ρ (str s)) (hz : s.length ≤ sizeLine) (hm : X.mg "len" = none) (hg : Gl X "len" := by rfl) (hs : starEach [a] X.env = (false, eval a X.env) :: starEach [] X.env := by rfl) (hpl : (backTo pos (starEach [] X.env)).any (·.1) = false := by rfl) : EA X (.Call (.Name "len" p) [a] [] pos) ρ (int (s.length : Int)) :=
  ea_bi1 call_len_str ha (fun u H Q h k => ⟨s, by rw [show u = V.str s from h], hz, k⟩) hm bo_len hg (hs := hs) (hpl := hpl)
theorem ea_ixScr {ns : List Int} {j : Nat} {z : Int} (ha : EW X a ρ (scr X.K ns)) (hb : EW X b ρ (int (j : Int))) (hj : ns[j]? = some z) (hs : PlainIx b := by exact fun _ _ => rfl) : EA X (.Subscript a b pos) ρ (int z) :=
  pe_imp (pe_ix ix_list ha hb hs) fun σ H Q ⟨H0, F, S, k⟩ => ⟨H0, F, S, fun x H1 F1 g1 ⟨p, e1, h1⟩ => ⟨H0, F1, S.gr g1, fun y H2 F2 g2 h3 => by
    have h3 : y = .int (j : Int) := h3
    subst h3
    subst e1
    exact ⟨p, _, (j : Int), V.int z, rfl, rfl, g2.h.sql h1, atI_nat (by rw [List.getElem?_map, hj]; rfl), k _ H2 F2 (g1.trans g2) rfl⟩⟩⟩
/-- list(xs), list(t) -/
theorem en_listL {p : Pos} (ha : EL X a ρ l) (hm : X.mg "list" = none) (hg : Gl X "list" := by rfl) (hs : starEach [a] X.env = (false, eval a X.env) :: starEach [] X.env := by rfl) (hpl : (backTo pos (starEach [] X.env)).any (·.1) = false := by rfl) : EN X (.Call (.Name "list" p) [a] [] pos) ρ l :=
  pe_imp (pe_callTy call_list_of hg hm bo_list (pa_cons ha pa_nil hs) (he := hs) (hpl := hpl)) fun σ H Q ⟨H0, F, S, k⟩ => ⟨H0, F, S, fun x xs H1 F1 g1 h1 h2 => ⟨x, xs, rfl, .inl (SqL.of h1), fun q hq =>
    k q xs _ F1 (g1.trans (.newH g1.i hq)) (g1.h.none hq) (g1.i.none hq) upd_same h2⟩⟩
theorem en_listT {p : Pos} (ha : EA X a ρ (tupA l)) (hm : X.mg "list" = none) (hg : Gl X "list" := by rfl) (hs : starEach [a] X.env = (false, eval a X.env) :: starEach [] X.env := by rfl) (hpl : (backTo pos (starEach [] X.env)).any (·.1) = false := by rfl) : EN X (.Call (.Name "list" p) [a] [] pos) ρ l :=
  pe_imp (pe_callTy call_list_of hg hm bo_list (pa_cons ha pa_nil hs) (he := hs) (hpl := hpl)) fun σ H Q ⟨H0, F, S, k⟩ => ⟨H0, F, S, fun v H1 F1 g1 ⟨x, xs, e1, h1, h2⟩ => ⟨x, xs, by rw [e1], .inr (SqT.of (g1.i x _ h1)), fun q hq =>
    k q xs _ F1 (g1.trans (.newH g1.i hq)) (g1.h.none hq) (g1.i.none hq) upd_same h2⟩⟩
/-- tuple(xs) -/
theorem ea_tupleL {p : Pos} (ha : EL X a ρ l) (hm : X.mg "tuple" = none) (hg : Gl X "tuple" := by rfl) (hs : starEach [a] X.env = (false, eval a X.env) :: starEach [] X.env := by rfl) (hpl : (backTo pos (starEach [] X.env)).any (·.1) = false := by rfl) : EA X (.Call (.Name "tuple" p) [a] [] pos) ρ (tupA l) :=
  pe_imp (pe_callTy call_tuple_of hg hm bo_tuple (pa_cons ha pa_nil hs) (he := hs) (hpl := hpl)) fun σ H Q ⟨H0, F, S, k⟩ => ⟨H0, F, S, fun x xs H1 F1 g1 h1 h2 => ⟨x, xs, rfl, .inl ⟨SqL.of h1, fun q hq =>
    k _ _ _ (g1.trans (.new g1.i hq)) ⟨q, xs, rfl, upd_same, h2.mono (Ex.new (g1.i.none hq))⟩⟩⟩⟩
/-- all([..]), any([..]) of bools -/
theorem ea_any {bs : List Bool} {p : Pos} (ha : EL X a ρ (bs.map bl)) (hc : X.calm = true) (hm : X.mg "any" = none) (hg : Gl X "any" := by rfl) (hs : starEach [a] X.env = (false, eval a X.env) :: starEach [] X.env := by rfl) (hpl : (backTo pos (starEach [] X.env)).any (·.1) = false := by rfl) : EA X (.Call (.Name "any" p) [a] [] pos) ρ (bl (bs.any id)) :=
  pe_imp (pe_callB (cr_any hc) hg hm bo_any (pa_cons ha pa_nil hs) (he := hs) (hpl := hpl)) fun σ H Q ⟨H0, F, S, k⟩ => ⟨H0, F, S, fun x xs H1 F1 g1 h1 h2 => by
    have e : xs = bs.map V.bl := AllV.scs (F := F1) (by rw [List.map_map]; exact h2)
    subst e
    exact ⟨x, bs, rfl, SqL.of h1, k _ H1 F1 g1 rfl⟩⟩
theorem ea_all {bs : List Bool} {p : Pos} (ha : EL X a ρ (bs.map bl)) (hc : X.calm = true) (hm : X.mg "all" = none) (hg : Gl X "all" := by rfl) (hs : starEach [a] X.env = (false, eval a X.env) :: starEach [] X.env := by rfl) (hpl : (backTo pos (starEach [] X.env)).any (·.1) = false := by rfl) : EA X (.Call (.Name "all" p) [a] [] pos) ρ (bl (bs.all id)) :=
  pe_imp (pe_callB (cr_all hc) hg hm bo_all (pa_cons ha pa_nil hs) (he := hs) (hpl := hpl)) fun σ H Q ⟨H0, F, S, k⟩ => ⟨H0, F, S, fun x xs H1 F1 g1 h1 h2 => by
    have e : xs = bs.map V.bl := AllV.scs (F := F1) (by rw [List.map_map]; exact h2)
    subst e
    exact ⟨x, bs, rfl, SqL.of h1, k _ H1 F1 g1 rfl⟩⟩
/-- slices: xs[:k], xs[k:] of lists, tuples -/
def tO (ρ : List En) (o : Option Int) : TO := fun σ H Q => ∃ H0 F, Sat H0 F σ H ρ ∧ ∀ H' F', Gr F H F' H' → Q o H'
abbrev EO (X : Cx) (e : Option Expr) (ρ : List En) (o : Option Int) : Prop := PO X e (tO ρ o)
theorem po_imp {o : Option Expr} {t t' : TO} (h : PO X o t) (i : ∀ σ H Q, t' σ H Q → t σ H Q) : PO X o t' := ⟨fun pins s σ H Q I q => h.run pins s σ H Q I (i σ H Q q)⟩
theorem eo_none : EO X none ρ none := po_imp po_none fun σ H Q ⟨H0, F, S, k⟩ => k H F (.refl S.ex)
theorem eo_some {i : Int} (h : EW X e ρ (int i)) : EO X (some e) ρ (some i) := po_imp (po_some h) fun σ H Q ⟨H0, F, S, k⟩ => ⟨H0, F, S, fun v H1 F1 g1 h1 => ⟨i, h1, k H1 F1 g1⟩⟩
def cutA (l : List As) (lo hi : Option Int) : List As := (l.drop (HT.sIx l.length 0 lo)).take (HT.sIx l.length l.length hi - HT.sIx l.length 0 lo)
theorem en_slL {lo hi : Option Expr} {i j : Option Int} {p2 : Pos} (ha : EL X a ρ l) (h1 : EO X lo ρ i) (h2 : EO X hi ρ j) : EN X (.Subscript a (.Slice lo hi none p2) pos) ρ (cutA l i j) :=
  pe_imp (pe_slice sl_list ha h1 h2) fun σ H Q ⟨H0, F, S, k⟩ => ⟨H0, F, S, fun x xs H1 F1 g1 q1 q2 => ⟨H0, F1, S.gr g1, fun H2 F2 g2 => ⟨H0, F2, (S.gr g1).gr g2, fun H3 F3 g3 => by
    have g := (g1.trans g2).trans g3
    refine ⟨x, xs, rfl, SqL.of (g3.h x _ (g2.h x _ q1)), fun p hp => k p _ _ F3 (g.trans (.newH g.i hp)) (g.h.none hp) (g.i.none hp) upd_same ?_⟩
    have q3 := q2.mono (g2.f.trans g3.f)
    unfold cutV cutA
    rw [q3.length]
    exact (q3.drop _).take _⟩⟩⟩
theorem ea_slT {lo hi : Option Expr} {i j : Option Int} {p2 : Pos} (ha : EA X a ρ (tupA l)) (h1 : EO X lo ρ i) (h2 : EO X hi ρ j) (hne : ¬ (HT.sIx l.length 0 i = 0 ∧ HT.sIx l.length l.length j = l.length)) : EA X (.Subscript a (.Slice lo hi none p2) pos) ρ (tupA (cutA l i j)) :=
  pe_imp (pe_slice sl_tup ha h1 h2) fun σ H Q ⟨H0, F, S, k⟩ => ⟨H0, F, S, fun v H1 F1 g1 ⟨x, xs, ev, q1, q2⟩ => ⟨H0, F1, S.gr g1, fun H2 F2 g2 => ⟨H0, F2, (S.gr g1).gr g2, fun H3 F3 g3 => by
    have g := (g1.trans g2).trans g3
    refine ⟨x, xs, ev, SqT.of (g3.h x _ (g2.h x _ (g1.i x _ q1))), by rw [q2.length]; exact hne, fun p hp => k _ _ _ (g.trans (.new g.i hp)) ⟨p, _, rfl, upd_same, ?_⟩⟩
    have q3 := (q2.mono (g2.f.trans g3.f)).mono (Ex.new (o := .tup (cutV xs i j)) (g.i.none hp))
    unfold cutV cutA at *
    rw [q3.length] at *
    exact (q3.drop _).take _⟩⟩⟩
/-- sep.join(xs) -/
theorem ea_join {s : Str} {zs : List Str} {apos cpos : Pos} {hb : PE X e (tBM X.K "str" (fun x xs H Q => ∃ a p, ∃ ys : List Str, x = .str a ∧ xs = [.ref p] ∧ (SqL X.K H p (ys.map V.str) ∨ SqT X.K H p (ys.map V.str)) ∧ (ys.map (·.length)).sum + ys.length * a.length ≤ 16777216 ∧ Q (.str (Txt.join a ys)) H) (tW ρ (str s)) (tCons (tL ρ (zs.map str)) tNil))}
    (hz : (zs.map (·.length)).sum + zs.length * s.length ≤ 16777216) : EA X e ρ (str (Txt.join s zs)) :=
  pe_imp hb fun σ H Q ⟨H0, F, S, k⟩ => ⟨H0, F, S, fun v H1 F1 g1 h1 => by
    have h1 : v = .str s := h1
    subst h1
    refine ⟨?_, H0, F1, S.gr g1, fun x xs H2 F2 g2 q1 q2 => ?_⟩
    · first | exact .inl ⟨_, rfl⟩ | exact .inr (.inl ⟨_, rfl⟩) | exact ⟨_, rfl⟩ | trivial | rfl
    · have e : xs = zs.map V.str := AllV.scs (F := F2) (by rw [List.map_map]; exact q2)
      subst e
      exact ⟨s, x, zs, rfl, rfl, .inl (SqL.of q1), hz, k _ H2 F2 (g1.trans g2) rfl⟩⟩
end
end Lk

set_option Elab.async false
set_option linter.all false
set_option maxRecDepth 100000
set_option maxHeartbeats 4000000
namespace Lk
open PySem PySem.Calls L2
section
variable {X : Cx} {e a b c : Expr} {es : List Expr} {ρ : List En} {A B C : As} {l m : List As} {pos : Pos}
theorem pe_app (i : Nat) {x : Str} {px apos cpos : Pos} (he : EA X e ρ A) (hN : X.N[i]? = some x := by rfl) (hv : Vis X.env.scope x := by first | exact Or.inl rfl | exact Or.inr (Or.inl rfl) | exact Or.inr (Or.inr rfl)) (hd : (x == ("__debug__" : Str)) = false := by decide) (hcd : (x == ("__classdict__" : Str)) = false := by decide)
    (hbase : attributeBase (.Name x px) "append" X.env (eval (.Name x px) X.env) = eval (.Name x px) X.env := by rfl)
    (hfew : ((backTo cpos (starEach [e] X.env)).all (fun x => !x.1) && (backToKw cpos (keywordEach [] X.env)).all (fun x => x.1.isSome) && decide ([e].length + ([] : List Keyword).length + (if ([] : List Keyword).isEmpty then 0 else 1) < 30)) = true := by rfl)
    (hline : (apos.endLine == cpos.line) = true := by rfl) (hs : starEach [e] X.env = (false, eval e X.env) :: starEach [] X.env := by rfl) (hplain : (backTo cpos (starEach [] X.env)).any (·.1) = false := by rfl) :
    PE X (.Call (.Attribute (.Name x px) "append" apos) [e] [] cpos) (tBM X.K "list" rAppend (tVar i) (tCons (tA ρ A) tNil)) :=
  pe_bm PySem.F.plainAttrs_list PySem.F.slot_list_append PySem.F.type_list_append mt_append (pe_var hN hv hd hcd) (pa_cons he pa_nil hs) hbase hfew hline hs hplain
/-- ''.join(xs) -/
theorem ea_joinL {s : Str} {zs : List Str} {apos : Pos} (ho : EW X a ρ (str s)) (he : EL X b ρ (zs.map str)) (hz : (zs.map (·.length)).sum + zs.length * s.length ≤ 16777216) (hs : starEach [b] X.env = [(false, eval b X.env)] := by rfl) (hbase : attributeBase a "join" X.env (eval a X.env) = eval a X.env := by rfl)
    (hline : (apos.endLine == pos.line) = true := by rfl) : EA X (.Call (.Attribute a "join" apos) [b] [] pos) ρ (str (Txt.join s zs)) :=
  pe_imp (pe_join ho he hs hbase hline) fun σ H Q ⟨H0, F, S, k⟩ => ⟨H0, F, S, fun v H1 F1 g1 h1 => by
    have h1 : v = .str s := h1
    subst h1
    refine ⟨⟨s, rfl⟩, H0, F1, S.gr g1, fun x xs H2 F2 g2 q1 q2 => ?_⟩
    have e : xs = zs.map V.str := AllV.scs (F := F2) (by rw [List.map_map]; exact q2)
    subst e
    exact ⟨s, x, zs, rfl, rfl, .inl (SqL.of q1), hz, k _ H2 F2 (g1.trans g2) rfl⟩⟩
theorem el_is (h : EL X e ρ l) (i : l = m) : EL X e ρ m := i ▸ h
theorem en_is (h : EN X e ρ l) (i : l = m) : EN X e ρ m := i ▸ h
theorem eas_is (h : EAs X es ρ l) (i : l = m) : EAs X es ρ m := i ▸ h
theorem ea_rng {z : Int} (lo hi : Int) (h : EA X e ρ (int z)) (b : lo ≤ z ∧ z < hi) : EA X e ρ (exA (fun m => lo ≤ m ∧ m < hi) int) := ea_imp h fun F v hv => ⟨z, b, hv⟩
end
/-- a call whose value is known beforehand -/
theorem ea_callB {X : Cx} {e : Expr} {es : List Expr} {ρ : List En} {pos : Pos} {k : Nat} {x : Str} {ps : List Str} {ι : Type} {pre : ι → Prop} {l : ι → List As} {A : ι → As} {B : As} {p : Pos} (D : Df X.prog X.w X.K X.mg X.base k x ps (spX pre l A)) (hr : Room k X.A) (i : ι) (hp : pre i) (hA : A i = B) (ha : EAs X (e :: es) ρ (l i)) (hg : Gl X x := by rfl)
    (hdb : (x == ("__debug__" : Str)) = false := by decide) (he : starEach (e :: es) X.env = (false, eval e X.env) :: starEach es X.env := by rfl) (hpl : (backTo pos (starEach es X.env)).any (·.1) = false := by rfl) : EA X (.Call (.Name x p) (e :: es) [] pos) ρ B :=
  hA ▸ ea_call D hr i hp ha hg hdb he hpl
theorem mD {P : Program} {w : World} {K : PySem.W.Frag} {mg : Str → Option Value} {base : Heap} {f : Addr} {fd : FuncData} {sp : Sp} {k : Nat} {x : Str} {ps : List Str} {qual : Str} {st : Stmt} (F : Fun K x qual st f fd) (hm : mg x = some (.ref f)) (hb : Binds K fd ps []) (G : FnOk P w K mg base CX0 k f fd ps sp) : Df P w K mg base k x ps sp := ⟨f, fd, G, hm, F.kp, hb⟩

theorem flt_true {α : Type} (l : List α) : l.filter (fun _ => true) = l := List.filter_eq_self.mpr fun _ _ => rfl
/-! ### texts by their signs -/
def S (l : List Nat) : Str := ⟨l.toArray⟩
theorem S_inj {l m : List Nat} (h : S l = S m) : l = m := by
  have e : l.toArray = m.toArray := congrArg Str.cps h
  simpa using e
theorem S_len (l : List Nat) : (S l).length = l.length := by
  show l.toArray.size = l.length
  simp
theorem S_app (l m : List Nat) : S l ++ S m = S (l ++ m) := by
  show Str.mk (l.toArray ++ m.toArray) = Str.mk (l ++ m).toArray
  simp
theorem S_of (s : Str) : S s.cps.toList = s := by
  cases s
  simp [S]
def ascii (c : Nat) : Bool := c < 128
def alnum (c : Nat) : Bool := (48 ≤ c && c ≤ 57) || (65 ≤ c && c ≤ 90) || (97 ≤ c && c ≤ 122)
/-- a note -/
def Note (s : Str) : Prop := ∃ l : List Nat, s = S l ∧ 1 ≤ l.length ∧ l.length ≤ 8 ∧ ∀ c ∈ l, alnum c = true
end Lk

set_option Elab.async false
set_option linter.all false
set_option maxRecDepth 100000
set_option maxHeartbeats 4000000
namespace Lk
open PySem PySem.Calls L2
section
variable {X : Cx} {e a b c : Expr} {es : List Expr} {ρ : List En} {A B C : As} {l m : List As} {pos p1 : Pos} {Nx : List En → Prop} {W : Wn}
theorem map_at {α : Type} {f : α → As} {l : List α} {i : Nat} {d : α} (h : i < l.length) : (l.map f)[i]? = some (f (l.getD i d)) := by
  rw [List.getElem?_map, List.getD_eq_getElem?_getD, List.getElem?_eq_getElem h]
  rfl
/-- [1, 2, ..][i] -/
theorem ea_tbl {tb : List Int} {i : Int} (h : EAs X es ρ (tb.map int)) (hb : EW X b ρ (int i)) (h0 : 0 ≤ i) (h1 : i < (tb.length : Int)) (hz : tb.length ≤ sizeLine) (hs : PlainIx b := by exact fun _ _ => rfl) : EA X (.Subscript (.List es p1) b pos) ρ (int (tb.getD i.toNat 0)) :=
  ea_ixL (en_l (en_lst h (by rw [List.length_map]; exact hz))) hb (Int.toNat_of_nonneg h0).symm (map_at (by omega)) hs
/-- a number that lies from 0 to n -/
abbrev natA (n : Nat) : As := exA (fun m : Nat => m ≤ n) (fun m => int (m : Int))
theorem ea_nat {z : Int} (n : Nat) (h : EA X e ρ (int z)) (h0 : 0 ≤ z) (h1 : z ≤ (n : Int)) : EA X e ρ (natA n) := ea_imp h fun F v hv => ⟨z.toNat, by omega, by
  show (int ((z.toNat : Nat) : Int)).p F v
  rw [Int.toNat_of_nonneg h0]
  exact hv⟩
theorem tb_mem {tb : List Int} {i : Nat} (h : i < tb.length) : tb.getD i 0 ∈ tb := by
  rw [List.getD_eq_getElem?_getD, List.getElem?_eq_getElem h]
  exact List.getElem_mem h
theorem cutA_take {n : Nat} : cutA l none (some (n : Int)) = l.take n := by
  unfold cutA
  rw [HT.sIx_none, show HT.sIx l.length l.length (some (n : Int)) = min n l.length from HT.sIx_nat l.length l.length n]
  simp
theorem cutA_drop {n : Nat} : cutA l (some (n : Int)) none = l.drop n := by
  unfold cutA
  rw [HT.sIx_none, show HT.sIx l.length 0 (some (n : Int)) = min n l.length from HT.sIx_nat l.length 0 n]
  by_cases h : n ≤ l.length
  · rw [Nat.min_eq_left h, List.take_of_length_le (by rw [List.length_drop]; exact Nat.le_refl _)]
  · rw [Nat.min_eq_right (by omega), List.drop_of_length_le (Nat.le_refl _), List.drop_of_length_le (by omega)]
    simp
/-- xs.pop(i) as a statement -/
theorem sa_popAt (i : Nat) {x : Str} {px apos cpos : Pos} {z : Int} {j : Nat} (hr : ρ[i]? = some (En.own l)) (he : EW X e ρ (int z)) (hz : z = (j : Int)) (hj : j < l.length) (hl : l.length ≤ 1000000) (k : Nx (ρ.set i (.own (l.eraseIdx j)))) (hN : X.N[i]? = some x := by rfl) (hv : Vis X.env.scope x := by first | exact Or.inl rfl | exact Or.inr (Or.inl rfl) | exact Or.inr (Or.inr rfl)) (hd : (x == ("__debug__" : Str)) = false := by decide) (hcd : (x == ("__classdict__" : Str)) = false := by decide)
    (hbase : attributeBase (.Name x px) "pop" X.env (eval (.Name x px) X.env) = eval (.Name x px) X.env := by rfl)
    (hfew : ((backTo cpos (starEach [e] X.env)).all (fun x => !x.1) && (backToKw cpos (keywordEach [] X.env)).all (fun x => x.1.isSome) && decide ([e].length + ([] : List Keyword).length + (if ([] : List Keyword).isEmpty then 0 else 1) < 30)) = true := by rfl)
    (hline : (apos.endLine == cpos.line) = true := by rfl) (hs : starEach [e] X.env = (false, eval e X.env) :: starEach [] X.env := by rfl) (hplain : (backTo cpos (starEach [] X.env)).any (·.1) = false := by rfl)
    (hsw : swapsWith (.Call (.Attribute (.Name x px) "pop" apos) [e] [] cpos) none pos.line X.env = pure false := by rfl) :
    SA X (.Expr (.Call (.Attribute (.Name x px) "pop" apos) [e] [] cpos) pos) ρ Nx W := by
  refine ps_imp (ps_expr (pe_bm PySem.F.plainAttrs_list PySem.F.slot_list_pop PySem.F.type_list_pop mt_popAt (pe_var hN hv hd hcd) (pa_cons he pa_nil hs) hbase hfew hline hs hplain) hsw) fun D σ H ⟨F0, H0, F, g, S, q, _⟩ => ?_
  obtain ⟨p, xs, h1, h2, h3, h4, h5⟩ := S.own i l hr
  refine ⟨_, h1, .inl ⟨rfl, _, SqL.of h4⟩, H0, F, S, fun v H' F' g' hv' => ?_⟩
  have hv' : v = .int z := hv'
  subst hv'
  have hlen := h5.length
  have hjx : j < xs.length := by omega
  refine ⟨p, xs, z, j, xs[j], rfl, rfl, g'.h p _ h4, by omega, by omega, ?_, List.getElem?_eq_getElem hjx, ?_⟩
  · rw [hz]
    unfold seqIndex?
    simp
    omega
  · obtain ⟨g3, S3⟩ := sat_wr (g.trans g') (S.gr g') hr h1 ((h5.mono g'.f).eraseIdx j)
    exact q _ σ _ F' k g3 S3
/-- out.append(left.pop(e)) -/
theorem sa_appPop (i i' : Nat) {x y : Str} {px py apos cpos apos2 cpos2 : Pos} {z : Int} {j : Nat} (hne : i ≠ i') (hr : ρ[i]? = some (En.own l)) (hr' : ρ[i']? = some (En.own m)) (he : EW X e ρ (int z)) (hz : z = (j : Int)) (hj : m[j]? = some A) (hl : m.length ≤ 1000000) (hl2 : l.length < sizeLine) (k : Nx ((ρ.set i' (.own (m.eraseIdx j))).set i (.own (l ++ [A])))) (hN : X.N[i]? = some x := by rfl) (hv : Vis X.env.scope x := by first | exact Or.inl rfl | exact Or.inr (Or.inl rfl) | exact Or.inr (Or.inr rfl)) (hd : (x == ("__debug__" : Str)) = false := by decide) (hcd : (x == ("__classdict__" : Str)) = false := by decide)
    (hN2 : X.N[i']? = some y := by rfl) (hv2 : Vis X.env.scope y := by first | exact Or.inl rfl | exact Or.inr (Or.inl rfl) | exact Or.inr (Or.inr rfl)) (hd2 : (y == ("__debug__" : Str)) = false := by decide) (hcd2 : (y == ("__classdict__" : Str)) = false := by decide)
    (hbase : attributeBase (.Name y py) "pop" X.env (eval (.Name y py) X.env) = eval (.Name y py) X.env := by rfl)
    (hfew : ((backTo cpos2 (starEach [e] X.env)).all (fun x => !x.1) && (backToKw cpos2 (keywordEach [] X.env)).all (fun x => x.1.isSome) && decide ([e].length + ([] : List Keyword).length + (if ([] : List Keyword).isEmpty then 0 else 1) < 30)) = true := by rfl)
    (hline : (apos2.endLine == cpos2.line) = true := by rfl) (hs : starEach [e] X.env = (false, eval e X.env) :: starEach [] X.env := by rfl) (hplain : (backTo cpos2 (starEach [] X.env)).any (·.1) = false := by rfl)
    (hbase1 : attributeBase (.Name x px) "append" X.env (eval (.Name x px) X.env) = eval (.Name x px) X.env := by rfl)
    (hfew1 : ((backTo cpos (starEach [.Call (.Attribute (.Name y py) "pop" apos2) [e] [] cpos2] X.env)).all (fun x => !x.1) && (backToKw cpos (keywordEach [] X.env)).all (fun x => x.1.isSome) && decide ([Expr.Call (.Attribute (.Name y py) "pop" apos2) [e] [] cpos2].length + ([] : List Keyword).length + (if ([] : List Keyword).isEmpty then 0 else 1) < 30)) = true := by rfl)
    (hline1 : (apos.endLine == cpos.line) = true := by rfl) (hs1 : starEach [.Call (.Attribute (.Name y py) "pop" apos2) [e] [] cpos2] X.env = (false, eval (.Call (.Attribute (.Name y py) "pop" apos2) [e] [] cpos2) X.env) :: starEach [] X.env := by rfl) (hplain1 : (backTo cpos (starEach [] X.env)).any (·.1) = false := by rfl)
    (hsw : swapsWith (.Call (.Attribute (.Name x px) "append" apos) [.Call (.Attribute (.Name y py) "pop" apos2) [e] [] cpos2] [] cpos) none pos.line X.env = pure false := by rfl) :
    SA X (.Expr (.Call (.Attribute (.Name x px) "append" apos) [.Call (.Attribute (.Name y py) "pop" apos2) [e] [] cpos2] [] cpos) pos) ρ Nx W := by
  refine ps_imp (ps_expr (pe_bm PySem.F.plainAttrs_list PySem.F.slot_list_append PySem.F.type_list_append mt_append (pe_var (i := i) hN hv hd hcd)
    (pa_cons (pe_bm PySem.F.plainAttrs_list PySem.F.slot_list_pop PySem.F.type_list_pop mt_popAt (pe_var (i := i') hN2 hv2 hd2 hcd2) (pa_cons he pa_nil hs) hbase hfew hline hs hplain) pa_nil hs1) hbase1 hfew1 hline1 hs1 hplain1) hsw) fun D σ H ⟨F0, H0, F, g, S, q, _⟩ => ?_
  obtain ⟨p, xs, h1, h2, h3, h4, h5⟩ := S.own i l hr
  obtain ⟨p', ys, h1', h2', h3', h4', h5'⟩ := S.own i' m hr'
  refine ⟨_, h1, .inl ⟨rfl, _, SqL.of h4⟩, _, h1', .inl ⟨rfl, _, SqL.of h4'⟩, H0, F, S, fun v H' F' g' hv' => ?_⟩
  have hv' : v = .int z := hv'
  subst hv'
  obtain ⟨u, hu, hA⟩ := h5'.get hj
  have hjm : j < m.length := (List.getElem?_eq_some_iff.mp hj).1
  have hlen := h5'.length
  refine ⟨p', ys, z, j, u, rfl, rfl, g'.h p' _ h4', by omega, by omega, ?_, hu, ?_⟩
  · rw [hz]
    unfold seqIndex?
    simp
    omega
  · obtain ⟨g3, S3⟩ := sat_wr (g.trans g') (S.gr g') hr' h1' ((h5'.mono g'.f).eraseIdx j)
    have np : p ≠ p' := fun z' => hne (S.sep i i' _ _ p hr hr' True.intro True.intro h1 (by rw [z']; exact h1'))
    have hr2 : (ρ.set i' (.own (m.eraseIdx j)))[i]? = some (En.own l) := by rw [List.getElem?_set_ne (Ne.symm hne)]; exact hr
    refine ⟨p, xs, u, rfl, rfl, by rw [upd_ne np]; exact g'.h p _ h4, by rw [h5.length]; exact hl2, ?_⟩
    obtain ⟨g4, S4⟩ := sat_wr g3 S3 hr2 h1 ((h5.mono g'.f).snoc (A.mono g'.f hA))
    exact q _ σ _ F' k g4 S4
end
end Lk

set_option Elab.async false
set_option linter.all false
set_option maxRecDepth 100000
set_option maxHeartbeats 4000000
namespace Lk
open PySem PySem.Calls L2
/-! ### data, for == and in -/
def Dat (K : PySem.W.Frag) (A : As) (d : PyData) : Prop := ∀ H v, A.p H v → Dp K H v d
theorem dat_non {K} : Dat K non .none := fun H v h => by
  have h : v = .non := h
  subst h
  exact .non
theorem dat_int {K} (i : Int) : Dat K (int i) (.int i) := fun H v h => by
  have h : v = .int i := h
  subst h
  exact .int i
theorem dat_str {K} (s : Str) : Dat K (str s) (.str s) := fun H v h => by
  have h : v = .str s := h
  subst h
  exact .str s
theorem dat_bl {K} (b : Bool) : Dat K (bl b) (.bool b) := fun H v h => by
  have h : v = .bl b := h
  subst h
  exact .bl b
theorem dpAll {K : PySem.W.Frag} {H : Hp} {α : Type} {f : α → As} {g : α → PyData} (hf : ∀ a, Dat K (f a) (g a)) : ∀ {xs : List V} {l : List α}, AllV H xs (l.map f) → DpAll K H xs (l.map g)
  | [], [], _ => .nil
  | _ :: _, a :: l, h => .cons (hf a _ _ h.1) (dpAll hf h.2)
  | [], _ :: _, h => h.elim
  | _ :: _, [], h => h.elim
theorem dat_lst {K : PySem.W.Frag} {α : Type} {f : α → As} {g : α → PyData} (hf : ∀ a, Dat K (f a) (g a)) (l : List α) : Dat K (lstA (l.map f)) (.list (l.map g)) := fun H v ⟨a, xs, e, h1, h2⟩ => by
  subst e
  exact .lst (SqL.of h1) (dpAll hf h2)
theorem dat_tup {K : PySem.W.Frag} {α : Type} {f : α → As} {g : α → PyData} (hf : ∀ a, Dat K (f a) (g a)) (l : List α) : Dat K (tupA (l.map f)) (.tuple (l.map g)) := fun H v ⟨a, xs, e, h1, h2⟩ => by
  subst e
  exact .tup (SqT.of h1) (dpAll hf h2)
theorem eqvAll_map {α : Type} [DecidableEq α] {g : α → PyData} (he : ∀ x y, PyData.eqv (g x) (g y) = decide (x = y)) : ∀ l m : List α, PyData.eqvAll (l.map g) (m.map g) = decide (l = m)
  | [], [] => by simp [PyData.eqvAll]
  | [], _ :: _ => by simp [PyData.eqvAll]
  | _ :: _, [] => by simp [PyData.eqvAll]
  | a :: l, b :: m => by
    rw [List.map_cons, List.map_cons, PyData.eqvAll, he, eqvAll_map he l m, Bool.eq_iff_iff]
    simp
theorem canAll_map {α : Type} {g : α → PyData} : ∀ l : List α, (∀ a ∈ l, (g a).canLay0 = true) → PyData.canLayAll0 (l.map g) = true
  | [], _ => by simp [PyData.canLayAll0]
  | a :: l, h => by
    have e := canAll_map l fun b hb => h b (List.mem_cons_of_mem _ hb)
    have e1 := h a List.mem_cons_self
    rw [List.map_cons]
    simp only [PyData.canLayAll0, Bool.and_eq_true]
    exact ⟨e1, e⟩
theorem depthAll_map {α : Type} {g : α → PyData} {n : Nat} : ∀ l : List α, (∀ a, (g a).depth ≤ n) → PyData.depthAll (l.map g) ≤ n
  | [], _ => by simp [PyData.depthAll]
  | a :: l, h => by
    have e := depthAll_map l h
    have e2 := h a
    rw [List.map_cons]
    simp only [PyData.depthAll]
    omega
/-- f's values are data that == tells apart -/
structure Enc (K : PySem.W.Frag) {α : Type} [DecidableEq α] (n : Nat) (f : α → As) (ok : α → Prop) : Prop where
  ex : ∃ g : α → PyData, (∀ a, Dat K (f a) (g a)) ∧ (∀ x y, PyData.eqv (g x) (g y) = decide (x = y)) ∧ (∀ a, (g a).depth ≤ n) ∧ ∀ a, ok a → (g a).canLay0 = true
def okS (s : Str) : Prop := PyData.strOk s = true
def okL {α : Type} (ok : α → Prop) (l : List α) : Prop := ∀ a ∈ l, ok a
theorem enc_str {K} : Enc K 0 str okS := ⟨fun s => .str s, dat_str, fun x y => by simp [PyData.eqv, Bool.beq_eq_decide_eq], fun a => by simp [PyData.depth], fun a h => by simp only [PyData.canLay0]; exact h⟩
theorem enc_int {K} : Enc K 0 int (fun _ => True) := ⟨fun s => .int s, dat_int, fun x y => by simp [PyData.eqv, Bool.beq_eq_decide_eq], fun a => by simp [PyData.depth], fun a _ => by simp [PyData.canLay0]⟩
theorem enc_bl {K} : Enc K 0 bl (fun _ => True) := ⟨fun s => .bool s, dat_bl, fun x y => by simp [PyData.eqv, Bool.beq_eq_decide_eq], fun a => by simp [PyData.depth], fun a _ => by simp [PyData.canLay0]⟩
theorem enc_lst {K : PySem.W.Frag} {α : Type} [DecidableEq α] {n : Nat} {f : α → As} {ok : α → Prop} (h : Enc K n f ok) : Enc K (n + 1) (fun l : List α => lstA (l.map f)) (okL ok) := by
  obtain ⟨g, h1, h2, h3, h4⟩ := h.ex
  refine ⟨fun l => .list (l.map g), fun l => dat_lst h1 l, fun l m => by rw [PyData.eqv]; exact eqvAll_map h2 l m, fun l => ?_, fun l hl => ?_⟩
  · have q := depthAll_map (n := n) l fun a => h3 a
    simp only [PyData.depth]
    omega
  · simp only [PyData.canLay0]
    exact canAll_map l fun a ha => h4 a (hl a ha)
theorem enc_tup {K : PySem.W.Frag} {α : Type} [DecidableEq α] {n : Nat} {f : α → As} {ok : α → Prop} (h : Enc K n f ok) : Enc K (n + 1) (fun l : List α => tupA (l.map f)) (okL ok) := by
  obtain ⟨g, h1, h2, h3, h4⟩ := h.ex
  refine ⟨fun l => .tuple (l.map g), fun l => dat_tup h1 l, fun l m => by rw [PyData.eqv]; exact eqvAll_map h2 l m, fun l => ?_, fun l hl => ?_⟩
  · have q := depthAll_map (n := n) l fun a => h3 a
    simp only [PyData.depth]
    omega
  · simp only [PyData.canLay0]
    exact canAll_map l fun a ha => h4 a (hl a ha)
/-- through an injective reading -/
theorem enc_of {K : PySem.W.Frag} {α β : Type} [DecidableEq α] [DecidableEq β] {n : Nat} {f : α → As} {ok : α → Prop} (h : Enc K n f ok) (r : β → α) (inj : ∀ x y, r x = r y → x = y) : Enc K n (fun b => f (r b)) (fun b => ok (r b)) := by
  obtain ⟨g, h1, h2, h3, h4⟩ := h.ex
  refine ⟨fun b => g (r b), fun b => h1 (r b), fun x y => ?_, fun b => h3 (r b), fun b hb => h4 (r b) hb⟩
  show PyData.eqv (g (r x)) (g (r y)) = decide (x = y)
  rw [h2, Bool.eq_iff_iff]
  simp only [decide_eq_true_eq]
  exact ⟨inj x y, fun e => by rw [e]⟩
theorem shaped_of {d : PyData} (h1 : d.canLay0 = true) (h2 : d.depth ≤ 64) : SeqAt.shaped d = true := by
  show (d.canLay0 && decide (d.depth ≤ 64)) = true
  rw [Bool.and_eq_true]
  exact ⟨h1, decide_eq_true h2⟩
section
variable {X : Cx} {α : Type} [DecidableEq α] {n k : Nat} {f : α → As} {ok : α → Prop}
theorem dec_irr {p : Prop} (i j : Decidable p) : @decide p i = @decide p j := by rw [Subsingleton.elim i j]
theorem cm_eqD {a b : α} {i : Decidable (a = b)} (hr : Room k X.A) (h : Enc X.K n f ok) (ha : ok a) (hb : ok b) (hn : n ≤ 60 := by decide) : Cm X .Eq (f a) (f b) (decide (a = b)) := by
  obtain ⟨g, h1, h2, h3, h4⟩ := h.ex
  refine ⟨_, op_eqD (by have := hr.un; omega), fun x y H Q p q z => ⟨g a, g b, h1 a H x p, h1 b H y q, shaped_of (h4 a ha) (by have := h3 a; omega), shaped_of (h4 b hb) (by have := h3 b; omega), ?_⟩⟩
  rw [h2, dec_irr _ i]
  exact z
theorem cm_neD {a b : α} {i : Decidable (a = b)} (hr : Room k X.A) (h : Enc X.K n f ok) (ha : ok a) (hb : ok b) (hn : n ≤ 60 := by decide) : Cm X .NotEq (f a) (f b) (!decide (a = b)) := by
  obtain ⟨g, h1, h2, h3, h4⟩ := h.ex
  refine ⟨_, op_neD (by have := hr.un; omega), fun x y H Q p q z => ⟨g a, g b, h1 a H x p, h1 b H y q, shaped_of (h4 a ha) (by have := h3 a; omega), shaped_of (h4 b hb) (by have := h3 b; omega), ?_⟩⟩
  rw [h2, dec_irr _ i]
  exact z
theorem any_eqv {g : α → PyData} (h2 : ∀ x y, PyData.eqv (g x) (g y) = decide (x = y)) (a : α) (l : List α) : ((l.map g).any fun z => PyData.eqv z (g a)) = decide (a ∈ l) := by
  rw [Bool.eq_iff_iff, List.any_eq_true]
  simp only [decide_eq_true_eq, List.mem_map]
  constructor
  · rintro ⟨z, ⟨b, hb, rfl⟩, hz⟩
    rw [h2] at hz
    have e : b = a := of_decide_eq_true hz
    rw [← e]
    exact hb
  · intro h
    exact ⟨g a, ⟨a, h, rfl⟩, by rw [h2]; exact decide_eq_true rfl⟩
theorem cm_inD {a : α} {l : List α} {i : Decidable (a ∈ l)} (hr : Room k X.A) (h : Enc X.K n f ok) (ha : ok a) (hl : okL ok l) (hn : n ≤ 60 := by decide) : Cm X .In (f a) (lstA (l.map f)) (decide (a ∈ l)) := by
  obtain ⟨g, h1, h2, h3, h4⟩ := h.ex
  refine ⟨_, op_inD (by have := hr.un; omega), fun x y H Q p q z => ⟨g a, l.map g, h1 a H x p, dat_lst h1 l H y q, shaped_of (h4 a ha) (by have := h3 a; omega), ?_, ?_⟩⟩
  · refine shaped_of (by simp only [PyData.canLay0]; exact canAll_map l fun a ha => h4 a (hl a ha)) ?_
    have q := depthAll_map (n := n) l fun a => h3 a
    simp only [PyData.depth]
    omega
  · rw [any_eqv h2, dec_irr _ i]
    exact z
theorem cm_notinD {a : α} {l : List α} {i : Decidable (a ∈ l)} (hr : Room k X.A) (h : Enc X.K n f ok) (ha : ok a) (hl : okL ok l) (hn : n ≤ 60 := by decide) : Cm X .NotIn (f a) (lstA (l.map f)) (!decide (a ∈ l)) := by
  obtain ⟨g, h1, h2, h3, h4⟩ := h.ex
  refine ⟨_, op_notInD (by have := hr.un; omega), fun x y H Q p q z => ⟨g a, l.map g, h1 a H x p, dat_lst h1 l H y q, shaped_of (h4 a ha) (by have := h3 a; omega), ?_, ?_⟩⟩
  · refine shaped_of (by simp only [PyData.canLay0]; exact canAll_map l fun a ha => h4 a (hl a ha)) ?_
    have q := depthAll_map (n := n) l fun a => h3 a
    simp only [PyData.depth]
    omega
  · rw [any_eqv h2, dec_irr _ i]
    exact z
theorem cm_eq {a b : α} (hr : Room k X.A) (h : Enc X.K n f ok) (ha : ok a) (hb : ok b) (hn : n ≤ 60 := by decide) : Cm X .Eq (f a) (f b) (decide (a = b)) := cm_eqD hr h ha hb hn
theorem cm_ne {a b : α} (hr : Room k X.A) (h : Enc X.K n f ok) (ha : ok a) (hb : ok b) (hn : n ≤ 60 := by decide) : Cm X .NotEq (f a) (f b) (!decide (a = b)) := cm_neD hr h ha hb hn
theorem cm_in {a : α} {l : List α} (hr : Room k X.A) (h : Enc X.K n f ok) (ha : ok a) (hl : okL ok l) (hn : n ≤ 60 := by decide) : Cm X .In (f a) (lstA (l.map f)) (decide (a ∈ l)) := cm_inD hr h ha hl hn
theorem cm_notin {a : α} {l : List α} (hr : Room k X.A) (h : Enc X.K n f ok) (ha : ok a) (hl : okL ok l) (hn : n ≤ 60 := by decide) : Cm X .NotIn (f a) (lstA (l.map f)) (!decide (a ∈ l)) := cm_notinD hr h ha hl hn
end
theorem pigeon {α : Type} [DecidableEq α] : ∀ {l m : List α}, l.Nodup → (∀ a ∈ l, a ∈ m) → l.length ≤ m.length
  | [], m, _, _ => Nat.zero_le _
  | a :: l, m, h, s => by
    obtain ⟨h1, h2⟩ := List.nodup_cons.mp h
    have ha := s a List.mem_cons_self
    have k := pigeon (l := l) (m := m.erase a) h2 fun b hb => (List.mem_erase_of_ne (fun e => h1 (by rw [← e]; exact hb))).mpr (s b (List.mem_cons_of_mem _ hb))
    rw [List.length_erase_of_mem ha] at k
    have := List.length_pos_of_mem ha
    rw [List.length_cons]
    omega
end Lk

set_option Elab.async false
set_option linter.all false
set_option maxRecDepth 100000
set_option maxHeartbeats 4000000
namespace Lk
open PySem PySem.Calls L2
/-! ### objects, dicts -/
def insA (C : Addr) (fs : List (Str × As)) : As := ⟨fun F v => ∃ a dx vs, v = .ref a ∧ F a = some (.ins C dx ((fs.map Prod.fst).zip vs)) ∧ AllV F vs (fs.map Prod.snd), fun e ⟨a, dx, vs, h1, h2, h3⟩ => ⟨a, dx, vs, h1, e a _ h2, h3.mono e⟩⟩
def dkA (l : List (Str × As)) : As := ⟨fun F v => ∃ a vs, v = .ref a ∧ F a = some (.dK ((l.map fun x => (Sum.inr x.1 : Key)).zip vs)) ∧ AllV F vs (l.map Prod.snd), fun e ⟨a, vs, h1, h2, h3⟩ => ⟨a, vs, h1, e a _ h2, h3.mono e⟩⟩
def kT (k : List Str) : List Key := k.map Sum.inr
def dtA (l : List (List Str × As)) : As := ⟨fun F v => ∃ a vs, v = .ref a ∧ F a = some (.dT ((l.map fun x => kT x.1).zip vs)) ∧ AllV F vs (l.map Prod.snd), fun e ⟨a, vs, h1, h2, h3⟩ => ⟨a, vs, h1, e a _ h2, h3.mono e⟩⟩
theorem kT_inj {a b : List Str} (h : kT a = kT b) : a = b := by
  unfold kT at h
  exact (List.map_inj_right (fun x y e => by simpa using e)).mp h
theorem kT_kV (k : List Str) : (kT k).map kV = k.map V.str := by
  unfold kT
  rw [List.map_map]
  rfl
/-- a field's place -/
theorem zip_lookup {F : Hp} {f : Str} {A : As} : ∀ {fs : List (Str × As)} {vs : List V}, AllV F vs (fs.map Prod.snd) → fs.lookup f = some A → ∃ v, ((fs.map Prod.fst).zip vs).lookup f = some v ∧ A.p F v
  | [], _, _, h => by simp at h
  | (g, B) :: fs, v :: vs, h, e => by
    rw [List.map_cons, List.zip_cons_cons]
    by_cases hf : f = g
    · subst hf
      have e : B = A := by simpa [List.lookup] using e
      subst e
      exact ⟨v, by simp [List.lookup], h.1⟩
    · have hb : (f == g) = false := by simpa using hf
      rw [List.lookup, hb] at e
      obtain ⟨u, h1, h2⟩ := zip_lookup (fs := fs) (vs := vs) h.2 e
      exact ⟨u, by rw [List.lookup, hb]; exact h1, h2⟩
  | _ :: _, [], h, _ => h.elim
theorem zip_nolook {F : Hp} {f : Str} : ∀ {fs : List (Str × As)} {vs : List V}, AllV F vs (fs.map Prod.snd) → fs.lookup f = none → ((fs.map Prod.fst).zip vs).lookup f = none
  | [], _, _, _ => by simp
  | (g, B) :: fs, v :: vs, h, e => by
    rw [List.map_cons, List.zip_cons_cons]
    by_cases hf : f = g
    · subst hf
      simp [List.lookup] at e
    · have hb : (f == g) = false := by simpa using hf
      rw [List.lookup, hb] at e
      rw [List.lookup, hb]
      exact zip_nolook (fs := fs) (vs := vs) h.2 e
  | _ :: _, [], h, _ => h.elim
/-- a key's place: κ the keys of the model, r how they are laid -/
theorem valV_zip {κ μ : Type} [DecidableEq κ] [BEq μ] [LawfulBEq μ] {r : μ → κ} (inj : ∀ x y, r x = r y → x = y) {F : Hp} {k : μ} {A : As} : ∀ {l : List (μ × As)} {vs : List V}, AllV F vs (l.map Prod.snd) → l.lookup k = some A → ∃ v, valV ((l.map fun x => r x.1).zip vs) (r k) = some v ∧ A.p F v
  | [], _, _, h => by simp at h
  | (g, B) :: l, v :: vs, h, e => by
    rw [List.map_cons, List.zip_cons_cons]
    by_cases hf : k = g
    · subst hf
      have e : B = A := by simpa [List.lookup] using e
      subst e
      exact ⟨v, valV_pos rfl, h.1⟩
    · have hb : (k == g) = false := by simpa using hf
      rw [List.lookup, hb] at e
      obtain ⟨u, h1, h2⟩ := valV_zip inj (l := l) (vs := vs) h.2 e
      exact ⟨u, by rw [valV_neg fun z => hf (inj _ _ z).symm]; exact h1, h2⟩
  | _ :: _, [], h, _ => h.elim
theorem valV_nozip {κ μ : Type} [DecidableEq κ] [BEq μ] [LawfulBEq μ] {r : μ → κ} (inj : ∀ x y, r x = r y → x = y) {F : Hp} {k : μ} : ∀ {l : List (μ × As)} {vs : List V}, AllV F vs (l.map Prod.snd) → l.lookup k = none → valV ((l.map fun x => r x.1).zip vs) (r k) = none
  | [], _, _, _ => by simp [valV]
  | (g, B) :: l, v :: vs, h, e => by
    rw [List.map_cons, List.zip_cons_cons]
    by_cases hf : k = g
    · subst hf
      simp [List.lookup] at e
    · have hb : (k == g) = false := by simpa using hf
      rw [List.lookup, hb] at e
      rw [valV_neg fun z => hf (inj _ _ z).symm]
      exact valV_nozip inj (l := l) (vs := vs) h.2 e
  | _ :: _, [], h, _ => h.elim
theorem inr_inj (x y : Str) (h : (Sum.inr x : Key) = Sum.inr y) : x = y := by simpa using h
theorem dget_k {H : Hp} {F : Hp} {a : Addr} {l : List (Str × As)} {vs : List V} (k : Str) (e : Ex F H) (h : F a = some (.dK ((l.map fun x => (Sum.inr x.1 : Key)).zip vs))) : DGet H a (.str k) (valV ((l.map fun x => (Sum.inr x.1 : Key)).zip vs) (Sum.inr k)) := DGet.k (k := Sum.inr k) (e a _ h)
theorem dget_t {H : Hp} {F : Hp} {a b : Addr} {l : List (List Str × As)} {vs : List V} {k : List Str} (e : Ex F H) (h : F a = some (.dT ((l.map fun x => kT x.1).zip vs))) (hb : H b = some (.tup (k.map V.str))) : DGet H a (.ref b) (valV ((l.map fun x => kT x.1).zip vs) (kT k)) := DGet.t (e a _ h) (by rw [kT_kV]; exact hb)
theorem strs_at {F : Hp} {k : List Str} {v : V} (h : (tupA (k.map str)).p F v) : ∃ b, v = .ref b ∧ F b = some (.tup (k.map V.str)) := by
  obtain ⟨b, xs, e, h1, h2⟩ := h
  have e2 : xs = k.map V.str := AllV.scs (F := F) (by rw [List.map_map]; exact h2)
  exact ⟨b, e, by rw [h1, e2]⟩
theorem strs_of {F : Hp} {k : List Str} {b : Addr} (h : F b = some (.tup (k.map V.str))) : (tupA (k.map str)).p F (.ref b) := ⟨b, _, rfl, h, by
  have q := AllV.of_scs (F := F) (cs := k.map V.str)
  rw [List.map_map] at q
  exact q⟩
theorem lsts_at {F : Hp} {k : List Str} {v : V} (h : (lstA (k.map str)).p F v) : ∃ b, v = .ref b ∧ F b = some (.lst (k.map V.str)) := by
  obtain ⟨b, xs, e, h1, h2⟩ := h
  have e2 : xs = k.map V.str := AllV.scs (F := F) (by rw [List.map_map]; exact h2)
  exact ⟨b, e, by rw [h1, e2]⟩
theorem lsts_of {F : Hp} {k : List Str} {b : Addr} (h : F b = some (.lst (k.map V.str))) : (lstA (k.map str)).p F (.ref b) := ⟨b, _, rfl, h, by
  have q := AllV.of_scs (F := F) (cs := k.map V.str)
  rw [List.map_map] at q
  exact q⟩
section
variable {X : Cx} {e a b c o i : Expr} {es : List Expr} {ρ : List En} {A B : As} {pos apos : Pos} {k : Nat}
/-- e.f -/
theorem ea_fld {C : Addr} {fs : List (Str × As)} {f : Str} (he : EA X e ρ (insA C fs)) (hC : Cls X.K C) (hn : NoAttr X.K C f) (hf : fs.lookup f = some A) (hb : attributeBase e f X.env (eval e X.env) = eval e X.env := by rfl) : EA X (.Attribute e f pos) ρ A :=
  pe_imp (pe_fld he hb) fun σ H Q ⟨H0, F, S, q⟩ => ⟨H0, F, S, fun v H1 F1 g1 ⟨p, dx, vs, ev, h1, h2⟩ => by
    obtain ⟨u, hu, hA⟩ := zip_lookup h2 hf
    exact ⟨p, C, dx, _, u, ev, g1.i p _ h1, hC, hn, hu, q u H1 F1 g1 hA⟩⟩
/-- d[k] -/
theorem ea_getK {l : List (Str × As)} {s : Str} (hr : Room k X.A) (ho : EA X o ρ (dkA l)) (hi : EW X i ρ (str s)) (hl : l.lookup s = some A) (hs : NoSl i := by exact fun _ _ => rfl) : EA X (.Subscript o i pos) ρ A :=
  pe_imp (pe_dget (hu_of hr) ho hi hs) fun σ H Q ⟨H0, F, S, q⟩ => ⟨H0, F, S, fun v H1 F1 g1 ⟨p, vs, ev, h1, h2⟩ => ⟨H0, F1, S.gr g1, fun y H2 F2 g2 hy => by
    have hy : y = .str s := hy
    subst hy
    obtain ⟨u, hu, hA⟩ := valV_zip (r := (Sum.inr : Str → Key)) inr_inj (h2.mono g2.f) hl
    exact ⟨p, u, ev, hu ▸ dget_k (F := F2) s g2.i (g2.f p _ h1), q u H2 F2 (g1.trans g2) hA⟩⟩⟩
theorem ea_getT {l : List (List Str × As)} {s : List Str} (hr : Room k X.A) (ho : EA X o ρ (dtA l)) (hi : EA X i ρ (tupA (s.map str))) (hl : l.lookup s = some A) (hs : NoSl i := by exact fun _ _ => rfl) : EA X (.Subscript o i pos) ρ A :=
  pe_imp (pe_dget (hu_of hr) ho hi hs) fun σ H Q ⟨H0, F, S, q⟩ => ⟨H0, F, S, fun v H1 F1 g1 ⟨p, vs, ev, h1, h2⟩ => ⟨H0, F1, S.gr g1, fun y H2 F2 g2 hy => by
    obtain ⟨b, rfl, hb⟩ := strs_at hy
    obtain ⟨u, hu, hA⟩ := valV_zip (r := kT) (fun _ _ => kT_inj) (h2.mono g2.f) hl
    exact ⟨p, u, ev, hu ▸ dget_t (F := F2) g2.i (g2.f p _ h1) (g2.i b _ hb), q u H2 F2 (g1.trans g2) hA⟩⟩⟩
/-- k in d, k not in d -/
theorem et_inK {l : List (Str × As)} {s : Str} (hr : Room k X.A) (hi : EW X i ρ (str s)) (ho : EA X o ρ (dkA l)) (hm : behindInMarks .In o = false) : ET X (.Compare i [.In] [o] pos) ρ (l.lookup s).isSome :=
  pt_imp (pt_cmp (pc_din (hu_of hr) hi ho) hm) fun σ H Q ⟨H0, F, S, q⟩ => ⟨H0, F, S, fun y H1 F1 g1 hy => ⟨H0, F1, S.gr g1, fun v H2 F2 g2 ⟨p, vs, ev, h1, h2⟩ => by
    have hy : y = .str s := hy
    subst hy
    refine ⟨p, _, ev, dget_k (F := F2) s g2.i h1, ?_⟩
    have z : (valV ((l.map fun x => (Sum.inr x.1 : Key)).zip vs) (Sum.inr s)).isSome = (l.lookup s).isSome := by
      cases hl : l.lookup s with
      | none =>
        rw [valV_nozip (r := (Sum.inr : Str → Key)) inr_inj h2 hl]
        rfl
      | some A =>
        obtain ⟨u, hu, _⟩ := valV_zip (r := (Sum.inr : Str → Key)) inr_inj h2 hl
        rw [hu]; rfl
    rw [z]
    exact ⟨_, rfl, q H2 F2 (g1.trans g2)⟩⟩⟩
theorem et_notinK {l : List (Str × As)} {s : Str} (hr : Room k X.A) (hi : EW X i ρ (str s)) (ho : EA X o ρ (dkA l)) (hm : behindInMarks .NotIn o = false) : ET X (.Compare i [.NotIn] [o] pos) ρ (!(l.lookup s).isSome) :=
  pt_imp (pt_cmp (pc_dnotin (hu_of hr) hi ho) hm) fun σ H Q ⟨H0, F, S, q⟩ => ⟨H0, F, S, fun y H1 F1 g1 hy => ⟨H0, F1, S.gr g1, fun v H2 F2 g2 ⟨p, vs, ev, h1, h2⟩ => by
    have hy : y = .str s := hy
    subst hy
    refine ⟨p, _, ev, dget_k (F := F2) s g2.i h1, ?_⟩
    have z : (valV ((l.map fun x => (Sum.inr x.1 : Key)).zip vs) (Sum.inr s)).isSome = (l.lookup s).isSome := by
      cases hl : l.lookup s with
      | none =>
        rw [valV_nozip (r := (Sum.inr : Str → Key)) inr_inj h2 hl]
        rfl
      | some A =>
        obtain ⟨u, hu, _⟩ := valV_zip (r := (Sum.inr : Str → Key)) inr_inj h2 hl
        rw [hu]; rfl
    rw [z]
    exact ⟨_, rfl, q H2 F2 (g1.trans g2)⟩⟩⟩
theorem et_notinT {l : List (List Str × As)} {s : List Str} (hr : Room k X.A) (hi : EA X i ρ (tupA (s.map str))) (ho : EA X o ρ (dtA l)) (hm : behindInMarks .NotIn o = false) : ET X (.Compare i [.NotIn] [o] pos) ρ (!(l.lookup s).isSome) :=
  pt_imp (pt_cmp (pc_dnotin (hu_of hr) hi ho) hm) fun σ H Q ⟨H0, F, S, q⟩ => ⟨H0, F, S, fun y H1 F1 g1 hy => ⟨H0, F1, S.gr g1, fun v H2 F2 g2 ⟨p, vs, ev, h1, h2⟩ => by
    obtain ⟨b, rfl, hb⟩ := strs_at hy
    refine ⟨p, _, ev, dget_t (F := F2) g2.i h1 (g2.h b _ (g1.i b _ hb)), ?_⟩
    have z : (valV ((l.map fun x => kT x.1).zip vs) (kT s)).isSome = (l.lookup s).isSome := by
      cases hl : l.lookup s with
      | none =>
        rw [valV_nozip (r := kT) (fun _ _ => kT_inj) h2 hl]
        rfl
      | some A =>
        obtain ⟨u, hu, _⟩ := valV_zip (r := kT) (fun _ _ => kT_inj) h2 hl
        rw [hu]; rfl
    rw [z]
    exact ⟨_, rfl, q H2 F2 (g1.trans g2)⟩⟩⟩
/-- a <= b <= c -/
theorem ea_chainLe {x y z : Int} (ha : EW X a ρ (int x)) (hb : EW X b ρ (int y)) (hc : EW X c ρ (int z)) (hm : lastMarks [.LtE, .LtE] [b, c] = false) : EA X (.Compare a [.LtE, .LtE] [b, c] pos) ρ (bl (decide (x ≤ y) && decide (y ≤ z))) :=
  pe_imp (pe_chain op_le op_le ha hb hc hm) fun σ H Q ⟨H0, F, S, q⟩ => ⟨H0, F, S, fun v H1 F1 g1 h1 => ⟨H0, F1, S.gr g1, fun u H2 F2 g2 h2 => by
    have h1 : v = .int x := h1
    have h2 : u = .int y := h2
    subst h1 h2
    refine ⟨x, y, rfl, rfl, _, rfl, ?_⟩
    have g := g1.trans g2
    by_cases hxy : x ≤ y
    · rw [if_pos (decide_eq_true hxy)]
      refine ⟨H0, F2, (S.gr g1).gr g2, fun t H3 F3 g3 h3 => ?_⟩
      have h3 : t = .int z := h3
      subst h3
      refine ⟨y, z, rfl, rfl, q _ H3 F3 (g.trans g3) ?_⟩
      show V.bl _ = V.bl _
      rw [decide_eq_true hxy, Bool.true_and]
    · rw [if_neg (by simpa using hxy)]
      refine q _ H2 F2 g ?_
      show V.bl _ = V.bl _
      rw [decide_eq_false hxy, Bool.false_and]⟩⟩
theorem ea_isascii {s : Str} (he : EW X e ρ (str s)) (hbase : attributeBase e "isascii" X.env (eval e X.env) = eval e X.env := by rfl) (hline : (apos.endLine == pos.line) = true := by rfl) : EA X (.Call (.Attribute e "isascii" apos) [] [] pos) ρ (bl (Txt.isascii s)) :=
  pe_imp (pe_bm0 PySem.F.plainAttrs_str PySem.F.slot_str_isascii PySem.F.type_str_isascii mt_isascii he hbase hline) fun σ H Q ⟨H0, F, S, q⟩ => ⟨H0, F, S, fun v H1 F1 g1 h1 => by
    have h1 : v = .str s := h1
    subst h1
    exact ⟨by first | exact .inl ⟨_, rfl⟩ | exact .inr (.inl ⟨_, rfl⟩) | exact ⟨_, rfl⟩ | trivial | rfl, s, rfl, rfl, trivial, q _ H1 F1 g1 rfl⟩⟩
theorem ea_isalnum {s : Str} (he : EW X e ρ (str s)) (hbase : attributeBase e "isalnum" X.env (eval e X.env) = eval e X.env := by rfl) (hline : (apos.endLine == pos.line) = true := by rfl) : EA X (.Call (.Attribute e "isalnum" apos) [] [] pos) ρ (bl (Txt.isalnum s)) :=
  pe_imp (pe_bm0 PySem.F.plainAttrs_str PySem.F.slot_str_isalnum PySem.F.type_str_isalnum mt_isalnum he hbase hline) fun σ H Q ⟨H0, F, S, q⟩ => ⟨H0, F, S, fun v H1 F1 g1 h1 => by
    have h1 : v = .str s := h1
    subst h1
    exact ⟨by first | exact .inl ⟨_, rfl⟩ | exact .inr (.inl ⟨_, rfl⟩) | exact ⟨_, rfl⟩ | trivial | rfl, s, rfl, rfl, trivial, q _ H1 F1 g1 rfl⟩⟩
end
end Lk

set_option Elab.async false
set_option linter.all false
set_option maxRecDepth 100000
set_option maxHeartbeats 4000000
namespace Lk
open PySem PySem.Calls L2 PySem.Spec PyProof.Rows

/-! ### methods of a class -/
structure Mf (P : Program) (w : World) (K : PySem.W.Frag) (mg : Str → Option Value) (base : Heap) (k : Nat) (C : Addr) (m : Str) (ps : List Str) (sp : Sp) : Prop where
  ex : ∃ f fd, FnOk P w K mg base CX0 k f fd ps sp ∧ Meth K C m f ∧ Binds K fd ps []
theorem Mf.mono {P : Program} {w : World} {K : PySem.W.Frag} {mg : Str → Option Value} {base : Heap} {j k : Nat} {C : Addr} {x : Str} {ps : List Str} {sp : Sp} (D : Mf P w K mg base j C x ps sp) (h : j ≤ k) : Mf P w K mg base k C x ps sp :=
  let ⟨f, fd, h1, h2⟩ := D.ex
  ⟨f, fd, h1.mono h, h2⟩
structure Pf (P : Program) (w : World) (K : PySem.W.Frag) (mg : Str → Option Value) (base : Heap) (k : Nat) (C : Addr) (m : Str) (sp : Sp) : Prop where
  ex : ∃ p g fd, FnOk P w K mg base CX0 k g fd ["self"] sp ∧ PropOf K C m p g ∧ Binds K fd ["self"] []
structure Mk1 (P : Program) (w : World) (K : PySem.W.Frag) (mg : Str → Option Value) (base : Heap) (k : Nat) (C : Addr) (x : Str) (ps : List Str) (sp : Sp) : Prop where
  ex : ∃ f fd, FnOk P w K mg base CX0 k f fd ps sp ∧ Mk K C f ∧ Binds K fd ps [] ∧ mg x = some (.ref C)
/-- what a constructor promises: H1 the heap before -/
def spMk {ι : Type} (C : Addr) (pre : ι → Prop) (l : ι → List As) (A : ι → As) : Sp := fun vs H Q _ => ∃ i, pre i ∧ ∃ (H1 F : Hp) (p dx : Addr) (as : List V), vs = .ref p :: as ∧ H = upd (upd H1 dx (.own p)) p (.ins C dx []) ∧ H1 p = none ∧ H1 dx = none ∧ dx ≠ p ∧ Ex F H1 ∧ AllV F as (l i) ∧
  ∀ H' F', Gr F H1 F' H' → (A i).p F' (.ref p) → Q .non H'
section
variable {X : Cx} {e a b c o : Expr} {es : List Expr} {ρ : List En} {A B : As} {pos apos p1 : Pos} {k : Nat} {ι : Type} {pre : ι → Prop} {l : ι → List As} {AA : ι → As} {ps : List Str} {C : Addr} {m x : Str} {fs : List (Str × As)} {la : List As}
theorem ea_meth {pl : Sem Bool} (D : Mf X.prog X.w X.K X.mg X.base k C m ps (spX pre l AA)) (hr : Room k X.A) (hC : Cls X.K C) (i : ι) (hp : pre i) (ho : EA X o ρ (insA C fs)) (hm : fs.lookup m = none) (ha : EAs X (e :: es) ρ la) (hl : l i = insA C fs :: la)
    (he : starEach (e :: es) X.env = (false, eval e X.env) :: starEach es X.env := by rfl) (hpl : (backTo pos (starEach es X.env)).any (·.1) = false := by rfl)
    (hev : eval (.Call (.Attribute o m apos) (e :: es) [] pos) X.env = (do
      let ov ← eval o X.env
      standAt apos.atName
      let (f, first) ← holding [ov] (getMethod ov m pl)
      callWith pos f first (backTo pos (starEach (e :: es) X.env)) (backToKw pos (keywordEach [] X.env))) := by rfl) : EA X (.Call (.Attribute o m apos) (e :: es) [] pos) ρ (AA i) := by
  obtain ⟨f, fd, G, hM, hb⟩ := D.ex
  refine pe_imp (pe_meth ho hC hM G hr hb .nil pass0 ha he hpl hev) fun σ H Q ⟨H0, F, S, q⟩ => ⟨H0, F, S, fun v H1 F1 g1 ⟨p, dx, vs, ev, h1, h2⟩ => ⟨p, dx, _, ev, g1.i p _ h1, zip_nolook h2 hm, H0, F1, S.gr g1, fun us H2 F2 g2 hu => ?_⟩⟩
  show spX pre l AA (v :: (us ++ [])) H2 Q E0
  rw [List.append_nil]
  refine ⟨i, hp, F2, g2.i, ?_, fun v H' F' g hv => q v H' F' ((g1.trans g2).trans g) hv⟩
  rw [hl]
  exact ⟨(insA C fs).mono g2.f ⟨p, dx, vs, ev, h1, h2⟩, hu⟩
theorem ea_prop (D : Pf X.prog X.w X.K X.mg X.base k C m (spX pre l AA)) (hr : Room (k + 1) X.A) (hC : Cls X.K C) (i : ι) (hp : pre i) (ho : EA X o ρ (insA C fs)) (hl : l i = [insA C fs])
    (hab : attributeBase o m X.env (eval o X.env) = eval o X.env := by rfl) : EA X (.Attribute o m pos) ρ (AA i) := by
  obtain ⟨p, g, fd, G, hP, hb⟩ := D.ex
  refine pe_imp (pe_prop ho hC hP G hr hb .nil pass0 hab) fun σ H Q ⟨H0, F, S, q⟩ => ⟨H0, F, S, fun v H1 F1 g1 ⟨p, dx, vs, ev, h1, h2⟩ => ⟨p, dx, _, ev, g1.i p _ h1, i, hp, F1, g1.i, ?_, fun v H' F' g hv => q v H' F' (g1.trans g) hv⟩⟩
  rw [hl]
  exact ⟨⟨p, dx, vs, rfl, h1, h2⟩, trivial⟩
theorem ea_propB (D : Pf X.prog X.w X.K X.mg X.base k C m (spX pre l AA)) (hr : Room (k + 1) X.A) (hC : Cls X.K C) (i : ι) (hp : pre i) (hA : AA i = A) (ho : EA X o ρ (insA C fs)) (hl : l i = [insA C fs])
    (hab : attributeBase o m X.env (eval o X.env) = eval o X.env := by rfl) : EA X (.Attribute o m pos) ρ A := hA ▸ ea_prop D hr hC i hp ho hl hab
theorem ea_methB {pl : Sem Bool} (D : Mf X.prog X.w X.K X.mg X.base k C m ps (spX pre l AA)) (hr : Room k X.A) (hC : Cls X.K C) (i : ι) (hp : pre i) (hA : AA i = A) (ho : EA X o ρ (insA C fs)) (hm : fs.lookup m = none) (ha : EAs X (e :: es) ρ la) (hl : l i = insA C fs :: la)
    (he : starEach (e :: es) X.env = (false, eval e X.env) :: starEach es X.env := by rfl) (hpl : (backTo pos (starEach es X.env)).any (·.1) = false := by rfl)
    (hev : eval (.Call (.Attribute o m apos) (e :: es) [] pos) X.env = (do
      let ov ← eval o X.env
      standAt apos.atName
      let (f, first) ← holding [ov] (getMethod ov m pl)
      callWith pos f first (backTo pos (starEach (e :: es) X.env)) (backToKw pos (keywordEach [] X.env))) := by rfl) : EA X (.Call (.Attribute o m apos) (e :: es) [] pos) ρ A := hA ▸ ea_meth D hr hC i hp ho hm ha hl he hpl hev
theorem make_end {i : ι} {C : Addr} {F H1 H : Hp} {σ : L2.St} {Q : VK} {as : List V} (hp : pre i) (e : Ex F H1) (ha : AllV F as (l i)) (q : ∀ v H' F', Gr F H1 F' H' → (AA i).p F' v → Q v H') :
    ∀ x dx, H1 x = none → H1 dx = none → dx ≠ x → spMk C pre l AA (.ref x :: (as ++ [])) (upd (upd H1 dx (.own x)) x (.ins C dx [])) (fun v H2 => v = .non ∧ Q (.ref x) H2) E0 := fun x dx hx hdx hne =>
  ⟨i, hp, H1, F, x, dx, as, by rw [List.append_nil], rfl, hx, hdx, hne, e, ha, fun H' F' g hA => ⟨rfl, q _ H' F' g hA⟩⟩
theorem ea_make (D : Mk1 X.prog X.w X.K X.mg X.base k C x ps (spMk C pre l AA)) (hr : Room (k + 1) X.A) (i : ι) (hp : pre i) (ha : EAs X (e :: es) ρ (l i)) (hg : Gl X x := by rfl)
    (hdb : (x == ("__debug__" : Str)) = false := by decide) (he : starEach (e :: es) X.env = (false, eval e X.env) :: starEach es X.env := by rfl) (hpl : (backTo pos (starEach es X.env)).any (·.1) = false := by rfl) : EA X (.Call (.Name x p1) (e :: es) [] pos) ρ (AA i) := by
  obtain ⟨f, fd, G, hM, hb, hm⟩ := D.ex
  exact pe_imp (pe_make hM G hr hg hm hb .nil pass0 ha hdb he hpl) fun σ H Q ⟨H0, F, S, q⟩ => ⟨H0, F, S, fun us H1 F1 g1 hu => make_end (H := H) (σ := σ) hp g1.i hu fun v H' F' g hv => q v H' F' (g1.trans g) hv⟩
theorem ea_make0 (D : Mk1 X.prog X.w X.K X.mg X.base k C x ps (spMk C pre l AA)) (hr : Room (k + 1) X.A) (i : ι) (hp : pre i) (hl : l i = []) (hg : Gl X x := by rfl)
    (hdb : (x == ("__debug__" : Str)) = false := by decide) : EA X (.Call (.Name x p1) [] [] pos) ρ (AA i) := by
  obtain ⟨f, fd, G, hM, hb, hm⟩ := D.ex
  exact pe_imp (pe_make0 hM G hr hg hm hb .nil pass0 hdb) fun σ H Q ⟨H0, F, S, q⟩ => make_end (as := []) (H := H) (σ := σ) hp S.ex (by rw [hl]; trivial) q
theorem ea_makeB (D : Mk1 X.prog X.w X.K X.mg X.base k C x ps (spMk C pre l AA)) (hr : Room (k + 1) X.A) (i : ι) (hp : pre i) (hA : AA i = A) (ha : EAs X (e :: es) ρ (l i)) (hg : Gl X x := by rfl)
    (hdb : (x == ("__debug__" : Str)) = false := by decide) (he : starEach (e :: es) X.env = (false, eval e X.env) :: starEach es X.env := by rfl) (hpl : (backTo pos (starEach es X.env)).any (·.1) = false := by rfl) : EA X (.Call (.Name x p1) (e :: es) [] pos) ρ A := hA ▸ ea_make D hr i hp ha hg hdb he hpl
theorem ea_make0B (D : Mk1 X.prog X.w X.K X.mg X.base k C x ps (spMk C pre l AA)) (hr : Room (k + 1) X.A) (i : ι) (hp : pre i) (hA : AA i = A) (hl : l i = []) (hg : Gl X x := by rfl)
    (hdb : (x == ("__debug__" : Str)) = false := by decide) : EA X (.Call (.Name x p1) [] [] pos) ρ A := hA ▸ ea_make0 D hr i hp hl hg hdb
/-! ### in, by an own __contains__ -/
theorem op_inO {CX : CXT} {f : Addr} {fd : FuncData} {sp : Sp} {E : XK} (G : FnOk X.prog X.w X.K X.mg X.base CX k f fd ps sp) (hr : Room k X.A) (hs : PySem.W.findIn X.K (.ref C) "__contains__" = some (some (.ref f))) (hf : PySem.W.isFn X.K (.ref f) = true) (hb : Binds X.K fd ps []) (hx : Passes CX X E) :
    OpR X (compareOp .In) (fun x y H Q => ∃ a dx fs, y = .ref a ∧ H a = some (.ins C dx fs) ∧ sp [.ref a, x] H (fun v H' => ∃ b, v = .bl b ∧ Q (.bl b) H') E) := by
  intro pins s σ H x y v u Q I rx ry hq
  obtain ⟨a, dx, fs, rfl, ha, hsp⟩ := hq
  cases ry
  obtain ⟨mA, J, _⟩ := ins_get I.hok ha
  obtain ⟨od, J, _⟩ := J.look
  obtain ⟨m, hF⟩ := I.fr
  refine PySem.W.in_K hF I.ok.mod.kin J hs hf ?_
  have hl := G.len _ _ _ _ hsp
  have r2 : Vals [V.ref a, x] [Value.ref a, v] := .cons rfl (.cons rx .nil)
  refine wpAny_call (codeAny_mono (G.run X.A X.stack s H ⟨[.ref a, v], []⟩ [.ref a, v] [.ref a, x] _ E hr I.env0 (by
    have := hb s [.ref a, v] I.kIn (by simpa using hl)
    simpa using this) r2 hsp) fun r s' hq => ?_)
  cases r with
  | error e => exact hx pins σ H s e s' I hq
  | ok fl =>
    cases fl with
    | ret w =>
      obtain ⟨z, H', I', rz, b, ez, q⟩ := I.after hq
      subst ez
      cases rz
      exact wpAny_truthy_bool ⟨.bl b, H', I', rfl, q⟩
    | next => exact False.elim hq
    | brk => exact False.elim hq
    | cont => exact False.elim hq
theorem op_notinO {CX : CXT} {f : Addr} {fd : FuncData} {sp : Sp} {E : XK} (G : FnOk X.prog X.w X.K X.mg X.base CX k f fd ps sp) (hr : Room k X.A) (hs : PySem.W.findIn X.K (.ref C) "__contains__" = some (some (.ref f))) (hf : PySem.W.isFn X.K (.ref f) = true) (hb : Binds X.K fd ps []) (hx : Passes CX X E) :
    OpR X (compareOp .NotIn) (fun x y H Q => ∃ a dx fs, y = .ref a ∧ H a = some (.ins C dx fs) ∧ sp [.ref a, x] H (fun v H' => ∃ b, v = .bl b ∧ Q (.bl (!b)) H') E) := by
  intro pins s σ H x y v u Q I rx ry hq
  obtain ⟨a, dx, fs, rfl, ha, hsp⟩ := hq
  cases ry
  obtain ⟨mA, J, _⟩ := ins_get I.hok ha
  obtain ⟨od, J, _⟩ := J.look
  obtain ⟨m, hF⟩ := I.fr
  refine PySem.W.notIn_K hF I.ok.mod.kin J hs hf ?_
  have hl := G.len _ _ _ _ hsp
  have r2 : Vals [V.ref a, x] [Value.ref a, v] := .cons rfl (.cons rx .nil)
  refine wpAny_call (codeAny_mono (G.run X.A X.stack s H ⟨[.ref a, v], []⟩ [.ref a, v] [.ref a, x] _ E hr I.env0 (by
    have := hb s [.ref a, v] I.kIn (by simpa using hl)
    simpa using this) r2 hsp) fun r s' hq => ?_)
  cases r with
  | error e => exact hx pins σ H s e s' I hq
  | ok fl =>
    cases fl with
    | ret w =>
      obtain ⟨z, H', I', rz, b, ez, q⟩ := I.after hq
      subst ez
      cases rz
      exact wpAny_truthy_bool ⟨.bl (!b), H', I', rfl, q⟩
    | next => exact False.elim hq
    | brk => exact False.elim hq
    | cont => exact False.elim hq
theorem et_inO {bb : Bool} (D : Mf X.prog X.w X.K X.mg X.base k C "__contains__" ps (spX pre l AA)) (hr : Room k X.A) (i : ι) (hp : pre i) (ha : EA X a ρ A) (ho : EA X o ρ (insA C fs)) (hl : l i = [insA C fs, A]) (hA : AA i = bl bb) (hm : behindInMarks .In o = false) : ET X (.Compare a [.In] [o] pos) ρ bb := by
  obtain ⟨f, fd, G, hM, hb⟩ := D.ex
  refine pt_imp (pt_cmpR (op_inO G hr hM.at_ hM.fn hb pass0) ha ho hm) fun σ H Q ⟨H0, F, S, q⟩ => ⟨H0, F, S, fun x H1 F1 g1 h1 => ⟨H0, F1, S.gr g1, fun y H2 F2 g2 ⟨p, dx, vs, ev, z1, z2⟩ => ⟨p, dx, _, ev, g2.i p _ z1, i, hp, F2, g2.i, ?_, fun v H' F' g hv => ?_⟩⟩⟩
  · rw [hl]
    exact ⟨⟨p, dx, vs, rfl, z1, z2⟩, A.mono g2.f h1, trivial⟩
  · rw [hA] at hv
    exact ⟨bb, hv, bb, rfl, q H' F' ((g1.trans g2).trans g)⟩
theorem et_notinO {bb : Bool} (D : Mf X.prog X.w X.K X.mg X.base k C "__contains__" ps (spX pre l AA)) (hr : Room k X.A) (i : ι) (hp : pre i) (ha : EA X a ρ A) (ho : EA X o ρ (insA C fs)) (hl : l i = [insA C fs, A]) (hA : AA i = bl bb) (hm : behindInMarks .NotIn o = false) : ET X (.Compare a [.NotIn] [o] pos) ρ (!bb) := by
  obtain ⟨f, fd, G, hM, hb⟩ := D.ex
  refine pt_imp (pt_cmpR (op_notinO G hr hM.at_ hM.fn hb pass0) ha ho hm) fun σ H Q ⟨H0, F, S, q⟩ => ⟨H0, F, S, fun x H1 F1 g1 h1 => ⟨H0, F1, S.gr g1, fun y H2 F2 g2 ⟨p, dx, vs, ev, z1, z2⟩ => ⟨p, dx, _, ev, g2.i p _ z1, i, hp, F2, g2.i, ?_, fun v H' F' g hv => ?_⟩⟩⟩
  · rw [hl]
    exact ⟨⟨p, dx, vs, rfl, z1, z2⟩, A.mono g2.f h1, trivial⟩
  · rw [hA] at hv
    exact ⟨bb, hv, !bb, rfl, q H' F' ((g1.trans g2).trans g)⟩
theorem ea_inO {bb : Bool} (D : Mf X.prog X.w X.K X.mg X.base k C "__contains__" ps (spX pre l AA)) (hr : Room k X.A) (i : ι) (hp : pre i) (ha : EA X a ρ A) (ho : EA X o ρ (insA C fs)) (hl : l i = [insA C fs, A]) (hA : AA i = bl bb) (hm : behindInMarks .In o = false) : EA X (.Compare a [.In] [o] pos) ρ (bl bb) := by
  obtain ⟨f, fd, G, hM, hb⟩ := D.ex
  refine pe_imp (pe_cmpR (op_inO G hr hM.at_ hM.fn hb pass0) ha ho hm) fun σ H Q ⟨H0, F, S, q⟩ => ⟨H0, F, S, fun x H1 F1 g1 h1 => ⟨H0, F1, S.gr g1, fun y H2 F2 g2 ⟨p, dx, vs, ev, z1, z2⟩ => ⟨p, dx, _, ev, g2.i p _ z1, i, hp, F2, g2.i, ?_, fun v H' F' g hv => ?_⟩⟩⟩
  · rw [hl]
    exact ⟨⟨p, dx, vs, rfl, z1, z2⟩, A.mono g2.f h1, trivial⟩
  · rw [hA] at hv
    exact ⟨bb, hv, q _ H' F' ((g1.trans g2).trans g) rfl⟩
/-- ( .., *t, ..) -/
theorem eas_star (he : EA X e ρ (tupA la)) (hr : EAs X es ρ lb) {sp : Pos} (hs : starEach (.Starred e sp :: es) X.env = (true, eval e X.env) :: starEach es X.env := by rfl) : EAs X (.Starred e sp :: es) ρ (la ++ lb) :=
  pa_imp (StX.pa_star he hr hs) fun σ H Q ⟨H0, F, S, q⟩ => ⟨H0, F, S, fun v H1 F1 g1 ⟨p, xs, ev, h1, h2⟩ => ⟨p, xs, ev, .inl (SqT.of (g1.i p _ h1)), H0, F1, S.gr g1, fun vs H2 F2 g2 hv => q _ H2 F2 (g1.trans g2) ((h2.mono g2.f).append hv)⟩⟩
end
end Lk

set_option Elab.async false
set_option linter.all false
set_option maxRecDepth 100000
set_option maxHeartbeats 4000000
namespace Lk
open PySem PySem.Calls L2
/-! ### sources that stay; comprehensions over them -/
/-- J goes over xs as long as G holds -/
def Src (J : It) (xs : List V) (G : Hp → Prop) : Prop := ∀ i H, G H → (∀ x, xs[i]? = some x → J.go i H) ∧ (i < xs.length → ∀ x H', J.yld i H x H' → H' = H ∧ xs[i]? = some x) ∧ (xs.length ≤ i → J.stop i H)
theorem it_walk {J : It} {G : Hp → Prop} {xs : List V} {Hs : Hp} {T : V → Hp → (Hp → Prop) → Prop} {Fin : Hp → Prop} (s : Src J xs G) (Pv : Nat → Hp → Prop) (h0 : Pv 0 Hs) (hl : ∀ i H, i ≤ xs.length → Pv i H → G H)
    (hs : ∀ i x H, xs[i]? = some x → Pv i H → T x H (Pv (i + 1))) (hd : ∀ H, Pv xs.length H → Fin H) :
    ∃ W : Nat → Nat → Hp → Prop, (∃ m, W 0 m Hs) ∧ ∀ i m H, W i m H → (J.stop i H ∧ Fin H) ∨ (J.go i H ∧ ∃ Nx : Hp → Prop, (∀ H', Nx H' → ∃ m', m' < m ∧ W (i + 1) m' H') ∧ ∀ x H', J.yld i H x H' → T x H' Nx) := by
  refine ⟨fun i m H => m = xs.length - i ∧ i ≤ xs.length ∧ Pv i H, ⟨xs.length, by simp, Nat.zero_le _, h0⟩, ?_⟩
  rintro i m H ⟨rfl, hi, p⟩
  obtain ⟨s1, s2, s3⟩ := s i H (hl i H hi p)
  by_cases hlt : i < xs.length
  · refine .inr ⟨s1 xs[i] (by simp [hlt]), Pv (i + 1), fun H' p' => ⟨xs.length - (i + 1), by omega, rfl, hlt, p'⟩, fun x H' y => ?_⟩
    obtain ⟨e, y2⟩ := s2 hlt x H' y
    subst e
    exact hs i x _ y2 p
  · have e : i = xs.length := by omega
    subst e
    exact .inl ⟨s3 (Nat.le_refl _), hd H p⟩
def iS (ρ : List En) (l : List As) : TI := fun σ H R => ∃ H0 F, Sat H0 F σ H ρ ∧ ∀ J G xs H1 F1, Gr F H F1 H1 → AllV F1 xs l → Src J xs G → (∀ H', Ex F1 H' → G H') → R J H1
abbrev ES (X : Cx) (tg it : Expr) (ρ : List En) (l : List As) : Prop := PI X tg it (iS ρ l)
theorem pi_imp {X : Cx} {tg it : Expr} {t t' : TI} (h : PI X tg it t) (i : ∀ σ H R, t' σ H R → t σ H R) : PI X tg it t' := ⟨fun pins s σ H R I q => h.run pins s σ H R I (i σ H R q)⟩
theorem src_l {K : PySem.W.Frag} {a : Addr} {xs : List V} : Src (Itl K a) xs (fun H => SqL K H a xs) := fun i H q => ⟨fun x hx => ⟨xs, x, q, hx⟩, fun _ x H' y => ⟨y.1, y.2 xs q⟩, fun z => ⟨xs, q, z⟩⟩
theorem src_t {K : PySem.W.Frag} {a : Addr} {xs : List V} : Src (Itt K a) xs (fun H => SqT K H a xs) := fun i H q => ⟨fun x hx => ⟨xs, x, q, hx⟩, fun _ x H' y => ⟨y.1, y.2 xs q⟩, fun z => ⟨xs, q, z⟩⟩
section
variable {X : Cx} {tg it a b c : Expr} {ρ : List En} {l : List As} {p1 p2 : Pos}
theorem es_l (h : EA X it ρ (lstA l)) : ES X tg it ρ l := pi_imp (pi_list h) fun σ H R ⟨H0, F, S, k⟩ => ⟨H0, F, S, fun v H1 F1 g1 ⟨a, xs, ev, h1, h2⟩ => ⟨a, ev, ⟨xs, SqL.of (g1.i a _ h1)⟩, k _ _ xs H1 F1 g1 h2 src_l fun H' e => SqL.of (e a _ h1)⟩⟩
theorem es_t (h : EA X it ρ (tupA l)) : ES X tg it ρ l := pi_imp (pi_tup h) fun σ H R ⟨H0, F, S, k⟩ => ⟨H0, F, S, fun v H1 F1 g1 ⟨a, xs, ev, h1, h2⟩ => ⟨a, ev, ⟨xs, SqT.of (g1.i a _ h1)⟩, k _ _ xs H1 F1 g1 h2 src_t fun H' e => SqT.of (e a _ h1)⟩⟩
theorem es_rng3 {i j d : Int} {n : Nat} (hm : X.mg "range" = none) (h : EAs X [a, b, c] ρ [int i, int j, int d]) (hc : RgC i j d n) (hg : Gl X "range" := by rfl)
    (hs : starEach [a, b, c] X.env = (false, eval a X.env) :: starEach [b, c] X.env := by rfl) (hpl : (backTo p2 (starEach [b, c] X.env)).any (·.1) = false := by rfl) : ES X tg (.Call (.Name "range" p1) [a, b, c] [] p2) ρ ((List.range n).map fun k : Nat => int (i + (k : Int) * d)) :=
  pi_imp (pi_range3 hg hm h hs hpl) fun σ H R ⟨H0, F, S, k⟩ => ⟨H0, F, S, fun vs H1 F1 g1 h1 => by
    have e : vs = [.int i, .int j, .int d] := by
      match vs, h1 with
      | [x, y, z], ⟨h1, h2, h3, _⟩ =>
        rw [show x = .int i from h1, show y = .int j from h2, show z = .int d from h3]
    refine ⟨i, j, d, n, e, hc, k _ (fun _ => True) ((List.range n).map fun k : Nat => V.int (i + (k : Int) * d)) H1 F1 g1 ?_ ?_ fun _ _ => trivial⟩
    · have q := AllV.of_scs (F := F1) (cs := (List.range n).map fun k : Nat => V.int (i + (k : Int) * d))
      rw [List.map_map] at q
      exact q
    · refine fun m H _ => ⟨fun x hx => ?_, fun hm x H' y => ?_, fun z => ?_⟩
      · have z := (List.getElem?_eq_some_iff.mp hx).1
        rw [List.length_map, List.length_range] at z
        exact z
      · rw [List.length_map, List.length_range] at hm
        refine ⟨y.1, ?_⟩
        rw [List.getElem?_map, List.getElem?_range hm, y.2]
        rfl
      · rw [List.length_map, List.length_range] at z
        exact z⟩
end
section
variable {α β : Type}
/-- one for -/
theorem tlc_src {σ : L2.St} {H : Hp} {Q : VK} {ρ : List En} {l : List α} {enc : α → As} {p : α → Bool} {g : α → As} {vs : List Nat} {j : Nat} (hj : j ∈ vs) (hz : l.length < sizeLine) (h : tN ρ ((l.filter p).map g) σ H Q) :
    tLc (iS ρ (l.map enc)) (gName j) (tTc (fun a => (wipeE ρ vs).set j (.fr (enc a))) l p) (tEc (fun a => (wipeE ρ vs).set j (.fr (enc a))) l p g) vs σ H Q := by
  obtain ⟨H0, F, S, k⟩ := h
  refine ⟨H0, F, S, fun J So xs H1 F1 g1 h2 hJ hS D hD => ?_⟩
  have hlen : xs.length = l.length := by rw [h2.length, List.length_map]
  refine it_walk (xs := xs) hJ (fun i H' => Lcs F1 H1 D l p g i H') ⟨F1, [], .newH g1.i hD, g1.i.none hD, upd_same, by simp [AllV]⟩ (fun i H' _ L => ?_) (fun i x H' hx L => ?_) (fun H' L => ?_)
  · obtain ⟨F', acc, G, _⟩ := L.ex
    exact hS H' (G.f.trans G.i)
  · have hi : i < l.length := by
      have z := (List.getElem?_eq_some_iff.mp hx).1
      omega
    have ha : l[i]? = some l[i] := List.getElem?_eq_getElem hi
    obtain ⟨u, hu, hA⟩ := h2.get (i := i) (A := enc l[i]) (by rw [List.getElem?_map, ha]; rfl)
    rw [hx] at hu
    have e : x = u := by simpa using hu
    subst e
    exact lcs_turn (H00 := H) (F00 := F) hj ha hz (S.gr g1) hA L hD
  · rw [hlen] at L
    obtain ⟨F', acc, G, fD, hDl, hall⟩ := L.ex
    rw [List.take_length] at hall
    exact k D acc H' F' (g1.trans G) (g1.h.none hD) fD hDl hall
/-- two fors -/
def iS2 (ρ : α → List En) (l : List α) (m : α → List As) : TI := fun σ H R => ∃ a, a ∈ l ∧ iS (ρ a) (m a) σ H R
def tE2 (ρ : α → β → List En) (l : List α) (m : α → List β) (g : α → β → As) : TE := fun σ H Q => ∃ a b, a ∈ l ∧ b ∈ m a ∧ tA (ρ a b) (g a b) σ H Q
def tT2 (ρ : α → β → List En) (l : List α) (m : α → List β) : TT := fun σ H Q => ∃ a b, a ∈ l ∧ b ∈ m a ∧ tTs (ρ a b) true σ H Q
def tT1 (ρ : α → List En) (l : List α) : TT := fun σ H Q => ∃ a, a ∈ l ∧ tTs (ρ a) true σ H Q
theorem flatMap_take {γ : Type} {l : List α} {f : α → List γ} {i : Nat} {a : α} (h : l[i]? = some a) : (l.take (i + 1)).flatMap f = (l.take i).flatMap f ++ f a := by
  rw [List.take_add_one, h]
  simp
theorem flatMap_le {γ : Type} {f : α → List γ} : ∀ (l : List α) (i : Nat) (a : α), l[i]? = some a → ((l.take i).flatMap f).length + (f a).length ≤ (l.flatMap f).length
  | [], _, _, h => by simp at h
  | x :: l, 0, a, h => by
    have h : x = a := by simpa using h
    subst h
    simp
  | x :: l, i + 1, a, h => by
    have q := flatMap_le (f := f) l i a (by simpa using h)
    rw [List.take_succ_cons, List.flatMap_cons, List.flatMap_cons, List.length_append, List.length_append]
    omega
theorem tlc2_src {σ : L2.St} {H : Hp} {Q : VK} {ρ : List En} {l : List α} {enc : α → As} {m : α → List β} {enc1 : α → β → As} {g : α → β → As} {vs vs1 : List Nat} {j j1 : Nat} (hj : j ∈ vs) (hj1 : j1 ∈ vs1)
    (hz : (l.flatMap fun a => (m a).map (g a)).length < sizeLine) (h : tN ρ (l.flatMap fun a => (m a).map (g a)) σ H Q) :
    tLc2 (iS ρ (l.map enc)) (gName j) (tT1 (fun a => (wipeE ρ vs).set j (.fr (enc a))) l) (iS2 (fun a => (wipeE ρ vs).set j (.fr (enc a))) l (fun a => (m a).map (enc1 a))) (gName j1)
      (tT2 (fun a b => (wipeE ((wipeE ρ vs).set j (.fr (enc a))) vs1).set j1 (.fr (enc1 a b))) l m) (tE2 (fun a b => (wipeE ((wipeE ρ vs).set j (.fr (enc a))) vs1).set j1 (.fr (enc1 a b))) l m g) vs vs1 σ H Q := by
  obtain ⟨H0, F, S, k⟩ := h
  refine ⟨H0, F, S, fun J So xs H1 F1 g1 h2 hJ hS D hD => ?_⟩
  have hlen : xs.length = l.length := by rw [h2.length, List.length_map]
  -- what is at D behind some turns: pre the values so far
  let St : List As → Hp → Prop := fun pre H' => ∃ F' acc, Gr F1 H1 F' H' ∧ F' D = none ∧ H' D = some (.lst acc) ∧ AllV F' acc pre
  refine it_walk (xs := xs) hJ (fun i H' => St ((l.take i).flatMap fun a => (m a).map (g a)) H') ⟨F1, [], .newH g1.i hD, g1.i.none hD, upd_same, by simp [AllV]⟩ (fun i H' _ L => ?_) (fun i x H' hx L => ?_) (fun H' L => ?_)
  · obtain ⟨F', acc, G, _⟩ := L
    exact hS H' (G.f.trans G.i)
  · have hi : i < l.length := by
      have z := (List.getElem?_eq_some_iff.mp hx).1
      omega
    have ha : l[i]? = some l[i] := List.getElem?_eq_getElem hi
    obtain ⟨u, hu, hA⟩ := h2.get (i := i) (A := enc l[i]) (by rw [List.getElem?_map, ha]; rfl)
    rw [hx] at hu
    have e : x = u := by simpa using hu
    subst e
    have mem : l[i] ∈ l := List.getElem_mem hi
    generalize l[i] = a at ha hA mem
    obtain ⟨F', acc, G, fD, hDl, hall⟩ := L
    have S1 := (((S.gr g1).gr G).wipe vs).set (i := j) ((enc a).mono G.f hA)
    refine ⟨wipe_set hj, a, mem, H0, F', S1, fun H3 F3 g3 => ?_⟩
    have GD := G.trans g3
    have S3 := S1.gr g3
    refine ⟨a, mem, H0, F3, S3, fun J2 So2 ys H4 F4 g4 h4 hJ2 hS2 => ?_⟩
    have GE := GD.trans g4
    have S4 := S3.gr g4
    have f4 : F4 D = none := g4.n D _ (g3.h D _ hDl) (g3.n D _ hDl fD)
    have d4 : H4 D = some (.lst acc) := g4.h D _ (g3.h D _ hDl)
    have hall4 := hall.mono (g3.f.trans g4.f)
    have hlen2 : ys.length = (m a).length := by rw [h4.length, List.length_map]
    refine it_walk (xs := ys) hJ2 (fun n H' => ∃ F5 acc, Gr F1 H1 F5 H' ∧ Ex F4 F5 ∧ F5 D = none ∧ H' D = some (.lst acc) ∧ AllV F5 acc (((l.take i).flatMap fun a => (m a).map (g a)) ++ ((m a).take n).map (g a))) ⟨F4, acc, GE, Ex.refl F4, f4, d4, by simpa using hall4⟩ (fun n H' _ ⟨F5, _, G5, x5, _⟩ => hS2 H' (x5.trans G5.i)) (fun n y H' hy L => ?_) (fun H' L => ?_)
    · obtain ⟨F5, acc5, G5, x5, f5, d5, hall5⟩ := L
      have hn : n < (m a).length := by
        have z := (List.getElem?_eq_some_iff.mp hy).1
        omega
      have hb : (m a)[n]? = some (m a)[n] := List.getElem?_eq_getElem hn
      obtain ⟨u, hu, hB⟩ := h4.get (i := n) (A := enc1 a (m a)[n]) (by rw [List.getElem?_map, hb]; rfl)
      rw [hy] at hu
      have e : y = u := by simpa using hu
      subst e
      have memb : (m a)[n] ∈ m a := List.getElem_mem hn
      generalize (m a)[n] = b at hb hB memb
      -- the frame behind the second store
      have S5 : Sat H0 F5 ((L2.wipe σ vs).set j (some x)) H' ((wipeE ρ vs).set j (.fr (enc a))) := (((S.gr g1).gr G5).wipe vs).set (i := j) ((enc a).mono (G5.f) hA)
      have S6 := (S5.wipe vs1).set (i := j1) ((enc1 a b).mono x5 hB)
      refine ⟨wipe_set hj1, a, b, mem, memb, H0, F5, S6, fun H6 F6 g6 => ?_⟩
      refine ⟨a, b, mem, memb, H0, F6, S6.gr g6, fun z H7 F7 g7 hz7 => ?_⟩
      have f6 := g6.n D _ d5 f5
      have d6 := g6.h D _ d5
      have f7 : F7 D = none := g7.n D _ d6 f6
      have d7 : H7 D = some (.lst acc5) := g7.h D _ d6
      have G7 := (G5.trans g6).trans g7
      refine ⟨acc5, d7, ?_, F7, acc5 ++ [z], ⟨G7.f, fun c o zz => ?_, fun c o zz => ?_, G7.n⟩, (x5.trans g6.f).trans g7.f, f7, upd_same, ?_⟩
      · have q := flatMap_le (f := fun a => (m a).map (g a)) l i a ha
        rw [hall5.length, List.length_append, List.length_map, List.length_take]
        rw [List.length_map] at q
        omega
      · rw [upd_ne (ne_of_none zz hD)]
        exact G7.h c o zz
      · rw [upd_ne (ne_of_none zz f7)]
        exact G7.i c o zz
      · have tk : (m a).take (n + 1) = (m a).take n ++ [b] := by
          rw [List.take_add_one, hb]
          rfl
        rw [tk, List.map_append, ← List.append_assoc]
        exact (hall5.mono (g6.f.trans g7.f)).snoc hz7
    · obtain ⟨F5, acc5, G5, x5, f5, d5, hall5⟩ := L
      rw [hlen2, List.take_length] at hall5
      refine ⟨F5, acc5, G5, f5, d5, ?_⟩
      rw [flatMap_take ha]
      exact hall5
  · rw [hlen] at L
    obtain ⟨F', acc, G, fD, hDl, hall⟩ := L
    rw [List.take_length] at hall
    exact k D acc H' F' (g1.trans G) (g1.h.none hD) fD hDl hall
end
section
variable {α β : Type} {X : Cx} {ρ : List En} {pos spos : Pos} {elt it it1 : Expr} {ifs : List Expr} {scope : Scope} {Nx : List En → Prop} {W : Wn}
theorem pts_1 {X : Cx} {ρ : α → List En} {l : List α} : PTs X [] (tT1 ρ l) := ⟨fun pins s σ H Q I ⟨a, _, H0, F, S, k⟩ => pts_nil.run pins s σ H Q I (k H F (.refl S.ex))⟩
theorem pts_2 {X : Cx} {ρ : α → β → List En} {l : List α} {m : α → List β} : PTs X [] (tT2 ρ l m) := ⟨fun pins s σ H Q I ⟨a, b, _, _, H0, F, S, k⟩ => pts_nil.run pins s σ H Q I (k H F (.refl S.ex))⟩
theorem pi_2 {X : Cx} {tg it : Expr} {ρ : α → List En} {l : List α} {m : α → List As} (h : ∀ a ∈ l, ES X tg it (ρ a) (m a)) : PI X tg it (iS2 ρ l m) := ⟨fun pins s σ H R I ⟨a, ha, q⟩ => (h a ha).run pins s σ H R I q⟩
theorem pe_2 {X : Cx} {e : Expr} {ρ : α → β → List En} {l : List α} {m : α → List β} {g : α → β → As} (h : ∀ a ∈ l, ∀ b ∈ m a, EA X e (ρ a b) (g a b)) : PE X e (tE2 ρ l m g) := ⟨fun pins s σ H Q I ⟨a, b, ha, hb, q⟩ => (h a ha b hb).run pins s σ H Q I q⟩
/-- [elt for x in a source that stays if ..] -/
theorem en_lcS {own : List (Str × Nat)} (j : Nat) {x : Str} {px : Pos} {l : List α} {enc : α → As} {p : α → Bool} {g : α → As} (hc : X.calm = true) (hN : X.N.Nodup) (hi : ES X (.Name x px) it ρ (l.map enc)) (hz : l.length < sizeLine) (ok : BlkOk X.N X.env.scope scope own)
    (hg : ∀ (s : Shared) (H : Hp) (C : Addr) (cl : List (Str × Addr)) (fp : List Addr), PG (X.blk s H scope (compEnvC scope cl C X.env) fp) (.Name x px) (gName j))
    (ht : ∀ (s : Shared) (H : Hp) (C : Addr) (cl : List (Str × Addr)) (fp : List Addr), ∀ a ∈ l, PTs (X.blk s H scope (compEnvC scope cl C X.env) fp) ifs (tTs ((wipeE ρ (own.map (·.2))).set j (.fr (enc a))) (p a)))
    (he : ∀ (s : Shared) (H : Hp) (C : Addr) (cl : List (Str × Addr)) (fp : List Addr), ∀ a ∈ l, p a = true → EA (X.blk s H scope (compEnvC scope cl C X.env) fp) elt ((wipeE ρ (own.map (·.2))).set j (.fr (enc a))) (g a))
    (hj : j ∈ own.map (·.2) := by decide) (hs : ∀ z, foldedSetIterable it X.env z = pure z := by intro _; rfl) :
    EN X (.ListComp elt [⟨.Name x px, it, ifs, 0⟩] scope pos) ρ ((l.filter p).map g) :=
  pe_imp (pe_lc (own := own) hc hN hi ok hg (fun s H C cl fp => pts_c (ht s H C cl fp)) (fun s H C cl fp => pe_c (he s H C cl fp)) hs) fun σ H Q h => tlc_src hj hz h
/-- [elt for x in .. for y in ..] -/
theorem en_lc2 {own : List (Str × Nat)} (j j1 : Nat) {x y : Str} {px py : Pos} {l : List α} {enc : α → As} {m : α → List β} {enc1 : α → β → As} {g : α → β → As} (hc : X.calm = true) (hN : X.N.Nodup) (hi : ES X (.Name x px) it ρ (l.map enc)) (hz : (l.flatMap fun a => (m a).map (g a)).length < sizeLine) (ok : BlkOk X.N X.env.scope scope own)
    (hg : ∀ (s : Shared) (H : Hp) (C : Addr) (cl : List (Str × Addr)) (fp : List Addr), PG (X.blk s H scope (compEnvC scope cl C X.env) fp) (.Name x px) (gName j))
    (hi1 : ∀ (s : Shared) (H : Hp) (C : Addr) (cl : List (Str × Addr)) (fp : List Addr), ∀ a ∈ l, ES (X.blk s H scope (compEnvC scope cl C X.env) fp) (.Name y py) it1 ((wipeE ρ (own.map (·.2))).set j (.fr (enc a))) ((m a).map (enc1 a)))
    (hg1 : ∀ (s : Shared) (H : Hp) (C : Addr) (cl : List (Str × Addr)) (fp : List Addr), PG (X.blk s H scope (compEnvC scope cl C X.env) fp) (.Name y py) (gName j1))
    (he : ∀ (s : Shared) (H : Hp) (C : Addr) (cl : List (Str × Addr)) (fp : List Addr), ∀ a ∈ l, ∀ b ∈ m a, EA (X.blk s H scope (compEnvC scope cl C X.env) fp) elt ((wipeE ((wipeE ρ (own.map (·.2))).set j (.fr (enc a))) [j1]).set j1 (.fr (enc1 a b))) (g a b))
    (hj : j ∈ own.map (·.2) := by decide) (hj1 : j1 ∈ own.map (·.2) := by decide) (hs : ∀ z, foldedSetIterable it X.env z = pure z := by intro _; rfl) (hs1 : ∀ env z, foldedSetIterable it1 env z = pure z := by intro _ _; rfl) :
    EN X (.ListComp elt [⟨.Name x px, it, [], 0⟩, ⟨.Name y py, it1, [], 0⟩] scope pos) ρ (l.flatMap fun a => (m a).map (g a)) :=
  pe_imp (pe_lc2 (own := own) (vs1 := [j1]) hc hN hi ok (fun i h => by rw [List.mem_singleton.mp h]; exact hj1) hg (fun s H C cl fp => pts_1) (fun s H C cl fp => pi_2 (hi1 s H C cl fp)) hg1 (fun s H C cl fp => pts_2) (fun s H C cl fp => pe_2 (he s H C cl fp)) hs hs1) fun σ H Q h => tlc2_src hj (List.mem_singleton.mpr rfl) hz h
theorem sa_setLc2 {own : List (Str × Nat)} (i j j1 : Nat) {x y z : Str} {px py pz : Pos} {l : List α} {enc : α → As} {m : α → List β} {enc1 : α → β → As} {g : α → β → As} (hc : X.calm = true) (hN : X.N.Nodup) (hi : ES X (.Name x px) it ρ (l.map enc)) (hz : (l.flatMap fun a => (m a).map (g a)).length < sizeLine) (ok : BlkOk X.N X.env.scope scope own)
    (hg : ∀ (s : Shared) (H : Hp) (C : Addr) (cl : List (Str × Addr)) (fp : List Addr), PG (X.blk s H scope (compEnvC scope cl C X.env) fp) (.Name x px) (gName j))
    (hi1 : ∀ (s : Shared) (H : Hp) (C : Addr) (cl : List (Str × Addr)) (fp : List Addr), ∀ a ∈ l, ES (X.blk s H scope (compEnvC scope cl C X.env) fp) (.Name y py) it1 ((wipeE ρ (own.map (·.2))).set j (.fr (enc a))) ((m a).map (enc1 a)))
    (hg1 : ∀ (s : Shared) (H : Hp) (C : Addr) (cl : List (Str × Addr)) (fp : List Addr), PG (X.blk s H scope (compEnvC scope cl C X.env) fp) (.Name y py) (gName j1))
    (he : ∀ (s : Shared) (H : Hp) (C : Addr) (cl : List (Str × Addr)) (fp : List Addr), ∀ a ∈ l, ∀ b ∈ m a, EA (X.blk s H scope (compEnvC scope cl C X.env) fp) elt ((wipeE ((wipeE ρ (own.map (·.2))).set j (.fr (enc a))) [j1]).set j1 (.fr (enc1 a b))) (g a b))
    (k : Nx (ρ.set i (.own (l.flatMap fun a => (m a).map (g a))))) (hy : X.N[i]? = some z := by rfl) (hyl : X.env.scope.names.lookup z = some .local := by rfl)
    (hsw : swapsWith (.ListComp elt [⟨.Name x px, it, [], 0⟩, ⟨.Name y py, it1, [], 0⟩] scope pos) (some (.Name z pz)) spos.line X.env = pure true := by exact sw_true rfl rfl rfl (by decide +kernel))
    (hj : j ∈ own.map (·.2) := by decide) (hj1 : j1 ∈ own.map (·.2) := by decide) (hs : ∀ z, foldedSetIterable it X.env z = pure z := by intro _; rfl) (hs1 : ∀ env z, foldedSetIterable it1 env z = pure z := by intro _ _; rfl) :
    SA X (.Assign [.Name z pz] (.ListComp elt [⟨.Name x px, it, [], 0⟩, ⟨.Name y py, it1, [], 0⟩] scope pos) spos) ρ Nx W :=
  ps_imp (ps_setLc2 (own := own) (vs1 := [j1]) (i := i) hc hN hy hyl hsw hi ok (fun i h => by rw [List.mem_singleton.mp h]; exact hj1) hg (fun s H C cl fp => pts_1) (fun s H C cl fp => pi_2 (hi1 s H C cl fp)) hg1 (fun s H C cl fp => pts_2) (fun s H C cl fp => pe_2 (he s H C cl fp)) hs hs1) fun D σ H ⟨F0, H0, F, g0, S, q, _⟩ => tlc2_src hj (List.mem_singleton.mpr rfl) hz ⟨H0, F, S, fun p' xs H' F' g' n1 n2 hp hv => q _ _ H' F' k (g0.trans g') ((S.gr g').setN (g0.h.none n1) n2 hp hv (S.newAt n1 _))⟩
theorem sa_setLcS {own : List (Str × Nat)} (i j : Nat) {x y : Str} {px py : Pos} {l : List α} {enc : α → As} {p : α → Bool} {g : α → As} (hc : X.calm = true) (hN : X.N.Nodup) (hi : ES X (.Name x px) it ρ (l.map enc)) (hz : l.length < sizeLine) (ok : BlkOk X.N X.env.scope scope own)
    (hg : ∀ (s : Shared) (H : Hp) (C : Addr) (cl : List (Str × Addr)) (fp : List Addr), PG (X.blk s H scope (compEnvC scope cl C X.env) fp) (.Name x px) (gName j))
    (ht : ∀ (s : Shared) (H : Hp) (C : Addr) (cl : List (Str × Addr)) (fp : List Addr), ∀ a ∈ l, PTs (X.blk s H scope (compEnvC scope cl C X.env) fp) ifs (tTs ((wipeE ρ (own.map (·.2))).set j (.fr (enc a))) (p a)))
    (he : ∀ (s : Shared) (H : Hp) (C : Addr) (cl : List (Str × Addr)) (fp : List Addr), ∀ a ∈ l, p a = true → EA (X.blk s H scope (compEnvC scope cl C X.env) fp) elt ((wipeE ρ (own.map (·.2))).set j (.fr (enc a))) (g a))
    (k : Nx (ρ.set i (.own ((l.filter p).map g)))) (hy : X.N[i]? = some y := by rfl) (hyl : X.env.scope.names.lookup y = some .local := by rfl)
    (hsw : swapsWith (.ListComp elt [⟨.Name x px, it, ifs, 0⟩] scope pos) (some (.Name y py)) spos.line X.env = pure true := by exact sw_true rfl rfl rfl (by decide +kernel))
    (hj : j ∈ own.map (·.2) := by decide) (hs : ∀ z, foldedSetIterable it X.env z = pure z := by intro _; rfl) :
    SA X (.Assign [.Name y py] (.ListComp elt [⟨.Name x px, it, ifs, 0⟩] scope pos) spos) ρ Nx W :=
  ps_imp (ps_setLc (own := own) (i := i) hc hN hy hyl hsw hi ok hg (fun s H C cl fp => pts_c (ht s H C cl fp)) (fun s H C cl fp => pe_c (he s H C cl fp)) hs) fun D σ H ⟨F0, H0, F, g0, S, q, _⟩ => tlc_src hj hz ⟨H0, F, S, fun p' xs H' F' g' n1 n2 hp hv => q _ _ H' F' k (g0.trans g') ((S.gr g').setN (g0.h.none n1) n2 hp hv (S.newAt n1 _))⟩
theorem flt_all {α : Type} (l : List α) : l.filter (fun _ => true) = l := List.filter_eq_self.mpr fun _ _ => rfl
/-- without tests -/
theorem en_lcA {own : List (Str × Nat)} (j : Nat) {x : Str} {px : Pos} {l : List α} {enc : α → As} {g : α → As} (hc : X.calm = true) (hN : X.N.Nodup) (hi : EL X it ρ (l.map enc)) (hz : l.length < sizeLine) (ok : BlkOk X.N X.env.scope scope own)
    (hg : ∀ (s : Shared) (H : Hp) (C : Addr) (cl : List (Str × Addr)) (fp : List Addr), PG (X.blk s H scope (compEnvC scope cl C X.env) fp) (.Name x px) (gName j))
    (he : ∀ (s : Shared) (H : Hp) (C : Addr) (cl : List (Str × Addr)) (fp : List Addr), ∀ a ∈ l, EA (X.blk s H scope (compEnvC scope cl C X.env) fp) elt ((wipeE ρ (own.map (·.2))).set j (.fr (enc a))) (g a))
    (hj : j ∈ own.map (·.2) := by decide) (hs : ∀ z, foldedSetIterable it X.env z = pure z := by intro _; rfl) :
    EN X (.ListComp elt [⟨.Name x px, it, [], 0⟩] scope pos) ρ (l.map g) := by
  have q := en_lc (p := fun _ => true) j (pos := pos) hc hN hi hz ok hg (fun _ _ _ _ _ _ _ => pts_yes) (fun s H C cl fp a ha _ => he s H C cl fp a ha) hj hs
  rw [flt_all] at q
  exact q
theorem en_lcSA {own : List (Str × Nat)} (j : Nat) {x : Str} {px : Pos} {l : List α} {enc : α → As} {g : α → As} (hc : X.calm = true) (hN : X.N.Nodup) (hi : ES X (.Name x px) it ρ (l.map enc)) (hz : l.length < sizeLine) (ok : BlkOk X.N X.env.scope scope own)
    (hg : ∀ (s : Shared) (H : Hp) (C : Addr) (cl : List (Str × Addr)) (fp : List Addr), PG (X.blk s H scope (compEnvC scope cl C X.env) fp) (.Name x px) (gName j))
    (he : ∀ (s : Shared) (H : Hp) (C : Addr) (cl : List (Str × Addr)) (fp : List Addr), ∀ a ∈ l, EA (X.blk s H scope (compEnvC scope cl C X.env) fp) elt ((wipeE ρ (own.map (·.2))).set j (.fr (enc a))) (g a))
    (hj : j ∈ own.map (·.2) := by decide) (hs : ∀ z, foldedSetIterable it X.env z = pure z := by intro _; rfl) :
    EN X (.ListComp elt [⟨.Name x px, it, [], 0⟩] scope pos) ρ (l.map g) := by
  have q := en_lcS (p := fun _ => true) j (pos := pos) hc hN hi hz ok hg (fun _ _ _ _ _ _ _ => pts_yes) (fun s H C cl fp a ha _ => he s H C cl fp a ha) hj hs
  rw [flt_all] at q
  exact q
end
end Lk

set_option Elab.async false
set_option linter.all false
set_option maxRecDepth 100000
set_option maxHeartbeats 4000000
namespace Lk
open PySem PySem.Calls L2 PySem.Spec PyProof.Rows RT
section
variable {prog : Program} {w : World} {A : Around} {E : Value → Shared → Prop} {s : Shared}
/-! ### list(reversed(list)) -/
theorem list_init_rev {R : Result → Shared → Prop} {it l : Addr} {items : Array Value} (hh : A.handled = none) (hit : s.heap.IsRevIter it l ((items.size : Int) - 1)) (hl : s.heap.IsList l items) (hne : l ≠ it) (hn : items.size ≤ sizeLine) (Z : Addr) (hZ : s.heap.get? Z = some { cls := .type "list", data := .seq #[] }) (hZi : Z ≠ it) (hZl : Z ≠ l)
    (hR : ∀ h' tk acc c', (∀ b o, b ≠ Z → b ≠ it → s.heap.get? b = some o → h'.get? b = some o) → h'.get? Z = some { cls := .type "list", dict := none, data := .seq acc c', slots := #[] } → ItemsOf (fun i v => items[items.size - 1 - i]? = some v) acc items.size → R (.ok (.ret .none)) { s with heap := h', toks := tk }) :
    wpAny (model prog w) A.in1 (Builtin.«list.__init__» ⟨[.ref Z, .ref it], []⟩)
      (fun fin s' => match fin with | .done f => R (.ok f) s' | .again c' => c'.quiet = true ∧ codeAny (model prog w) A c' R s') (fun e s' => R (.error e) s') s := by
  have W := (Walks.listRev (prog := prog) (w := w) (A := A.in1) hh it l hne items).toS
  show wpAny _ _ (do let old ← Builtin.List.listItems (.ref Z); Builtin.List.listUpdate (.ref Z) (fun _ => #[]); letGo old.toList.reverse; Builtin.List.listExtendWith (.ref Z) (.ref it) .none) _ _ s
  refine wpAny_bind ?_
  unfold Builtin.List.listItems
  refine wpAny_bind (wpAny_seqItems hZ rfl (wpAny_pure ?_))
  show wpAny _ _ (updateSeq Z (fun _ => #[]) >>= fun _ => letGo (#[] : Array Value).toList.reverse >>= fun _ => Builtin.List.listExtendWith (.ref Z) (.ref it) .none) _ _ s
  refine wpAny_bind (wpAny_updateSeq hZ rfl ?_)
  have hS2 := Heap.get?_update_self (Obj.mapSeq (fun _ => (#[] : Array Value))) hZ rfl
  have oth : ∀ b o, b ≠ Z → s.heap.get? b = some o → (s.heap.update Z (Obj.mapSeq (fun _ => (#[] : Array Value)))).get? b = some o :=
    fun b o hb e => (Heap.get?_update_other _ _ (Ne.symm hb)).trans e
  refine wpAny_bind (wpAny_letGo ?_)
  have hit1 : (s.heap.update Z (Obj.mapSeq (fun _ => (#[] : Array Value)))).IsRevIter it l ((items.size : Int) - 1) := hit.at fun o e => oth _ _ hZi.symm e
  have hl1 : (s.heap.update Z (Obj.mapSeq (fun _ => (#[] : Array Value)))).IsList l items := by
    obtain ⟨o, ho, r⟩ := id hl
    exact ⟨o, oth _ _ hZl.symm ho, r⟩
  have hSf : Z ∉ [it, l] := by simp only [List.mem_cons, List.not_mem_nil, or_false, not_or]; exact ⟨hZi, hZl⟩
  generalize hs1 : ({ s with heap := s.heap.update Z (Obj.mapSeq (fun _ => (#[] : Array Value))) } : Shared) = s1
  have hit2 : s1.heap.IsRevIter it l ((items.size : Int) - 1) := by rw [← hs1]; exact hit1
  have hl2 : s1.heap.IsList l items := by rw [← hs1]; exact hl1
  have hT : s1.TypeIs (.ref it) "list_reverseiterator" := hit2.typeIs
  have h1 : Builtin.List.listSameRef (.ref Z) (.ref it) = false := by simp [Builtin.List.listSameRef, hZi]
  unfold Builtin.List.listExtendWith
  refine wpAny_bind (wpAny_typeOf hT ?_)
  rw [if_neg (by rw [h1]; decide)]
  refine wpAny_bind (wpAny_pyIter_revIter hit2 ?_)
  refine wpAny_bind (wpAny_holding ?_)
  unfold Builtin.List.listLengthHint
  refine wpAny_bind (wpAny_specialOf hT nolen_lri ?_)
  show wpAny _ A.in1 (specialOf (Value.ref it) (Str.ofString "__length_hint__") >>= _) _ _ _
  refine wpAny_bind (wpAny_specialOf hT hint_lri ?_)
  generalize hid : ("list_reverseiterator.__length_hint__" : String) = id0
  wp_delta
  rw [show splitId id0 = some ("list_reverseiterator", "__length_hint__") from by subst hid; decide +kernel]
  subst hid
  refine wpAny_bind (wpAny_isInstance (b := true) hT (by rw [isSubtype_type]; kernel_rfl) ?_)
  refine wpAny_pure ?_
  rw [if_neg (by decide)]
  have e0 : ((items.size : Nat) : Int) - 1 - ((0 : Nat) : Int) = (items.size : Int) - 1 := by omega
  have hS3 : s1.heap.get? Z = some { cls := .type "list", data := .seq ([] : List Value).toArray } := by rw [← hs1]; exact hS2
  refine wpAny_pure ⟨plainId_quiet F.plain_extend_loop _, codeAny_extend_loopS W hn _ hSf _ items.size 0 _ _ _ rfl (Nat.zero_le _) ⟨Nat.zero_le _, by rw [e0]; exact hit2, hl2⟩ hS3 (ItemsOf.nil _) fun s' acc' c' hm hS' hacc => ?_⟩
  rw [Moved.eq_with hm]
  subst hs1
  refine hR s'.heap s'.toks acc' c' (fun b o hb hb2 e => hm.heap b o (fun hmem => ?_) (oth b o hb e)) hS' hacc
  rcases List.mem_cons.mp hmem with e' | hmem
  · exact hb e'
  · exact hb2 (List.mem_singleton.mp hmem)
theorem call_list_rev {it l : Addr} {items : Array Value} {Q : Value → Shared → Prop} (hh : A.handled = none) (hit : s.heap.IsRevIter it l ((items.size : Int) - 1)) (hl : s.heap.IsList l items) (hne : l ≠ it) (hn : items.size ≤ sizeLine)
    (hQ : ∀ (h' : Heap) (tk : Nat) (acc : Array Value) (c' : Nat), (∀ b o, b ≠ it → s.heap.get? b = some o → h'.get? b = some o) → h'.get? s.heap.objs.size = some { cls := .type "list", dict := none, data := .seq acc c', slots := #[] } → ItemsOf (fun i v => items[items.size - 1 - i]? = some v) acc items.size →
      Q (.ref s.heap.objs.size) { s with heap := h', toks := tk }) :
    wpAny (model prog w) A (call (.type "list") [.ref it]) Q E s := by
  refine callType_codes (Q₁ := fun obj s₁ => obj = .ref s.heap.objs.size ∧ s₁ = { s with heap := s.heap.push { cls := .type "list", data := .seq #[] } }) F.called_list (F.typeCall_list_1 _) F.entry_list_init
    (code_list_new _ ⟨rfl, rfl⟩) fun obj s₁ h₁ => ?_
  obtain ⟨rfl, rfl⟩ := h₁
  obtain ⟨oi, hoi, _⟩ := id hit
  obtain ⟨ol, hol, _⟩ := id hl
  have hS : (s.heap.push { cls := .type "list", data := .seq #[] }).get? s.heap.objs.size = some { cls := .type "list", data := .seq #[] } := Heap.get?_push_size _ rfl
  refine ⟨⟨_, hS, rfl⟩, F.args_list_init_2 _ _, list_init_rev (A := A.in1) hh (hit.at fun o e => Heap.get?_push_of_some _ e) (hl.push _) hne hn _ hS (Nat.ne_of_gt (Heap.lt_size hoi)) (Nat.ne_of_gt (Heap.lt_size hol)) fun h' tk acc' c' hk hS' hacc => ?_⟩
  exact ⟨rfl, hQ h' tk acc' c' (fun b o hb e => hk b o (Nat.ne_of_lt (Heap.lt_size e)) hb (Heap.get?_push_of_some _ e)) hS' hacc⟩
end
def tListRev (K : PySem.W.Frag) (te : TE) : TE := fun σ H Q => te σ H fun v H1 => ∃ (a : Addr) (xs : List V), v = .ref a ∧ SqL K H1 a xs ∧ ∀ q, H1 q = none → Q (.ref q) (upd H1 q (.lst xs.reverse))
section
variable {X : Cx}
theorem pe_listRev {e : Expr} {te : TE} {p p2 pos pos2 : Pos} (hc : X.calm = true) (hg : Gl X "list") (hm : X.mg "list" = none) (hg2 : Gl X "reversed") (hm2 : X.mg "reversed" = none) (he : PE X e te)
    (hs : starEach [e] X.env = (false, eval e X.env) :: starEach [] X.env := by rfl)
    (hs2 : starEach [.Call (.Name "reversed" p2) [e] [] pos2] X.env = (false, eval (.Call (.Name "reversed" p2) [e] [] pos2) X.env) :: starEach [] X.env := by rfl) :
    PE X (.Call (.Name "list" p) [.Call (.Name "reversed" p2) [e] [] pos2] [] pos) (tListRev X.K te) := by
  refine ⟨fun pins s σ H Q I h => ?_⟩
  refine Call_ (ld_blt I hg hm boot_list (PyProof.Rows.callWith_type1 (args_cons (Call_ (ld_blt I hg2 hm2 PyProof.Rows.boot_reversed (PyProof.Rows.callWith_type1 (args_cons (thn (he.run pins s σ H _ I h) fun u s1 ⟨v, H1, I1, r1, q1⟩ => args_nil ?_) hs) hs rfl))) hs2) hs2 rfl))
  obtain ⟨a, xs, ev, hq, q⟩ := q1
  subst ev
  obtain rfl : u = Value.ref a := r1
  obtain ⟨its, rv, p', hz⟩ := I1.list hq
  refine call_reversed_list p'.isList (args_nil ?_)
  have k0 : ∀ b o, s1.heap.get? b = some o → (s1.heap.push (revObj a ((its.toArray.size : Int) - 1))).get? b = some o := fun b o e => Heap.get?_push_of_some _ e
  have I2 : Inv X pins σ H1 { s1 with heap := s1.heap.push (revObj a ((its.toArray.size : Int) - 1)) } := I1.kept (t' := s1.toks) k0
  have fp := I1.fpOk (H' := H1) (b := s1.heap.objs.size) (Nat.le_refl _) (I1.hok.fresh (Nat.le_refl _))
  have hl := p'.isList
  obtain ⟨ol, hol, _⟩ := id hl
  have hne : a ≠ s1.heap.objs.size := Nat.ne_of_lt (Heap.lt_size hol)
  have hn : its.toArray.size ≤ sizeLine := by rw [List.size_toArray, ← rv.length]; exact hz
  refine call_list_rev (s := { s1 with heap := s1.heap.push (revObj a ((its.toArray.size : Int) - 1)) }) (I1.ok.hd hc) ⟨_, Heap.get?_push_size _ rfl, rfl, rfl⟩ (hl.push _) hne hn fun h' tk acc c' hk hS hi => ?_
  have I3 := I2.turnedNew (t' := tk) (ch := [s1.heap.objs.size]) (h' := h') (ob := .lst xs.reverse) (fun b o hb e => hk b o (fun z => hb (by rw [z]; exact List.mem_singleton.mpr rfl)) e) (fun b hb => by rw [List.mem_singleton.mp hb]; exact fp) (Nat.le_refl _) (show ObjOk X.prog X.w _ h' _ (.lst xs.reverse) from ⟨by rw [List.length_reverse]; exact hz, acc.toList, c', vals_rev rv hi, by rw [Array.toArray_toList]; exact hS⟩)
  exact ⟨.ref _, _, I3, rfl, q _ (I2.hok.fresh (Nat.le_refl _))⟩
theorem AllV.reverse {F : Hp} : ∀ {vs : List V} {l : List As}, AllV F vs l → AllV F vs.reverse l.reverse
  | [], [], _ => trivial
  | v :: vs, A :: l, h => by
    rw [List.reverse_cons, List.reverse_cons]
    exact (AllV.reverse (vs := vs) (l := l) h.2).append (.one h.1)
  | [], _ :: _, h => h.elim
  | _ :: _, [], h => h.elim
theorem en_listRev {e : Expr} {ρ : List En} {l : List As} {p p2 pos pos2 : Pos} (he : EL X e ρ l) (hc : X.calm = true) (hm : X.mg "list" = none) (hm2 : X.mg "reversed" = none) (hg : Gl X "list" := by rfl) (hg2 : Gl X "reversed" := by rfl)
    (hs : starEach [e] X.env = (false, eval e X.env) :: starEach [] X.env := by rfl)
    (hs2 : starEach [.Call (.Name "reversed" p2) [e] [] pos2] X.env = (false, eval (.Call (.Name "reversed" p2) [e] [] pos2) X.env) :: starEach [] X.env := by rfl) :
    EN X (.Call (.Name "list" p) [.Call (.Name "reversed" p2) [e] [] pos2] [] pos) ρ l.reverse :=
  pe_imp (pe_listRev hc hg hm hg2 hm2 he hs hs2) fun σ H Q ⟨H0, F, S, k⟩ => ⟨H0, F, S, fun x xs H1 F1 g1 h1 h2 => ⟨x, xs, rfl, SqL.of h1, fun q hq =>
    k q _ _ F1 (g1.trans (.newH g1.i hq)) (g1.h.none hq) (g1.i.none hq) upd_same h2.reverse⟩⟩
end
end Lk

set_option Elab.async false
set_option linter.all false
set_option maxRecDepth 100000
set_option maxHeartbeats 4000000
namespace Lk
open PySem PySem.Calls L2 PySem.Spec PyProof.Rows
section
variable {X : Cx} {e a b c o : Expr} {es : List Expr} {ρ : List En} {A B : As} {pos apos p1 p2 : Pos} {k : Nat} {ι : Type} {pre : ι → Prop} {l : ι → List As} {AA : ι → As} {ps : List Str} {C : Addr} {m x : Str} {fs gs : List (Str × As)}
/-! ### a text in a tuple of texts -/
theorem inV_strs (s : Str) : ∀ l : List Str, inV (.str s) (l.map V.str) = decide (s ∈ l)
  | [] => by simp [inV]
  | t :: l => by
    have ih := inV_strs s l
    unfold inV at ih ⊢
    rw [List.map_cons, List.any_cons, ih]
    rw [Bool.eq_iff_iff]
    simp only [Bool.or_eq_true, decide_eq_true_eq, List.mem_cons, eqV, beq_iff_eq]
    exact or_congr_left ⟨fun h => h.symm, fun h => h.symm⟩
theorem cm_inTs {s : Str} {l : List Str} : Cm X .In (str s) (tupA (l.map str)) (decide (s ∈ l)) := ⟨_, op_in_seq, fun x y H Q p q z => by
  have p : x = .str s := p
  subst p
  obtain ⟨b, rfl, hb⟩ := strs_at q
  refine ⟨b, l.map V.str, rfl, .inr (SqT.of hb), rfl, ?_, ?_⟩
  · rw [List.all_map]
    exact List.all_eq_true.mpr fun _ _ => rfl
  · show Q (.bl (if false = true then _ else _)) H
    rw [if_neg Bool.false_ne_true, inV_strs]
    exact z⟩
/-! ### <= by an own __le__ -/
theorem op_leO {CX : CXT} {f : Addr} {fd : FuncData} {sp : Sp} {E : XK} (G : FnOk X.prog X.w X.K X.mg X.base CX k f fd ps sp) (hr : Room k X.A) (hs : PySem.W.findIn X.K (.ref C) "__le__" = some (some (.ref f))) (hf : PySem.W.isFn X.K (.ref f) = true) (hb : Binds X.K fd ps []) (hx : Passes CX X E) :
    OpR X (compareOp .LtE) (fun x y H Q => ∃ a dx fs b dy gs, x = .ref a ∧ H a = some (.ins C dx fs) ∧ y = .ref b ∧ H b = some (.ins C dy gs) ∧ sp [.ref a, .ref b] H (fun v H' => ∃ b, v = .bl b ∧ Q (.bl b) H') E) := by
  intro pins s σ H x y v u Q I rx ry hq
  obtain ⟨a, dx, fs, b, dy, gs, rfl, ha, rfl, hb', hsp⟩ := hq
  cases rx
  cases ry
  obtain ⟨mA, J, _⟩ := ins_get I.hok ha
  obtain ⟨mB, J', _⟩ := ins_get I.hok hb'
  obtain ⟨od, J, _⟩ := J.look
  obtain ⟨od', J', _⟩ := J'.look
  obtain ⟨m, hF⟩ := I.fr
  show wpAny _ _ (richCompare .LtE _ _) _ _ _
  refine PySem.W.cmp_K (op := .LtE) (tb := .ref C) hr.units0 hF I.ok.mod.kin J J'.type (by simp [PySem.W.notFirst]) hs hf ?_
  have hl := G.len _ _ _ _ hsp
  have r2 : Vals [V.ref a, .ref b] [Value.ref a, .ref b] := .cons rfl (.cons rfl .nil)
  refine wpAny_call (codeAny_mono (G.run X.A X.stack s H ⟨[.ref a, .ref b], []⟩ [.ref a, .ref b] [.ref a, .ref b] _ E hr I.env0 (by
    have := hb s [.ref a, .ref b] I.kIn (by simpa using hl)
    simpa using this) r2 hsp) fun r s' hq => ?_)
  cases r with
  | error e => exact hx pins σ H s e s' I hq
  | ok fl =>
    cases fl with
    | ret w =>
      obtain ⟨z, H', I', rz, b, ez, q⟩ := I.after hq
      subst ez
      cases rz
      exact ⟨.bl b, H', I', rfl, q⟩
    | next => exact False.elim hq
    | brk => exact False.elim hq
    | cont => exact False.elim hq
theorem ea_leO {bb : Bool} (D : Mf X.prog X.w X.K X.mg X.base k C "__le__" ps (spX pre l AA)) (hr : Room k X.A) (i : ι) (hp : pre i) (ha : EA X a ρ (insA C fs)) (ho : EA X o ρ (insA C gs)) (hl : l i = [insA C fs, insA C gs]) (hA : AA i = bl bb) (hm : behindInMarks .LtE o = false) : EA X (.Compare a [.LtE] [o] pos) ρ (bl bb) := by
  obtain ⟨f, fd, G, hM, hb⟩ := D.ex
  refine pe_imp (pe_cmpR (op_leO G hr hM.at_ hM.fn hb pass0) ha ho hm) fun σ H Q ⟨H0, F, S, q⟩ => ⟨H0, F, S, fun x H1 F1 g1 ⟨p', dx', vs', ev', y1, y2⟩ => ⟨H0, F1, S.gr g1, fun y H2 F2 g2 ⟨p, dx, vs, ev, z1, z2⟩ => ⟨p', dx', _, p, dx, _, ev', g2.h p' _ (g1.i p' _ y1), ev, g2.i p _ z1, i, hp, F2, g2.i, ?_, fun v H' F' g hv => ?_⟩⟩⟩
  · rw [hl]
    exact ⟨⟨p', dx', vs', rfl, g2.f p' _ y1, y2.mono g2.f⟩, ⟨p, dx, vs, rfl, z1, z2⟩, trivial⟩
  · rw [hA] at hv
    exact ⟨bb, hv, q _ H' F' ((g1.trans g2).trans g) rfl⟩
/-- isinstance(e, bool) of a bool -/
theorem bo_bool : bootBuiltins ("bool" : Str) = some (.type "bool") := by decide +kernel
theorem ea_isBool {q : Bool} (he : EW X e ρ (bl q)) (hm : X.mg "isinstance" = none) (hm2 : X.mg "bool" = none) (hg : Gl X "isinstance" := by rfl) (hg2 : Gl X "bool" := by rfl) (hs : starEach [e, .Name "bool" p2] X.env = (false, eval e X.env) :: starEach [.Name "bool" p2] X.env := by rfl)
    (hs2 : starEach [.Name "bool" p2] X.env = (false, eval (.Name "bool" p2) X.env) :: starEach [] X.env := by rfl) (hpl : (backTo pos (starEach [.Name "bool" p2] X.env)).any (·.1) = false := by rfl) : EA X (.Call (.Name "isinstance" p1) [e, .Name "bool" p2] [] pos) ρ (bl true) :=
  pe_imp (pe_callB call_isi hg hm bo_isi (pa_cons he (pa_cons (pe_bltn (v := .ty "bool") hg2 hm2 bo_bool rfl) pa_nil hs2) hs) (he := hs) (hpl := hpl)) fun σ H Q ⟨H0, F, S, k⟩ => ⟨H0, F, S, fun v H1 F1 g1 h1 => by
    have h1 : v = .bl q := h1
    subst h1
    exact ⟨.bl q, .ty "bool", .type "bool", .type "bool", true, rfl, .ty _, .base (.bl q), kit_ty (by decide +kernel), k _ H1 F1 g1 rfl⟩⟩
/-! ### slices -/
theorem cutA_mid {l : List As} {i j : Nat} (h1 : i ≤ j) : cutA l (some (i : Int)) (some (j : Int)) = (l.drop i).take (j - i) := by
  unfold cutA
  rw [show HT.sIx l.length 0 (some (i : Int)) = min i l.length from HT.sIx_nat l.length 0 i, show HT.sIx l.length l.length (some (j : Int)) = min j l.length from HT.sIx_nat l.length l.length j]
  by_cases hi : i ≤ l.length
  · rw [Nat.min_eq_left hi]
    by_cases hj : j ≤ l.length
    · rw [Nat.min_eq_left hj]
    · rw [Nat.min_eq_right (by omega), List.take_of_length_le (by rw [List.length_drop]; omega), List.take_of_length_le (by rw [List.length_drop]; omega)]
  · rw [Nat.min_eq_right (show l.length ≤ i by omega), List.drop_of_length_le (Nat.le_refl _), List.drop_of_length_le (show l.length ≤ i by omega)]
    simp
theorem sIx_pos {n i : Nat} (d : Nat) (hi : 0 < i) (hn : 0 < n) : HT.sIx n d (some (i : Int)) ≠ 0 := by
  rw [HT.sIx_nat]
  omega
end
section
variable {X : Cx} {ρ : List En} {pos : Pos} {Nx : List En → Prop} {W : Wn}
/-- y = xs.pop()[1:], a list of tuples -/
theorem sa_popTail (i j : Nat) {x y : Str} {px py apos cpos spos p3 : Pos} {l : List As} {B0 : As} {m : List As} {jj} {p4 : Pos} (hij : i ≠ j) (hN0 : X.N.Nodup) (hr : ρ[i]? = some (En.own (l ++ [tupA (B0 :: m)]))) (k : Nx ((ρ.set i (.own l)).set j (.fr (tupA m)))) (hN : X.N[i]? = some x := by rfl) (hv : Vis X.env.scope x := by first | exact Or.inl rfl | exact Or.inr (Or.inl rfl) | exact Or.inr (Or.inr rfl)) (hd : (x == ("__debug__" : Str)) = false := by decide) (hcd : (x == ("__classdict__" : Str)) = false := by decide)
    (hbase : attributeBase (.Name x px) "pop" X.env (eval (.Name x px) X.env) = eval (.Name x px) X.env := by rfl) (hline : (apos.endLine == cpos.line) = true := by rfl)
    (hi : X.N[j]? = some y := by rfl) (hx : Loc X.env.scope y := by first | exact .inl rfl | exact .inr rfl) (hs : swapsWith (.Subscript (.Call (.Attribute (.Name x px) "pop" apos) [] [] cpos) (.Slice (some (.Constant (.int 1) jj p4)) none none p3) spos) (some (.Name y py)) pos.line X.env = pure false := by rfl)
    (hf : X.fn y = true ∨ X.env.scope.names.lookup y = some .local := by first | exact .inl rfl | exact .inr rfl | assumption) :
    SA X (.Assign [.Name y py] (.Subscript (.Call (.Attribute (.Name x px) "pop" apos) [] [] cpos) (.Slice (some (.Constant (.int 1) jj p4)) none none p3) spos) pos) ρ Nx W := by
  refine ps_imp (ps_set hN0 hi hx (pe_slice sl_tup (pe_bm0 PySem.F.plainAttrs_list PySem.F.slot_list_pop PySem.F.type_list_pop mt_pop (pe_var (i := i) hN hv hd hcd) hbase hline) (eo_some (ρ := ρ.set i (.own l)) (i := 1) (ea_w ea_int)) (eo_none (ρ := ρ.set i (.own l)))) hs hf) fun D σ H ⟨F0, H0, F, g, S, q, _⟩ => ?_
  obtain ⟨p, xs, h1, h2, h3, h4, h5⟩ := S.own i _ hr
  have hlen := h5.length
  rw [List.length_append, List.length_singleton] at hlen
  obtain ⟨v, hv1, hv2⟩ := h5.get (i := l.length) (A := tupA (B0 :: m)) (by rw [List.getElem?_append_right (Nat.le_refl _)]; simp)
  obtain ⟨t, ts, rfl, ht1, ht2⟩ := hv2
  have hdl : AllV F xs.dropLast l := by
    have z := h5.take l.length
    rw [List.take_left] at z
    rw [List.dropLast_eq_take, hlen]
    exact z
  obtain ⟨g3, S3⟩ := sat_wr g S hr h1 hdl
  refine ⟨_, h1, .inl ⟨rfl, _, SqL.of h4⟩, p, xs, .ref t, rfl, rfl, h4, by rw [hlen]; exact hv1, H0, F, S3, fun H2 F2 g2 => ⟨H0, F2, S3.gr g2, fun H4 F4 g4 => ?_⟩⟩
  have tl : ts.length = m.length + 1 := by rw [ht2.length]; rfl
  refine ⟨t, ts, rfl, SqT.of (g4.h t _ (g2.h t _ (g3.i t _ ht1))), ?_, fun pp hp => ?_⟩
  · intro z
    have z1 := z.1
    exact sIx_pos (n := ts.length) (i := 1) 0 (by decide) (by omega) z1
  · have gg := (g3.trans g2).trans g4
    have e : cutV ts (some ((1 : Nat) : Int)) none = ts.drop 1 := by
      unfold cutV
      rw [HT.sIx_none, show HT.sIx ts.length 0 (some ((1 : Nat) : Int)) = min 1 ts.length from HT.sIx_nat ts.length 0 1, Nat.min_eq_left (by omega), List.take_of_length_le (by rw [List.length_drop]; exact Nat.le_refl _)]
    have e1 : cutV ts (some (1 : Int)) none = ts.drop 1 := e
    have n4 := gg.i.none hp
    refine q _ _ _ (upd F4 pp (.tup (cutV ts (some (1 : Int)) none))) k (gg.trans (.new gg.i hp)) ?_
    refine (((S3.gr g2).gr g4).gr (.new gg.i hp)).set ⟨pp, _, rfl, upd_same, ?_⟩
    rw [e1]
    exact (((ht2.drop 1).mono (g2.f.trans g4.f)).mono (Ex.new n4))
end
end Lk

set_option Elab.async false
set_option linter.all false
set_option maxRecDepth 100000
set_option maxHeartbeats 4000000
namespace Lk
open PySem PySem.Calls L2
/-! ### what an owned list holds, opened -/
theorem sat_ownEx {H0 F H : Hp} {σ : L2.St} {ρ : List En} {i : Nat} {l : List As} {τ : Type} {P : τ → Prop} {l' : τ → List As} (S : Sat H0 F σ H ρ) (hi : ρ[i]? = some (En.own l)) (h : ∀ F xs, AllV F xs l → ∃ t, P t ∧ AllV F xs (l' t)) : ∃ t, P t ∧ Sat H0 F σ H (ρ.set i (.own (l' t))) := by
  obtain ⟨p', xs, h1, h2, h3, h4, h5⟩ := S.own i l hi
  obtain ⟨t, ht, hx⟩ := h F xs h5
  have hi' : i < ρ.length := (List.getElem?_eq_some_iff.mp hi).1
  refine ⟨t, ht, S.ex, fun j B e => ?_, fun j m' e => ?_, fun j k m1 n1 q e1 e2 y1 y2 q1 q2 => ?_, by rw [List.length_set]; exact S.len, fun j B e => ?_⟩
  · by_cases hj : i = j
    · subst hj
      rw [List.getElem?_set_self hi'] at e
      simp at e
    · rw [List.getElem?_set_ne hj] at e
      exact S.fr j B e
  · by_cases hj : i = j
    · subst hj
      rw [List.getElem?_set_self hi'] at e
      have e : l' t = m' := by simpa using e
      subst e
      exact ⟨p', xs, h1, h2, h3, h4, hx⟩
    · rw [List.getElem?_set_ne hj] at e
      exact S.own j m' e
  · have back : ∀ {j : Nat} {y : En}, (ρ.set i (.own (l' t)))[j]? = some y → y.Mn → ∃ z, ρ[j]? = some z ∧ z.Mn := fun {j y} e m => by
      by_cases hj : i = j
      · subst hj
        exact ⟨_, hi, True.intro⟩
      · rw [List.getElem?_set_ne hj] at e
        exact ⟨y, e, m⟩
    obtain ⟨a1, z1, w1⟩ := back e1 y1
    obtain ⟨a2, z2, w2⟩ := back e2 y2
    exact S.sep j k a1 a2 q z1 z2 w1 w2 q1 q2
  · by_cases hj : i = j
    · subst hj
      rw [List.getElem?_set_self hi'] at e
      simp at e
    · rw [List.getElem?_set_ne hj] at e
      exact S.ow j B e
theorem ba_ownEx {X : Cx} {sts : List Stmt} {ρ : List En} {Nx : List En → Prop} {W : Wn} {i : Nat} {l : List As} {τ : Type} {P : τ → Prop} {l' : τ → List As} (hi : ρ[i]? = some (En.own l)) (h : ∀ F xs, AllV F xs l → ∃ t, P t ∧ AllV F xs (l' t)) (k : ∀ t, P t → BA X sts (ρ.set i (.own (l' t))) Nx W) : BA X sts ρ Nx W := by
  refine ⟨fun pins s σ H D I ⟨F0, H0, F, g, S, q⟩ => ?_⟩
  obtain ⟨t, ht, T⟩ := sat_ownEx S hi h
  exact (k t ht).run pins s σ H D I ⟨F0, H0, F, g, T, q⟩
end Lk

set_option Elab.async false
set_option linter.all false
set_option maxRecDepth 100000
set_option maxHeartbeats 4000000
namespace Lk
open PySem PySem.Calls L2 PySem.Spec PyProof.Rows NdefX
/-! ### super().__init__(e) in an own error's __init__ -/
/-- what the written part says of the def at f: a method that names __class__ -/
structure SupAt (P : Program) (K : PySem.W.Frag) (mg : Str → Option Value) (f cc cda C : Addr) (name qual : Str) (params : Arguments) (body : List Stmt) (scope : Scope) (fd : FuncData) : Prop where
  lk : ∃ (oc : Value) (od : Option Addr) (kV doc pm : Value) (an : Option Addr) (ct : Value) (osl : Array (Option Value)), fd = PySem.W.fnX name qual params body scope [("__class__", cc)] .none kV doc pm an (.ref cda) ct ∧ K.lookup f = some ⟨oc, od, .func fd, osl⟩
  cd : PySem.W.codeIn K (.ref cda) qual = true
  file : ∃ (c : Value) (d : Option Addr) (vs : Array Value) (sl : Array (Option Value)) (fl : Str) (tf : Tok), K.lookup cda = some ⟨c, d, .fields vs, sl⟩ ∧ vs[2]? = some (.str fl tf) ∧ ((P.main.file : Str) == fl) = true
  cell : ∃ (c : Value) (d : Option Addr) (sl : Array (Option Value)), K.lookup cc = some ⟨c, d, .cell (some (.ref C)), sl⟩
  sub : PySem.W.mroIn K C (.ref C) = some true
  op : PySem.W.nsIn K cStatics "thirdparty.any" = some none
  ini : PySem.W.ks_superIn K C C "__init__" = some (some (.builtin "ValueError.__init__"))
  sve : PySem.W.subIn K (.ref C) (.type "ValueError") = some true
  sup : mg "super" = none
  top : (P.main.scope.names.lookup ("super" : Str)).isSome = false
section
variable {CX : CXT} {P : Program} {w : World} {K : PySem.W.Frag} {mg : Str → Option Value} {base : Heap} {f cc cda C : Addr} {name qual : Str} {params : Arguments} {rest : List Stmt} {scope : Scope} {fd : FuncData} {N ps : List Str} {k : Nat} {sp : Sp} {e : Expr} {p0 p1 p2 p3 p4 : Pos} {ar : Arg}
abbrev supSt (p0 p1 p2 p3 p4 : Pos) (e : Expr) : Stmt := .Expr (.Call (.Attribute (.Call (.Name "super" p0) [] [] p1) "__init__" p2) [e] [] p3) p4
def supEv (env : Env) (p0 p1 p2 p3 : Pos) (e : Expr) (pl : Sem Bool) : Prop := eval (.Call (.Attribute (.Call (.Name "super" p0) [] [] p1) "__init__" p2) [e] [] p3) env = (do
  let ov ← attributeBase (.Call (.Name "super" p0) [] [] p1) "__init__" env (eval (.Call (.Name "super" p0) [] [] p1) env)
  standAt p2.atName
  let (f, first) ← holding [ov] (getMethod ov "__init__" pl)
  callWith p3 f first (backTo p3 (starEach [e] env)) [])
theorem bo_super : bootBuiltins ("super" : Str) = some (.type "super") := by decide +kernel
theorem init_bound {X : Cx} {pins : List (Addr × Obj)} {σ : L2.St} {H : Hp} {s : Shared} {u a C : Addr} {us : List Value} {Q : Value → Shared → Prop} (T : OexC X.K C) (I : Inv X pins σ H s) (e : H a = some (exo a C none)) (hu : s.heap.get? u = some (PySem.W.kxs_mw "ValueError.__init__" a)) (hl : us.length ≤ sizeLine)
    (h : ∀ s', Inv X pins σ H s' → Q .none s') : wpAny (model X.prog X.w) X.A (call (.ref u) us) Q E s := by
  obtain ⟨nm, q, N, bs, bm, sn, sub, ab, col, dd, k0, k1, k2, k3, k5, hC, hbm⟩ := T.cls
  obtain ⟨t1, ho⟩ := exo_at I.hok e
  have hC' := I.kIn _ _ hC
  obtain ⟨hp, g, d, t, os⟩ := s
  refine wpAny_call (codeAny_of_tree ?_)
  show wpAny _ X.A.in1 (callAny (.ref u) ⟨us, []⟩) _ _ _
  simp only [callAny]
  refine wpAny_bind (wpAny_load hu ?_)
  simp only [PySem.W.kxs_mw, show (Value.type "method-wrapper" == Value.type "method" || Value.type "method-wrapper" == Value.type "builtin_function_or_method" || Value.type "method-wrapper" == Value.type "method-wrapper") = true by decide, if_true]
  refine PySem.W.KFB.if_so (by decide) ?_
  refine wpAny_bind (PySem.W.check_bound_init PySem.F.excBase_ValueError.toExcCallFacts hC' ho rfl ?_)
  refine wpAny_bind (wpAny_pure (wpAny_pure ?_))
  refine ⟨plainId_quiet PySem.F.excBase_ValueError.init.plain _, codeAny_builtin PySem.F.excBase_ValueError.initEntry ?_⟩
  refine PySem.W.exc_init_tree (cls := .ref C) (t0 := t1) (dv := none) (c2 := .none) (c3 := .none) (b4 := .bool false) ho hl fun h' k hx _ => ?_
  have J := I.write (t' := t) (x := a) (e := a) (o := exo a C none) (by rw [e]; exact True.intro) (.inl rfl) k ⟨_, hx⟩ (exo_ok hx)
  have eu : upd H a (exo a C none) = H := by
    funext b
    by_cases hb : b = a
    · rw [hb, upd_same, e]
    · rw [upd_ne hb]
  rw [eu] at J
  exact h _ J
/-- super().__init__(e) -/
theorem at_super {X : Cx} {pl : Sem Bool} {pins : List (Addr × Obj)} {σ : L2.St} {H : Hp} {s : Shared} {body bd : List Stmt} {a : Addr} {te : TE} {Q : Value → Shared → Prop} (T : SupAt X.prog X.K X.mg f cc cda C name qual params bd scope fd) (O : OexC X.K C) (I : Inv X pins σ H s)
    (hk : X.env.scope.kind = .function) (hks : X.env.kindOf "super" = some .globalImplicit) (hkc : X.env.kindOf "__class__" = some .free) (hka : X.env.kindOf ar.arg = some .local) (hfu : X.env.func = some f) (hco : X.env.code = .ref cda) (hcl : X.env.cells.lookup ("__class__" : Str) = some cc) (hN : X.N[0]? = some ar.arg)
    (hpar : (params.posonlyargs ++ params.args).head? = some ar) (ha : σ[0]? = some (some (.ref a))) (ea : H a = some (exo a C none)) (hte : PE X e te) (hse : starEach [e] X.env = (false, eval e X.env) :: starEach [] X.env) (hc : supEv X.env p0 p1 p2 p3 e pl)
    (h : te σ H fun v H1 => H1 a = some (exo a C none) ∧ ∀ s', Inv X pins σ H1 s' → Q .none s') :
    PySem.wpAt (model X.prog X.w) X.A (.func body X.env) (eval (.Call (.Attribute (.Call (.Name "super" p0) [] [] p1) "__init__" p2) [e] [] p3) X.env) Q X.xe s := by
  obtain ⟨oc, od, kV, doc, pm, an, ct, osl, rfl, lk⟩ := T.lk
  obtain ⟨cF, dF, vF, sF, fl, tf, lF, hvF, hfl⟩ := T.file
  obtain ⟨cC, dC, sC, lC⟩ := T.cell
  obtain ⟨nm, q, Ns, bs, bm, sn, sub, ab, col, dd, k0, k1, k2, k3, k5, hC, hbm⟩ := O.cls
  have hcI : PySem.W.clsIn X.K C = some { name := nm, bases := bs, mro := .ref C :: bm, ns := Ns, qualname := q, hasDict := true, slotNames := sn, subclasses := sub, abstract := ab, collection := col, hasDel := false } := by unfold PySem.W.clsIn; rw [hC] <;> rfl
  have KX := I.kIn
  obtain ⟨t1, ho⟩ := exo_at I.hok ea
  obtain ⟨mb, hb1, hb2⟩ := I.mod.blt
  obtain ⟨m, hn, hlk⟩ := id I.loc
  obtain ⟨u0, ru, look⟩ := hlk 0 ar.arg (.ref a) hN ha (.inl hka)
  obtain rfl : u0 = Value.ref a := ru
  have hma : m ar.arg = some (.ref a) := by
    rcases look with ⟨_, e⟩ | ⟨k, _⟩
    · exact e
    · rw [hka] at k
      rcases k with k | k <;> cases k
  refine ks_wpAt_MethodCall (pl := pl) ?_ hc
  refine ks_wpAt_super_base hks hkc (by decide) hfu (KX _ _ lk) rfl hpar hco (KX _ _ lF) rfl hvF hfl T.top ?_
  refine PySem.W.ks_loadName_global hk hks (Calls.loadGlobal_builtin (by rw [I.ok.glob]; exact I.mod.glob.keeps I.bk) T.sup (by rw [I.ok.blt]; exact hb1.keeps I.bk) ((hb2 "super" (by decide)).trans bo_super) ⟨rfl, ?_⟩)
  refine wpAny_loadName_free hk hkc hcl ⟨_, KX _ _ lC, rfl⟩ ?_
  refine wpAny_loadName_local hk hka hn hma ?_
  obtain ⟨hp, g, d, t, os⟩ := s
  have hCo : hp.get? C = some _ := KX _ _ hC
  refine ks_wpAny_isType_cls hCo rfl ⟨rfl, ?_⟩
  refine ks_wpAny_call_super hCo rfl ho rfl (fun c z => by cases z) (PySem.W.looks_mroIn KX T.sub) (fun h' hso k => ?_)
  have I1 : Inv X pins σ H ⟨h', g, d, t, os⟩ := I.kept (t' := t) k
  have KX1 : X.K.In h' := I1.kIn
  have ho1 := k _ _ ho
  have IA : PySem.W.InstAt h' a { cls := .ref C, dict := none, data := .fields #[.ref t1, .none, .none, .none, .bool false, .none] } C none := ⟨ho1, rfl, rfl, trivial⟩
  have hf : PySem.W.alongIn X.K "__init__" (((Value.ref C :: bm).dropWhile (· != .ref C)).drop 1) = some (some (.builtin "ValueError.__init__")) := by
    have z := T.ini
    unfold PySem.W.ks_superIn at z
    rw [hcI] at z
    exact z
  refine PySem.W.kxs_getMethod PySem.W.kxs_ValueError hso (PySem.W.looks_opaque KX1 T.op) (l₀ := .ref C :: bm) (fun A Q E s k q => wpAny_bind ((PySem.W.looks_clsIn KX1 hcI) A _ E s k (wpAny_pure q))) rfl KX1 hf (IA.type.andThen (PySem.W.looks_subIn KX1 T.sve)) (PySem.W.ks_ne KX1 IA hcI) (by decide) ?_
  have k2 : ∀ b o, h'.get? b = some o → (h'.push (PySem.W.kxs_mw "ValueError.__init__" a)).get? b = some o := fun b o e => Heap.get?_push_of_some _ e
  have I2 : Inv X pins σ H ⟨h'.push (PySem.W.kxs_mw "ValueError.__init__" a), g, d, t + 1, os⟩ := I1.kept (t' := t + 1) k2
  have hu : (h'.push (PySem.W.kxs_mw "ValueError.__init__" a)).get? h'.objs.size = some (PySem.W.kxs_mw "ValueError.__init__" a) := Heap.get?_push_at rfl rfl
  have fp := I1.fpOk (H' := H) (b := h'.objs.size) (Nat.le_refl _) (I1.hok.fresh (Nat.le_refl _))
  have I3 := I2.pinned (fp := [h'.objs.size]) (fun b hb => by rw [List.mem_singleton.mp hb]; exact fp) (fun b hb => by rw [List.mem_singleton.mp hb]; exact ⟨_, hu, fun v z => by cases z⟩)
  have ha1 : PA X [e] (tCons te tNil) := pa_cons hte pa_nil hse
  have hmem : (h'.objs.size, PySem.W.kxs_mw "ValueError.__init__" a) ∈ pinsAt [h'.objs.size] (h'.push (PySem.W.kxs_mw "ValueError.__init__" a)) := mem_pinsAt (List.mem_singleton.mpr rfl) hu
  have hr := ha1.run p3 _ _ σ H (fun vs H1 => match vs with | [_] => H1 a = some (exo a C none) ∧ ∀ s', Inv X pins σ H1 s' → Q .none s' | _ => False) I3 h
  rw [hse]
  refine PySem.W.kxs_callWith (i := "ValueError.__init__") (x := a) rfl ?_
  rw [hse] at hr
  refine evalArgs_plain (thn hr fun us s1 ⟨vs, H1, J, r, q⟩ => ?_)
  match vs, r, q with
  | [v], r, ⟨eb, q⟩ =>
    have hu1 := (J.pin _ (List.mem_append_right _ (List.mem_append_right _ hmem))).1
    refine ⟨hu1, ?_⟩
    refine init_bound O J eb hu1 ?_ fun s' J' => q s' J'.unpinned
    have z := r.length
    show ([] ++ us).length ≤ sizeLine
    rw [List.nil_append, ← z, sizeLine_eq]
    exact (by decide : 1 ≤ 16777216)
/-- THE RULE: such an __init__ by the rest of its body -/
theorem fn_super {nf : NF} (hnf : nf = ⟨name, qual, params, supSt p0 p1 p2 p3 p4 e :: rest, scope, [("__class__", cc)], cda⟩) (T : SupAt P K mg f cc cda C name qual params (supSt p0 p1 p2 p3 p4 e :: rest) scope fd) (O : OexC K C) (S : NScope N ps ["__class__"] scope) (hsup : scope.names.lookup ("super" : Str) = some .globalImplicit) (hpar : (params.posonlyargs ++ params.args).head? = some ar) (hN : N[0]? = some ar.arg) (hka : scope.names.lookup ar.arg = some .local)
    (len : ∀ vs H Q E, sp vs H Q E → vs.length = ps.length)
    (hse : ∀ env, starEach [e] env = (false, eval e env) :: starEach [] env) (hc : ∀ env, ∃ pl, supEv env p0 p1 p2 p3 e pl) (hint : ∀ L, interactive (envF nf f L) = false) (hsw : ∀ env, swapsWith (.Call (.Attribute (.Call (.Name "super" p0) [] [] p1) "__init__" p2) [e] [] p3) none p4.line env = pure false)
    (hbody : ∀ (A : Around) (outer : List Env) (s : Shared) (H : Hp) (vs : List V) (Q : VK) (E : XK), Room k (A.deeper (envF nf f s.heap.objs.size)) → sp vs H Q E →
      ∃ a, vs[0]? = some (.ref a) ∧ H a = some (exo a C none) ∧ ∃ (te : TE) (Good : V → Hp → Prop), PE (ncx CX P w K mg base N nf f A outer s H E) e te ∧ (∀ Qx : VK, (∀ v H1, Good v H1 → Qx v H1) → te (startF N vs [none]) H Qx) ∧ ∀ v H1, Good v H1 → H1 a = some (exo a C none) ∧
        ∃ t, PSs (ncx CX P w K mg base N nf f A outer s H E) rest t ∧ t { nx := fun _ H' => Q .non H', rt := Q } (startF N vs [none]) H1) :
    FnOk P w K mg base CX (k + 1) f fd ps sp := by
  refine ⟨len, fun A outer s H args us vs Q E hr e0 hb r hsp => ?_⟩
  have hl := len _ _ _ _ hsp
  have KX : K.In s.heap := e0.mod.kin.keeps fun b o e => (e0.bs b o e).1
  have lim : s.heap.NoLimit := e0.mod.nolimit.keeps fun b o e => (e0.bs b o e).1
  have T' := T
  obtain ⟨oc, od, kV, doc, pm, an, ct, osl, rfl, lk⟩ := T.lk
  obtain ⟨cC, dC, sC, lC⟩ := T.cell
  refine codeAny_call_function hr.depth (KX _ _ lk) rfl S.co S.gen rfl (PySem.W.codeRec_of KX T.cd) (hb _ _ _ _ ?_)
  refine wpAny_newFunctionEnv S.nocell (fun ⟨n, _⟩ hy => S.par n (List.of_mem_zip hy).1) (fun h₁ hns hsb => ⟨lim.fresh _ hsb, ?_⟩) S.kind
  have kp : ∀ b o, s.heap.get? b = some o → h₁.get? b = some o := fun b o e => hsb.extBut b o (Nat.ne_of_lt (Heap.lt_size e)) (Heap.get?_push_of_some _ e)
  have one : ∀ y c, List.lookup y [(("__class__" : Str), cc)] = some c → y = "__class__" ∧ c = cc := fun y c h => by
    by_cases hy : y = "__class__"
    · subst hy
      have z : cc = c := by simpa [List.lookup] using h
      exact ⟨rfl, z.symm⟩
    · have hb : (y == ("__class__" : Str)) = false := by simpa using hy
      simp [List.lookup, hb] at h
  have CA : CellsAt nf.cl ["__class__"] [none] s.heap H := by
    subst hnf
    refine ⟨rfl, fun y c h => ?_, fun x y c h1 h2 => (one x c h1).1.trans (one y c h2).1.symm, fun i y h => ?_⟩
    · obtain ⟨_, rfl⟩ := one y c h
      exact ⟨(e0.bs _ _ (e0.mod.kin _ _ lC)).2, some (.ref C), ⟨_, KX _ _ lC, rfl⟩⟩
    · cases i with
      | zero =>
        have h : ("__class__" : Str) = y := by simpa using h
        subst h
        exact ⟨cc, by simp [List.lookup], fun v h => by simp at h⟩
      | succ i => simp at h
  have eS : nf.scope = scope := by rw [hnf]
  have I : Inv (ncx CX P w K mg base N nf f A outer s H E) [] (startF N vs [none]) H { s with heap := h₁, toks := s.toks + (ps.zip us).length } := inv_startN (by rw [eS]; exact S) hr.hd e0 hl r CA hns kp
  obtain ⟨a, ha, ea, te, Good, hte, hmo, q⟩ := hbody A outer s H vs Q E (by subst hnf; exact hr.deeper _) hsp
  have ha' : (startF N vs [none])[0]? = some (some (.ref a)) := by
    unfold startF
    cases vs with
    | nil => simp at ha
    | cons v vs =>
      have ha : v = .ref a := by simpa using ha
      subst ha
      rfl
  subst hnf
  show codeAny _ _ (.func (supSt p0 p1 p2 p3 p4 e :: rest) (envF ⟨name, qual, params, supSt p0 p1 p2 p3 p4 e :: rest, scope, [("__class__", cc)], cda⟩ f s.heap.objs.size)) _ _
  refine ks_codeAny_funcAt ?_
  refine ks_wpAt_execs_cons (ks_wpAt_Expr_any ?_ (hint _) (hsw _))
  obtain ⟨pl, hpl⟩ := hc (envF ⟨name, qual, params, supSt p0 p1 p2 p3 p4 e :: rest, scope, [("__class__", cc)], cda⟩ f s.heap.objs.size)
  refine at_super (X := ncx CX P w K mg base N ⟨name, qual, params, supSt p0 p1 p2 p3 p4 e :: rest, scope, [("__class__", cc)], cda⟩ f A outer s H E) T' O I S.kind hsup (S.frk _ (List.mem_singleton.mpr rfl)) hka rfl rfl (by show List.lookup ("__class__" : Str) [(("__class__" : Str), cc)] = some cc; simp [List.lookup]) hN hpar ha' ea hte (hse _) hpl ?_
  refine hmo _ fun v H1 hg => ?_
  obtain ⟨eb, t, ht, hq⟩ := q v H1 hg
  refine ⟨eb, fun s1 J => wpAt_of_wpAny ?_⟩
  refine wpAny_mono (ht.run [] s1 _ H1 _ J hq) (fun fl s' hs => ?_) fun e s' hs => hs
  have fin : ∀ {σ' : L2.St} {H' : Hp} {v : V} {u : Value}, Inv (ncx CX P w K mg base N ⟨name, qual, params, supSt p0 p1 p2 p3 p4 e :: rest, scope, [("__class__", cc)], cda⟩ f A outer s H E) [] σ' H' s' → L2.RelV v u → Q v H' → CE outer P w H s Q u s' :=
    fun {σ' H' v u} J rv q => ⟨v, H', J.os, J.bare, J.base, J.hok, rv, q⟩
  cases fl with
  | ret u =>
    obtain ⟨v, σ', H', J, rv, q⟩ := hs
    exact fin J rv q
  | next =>
    obtain ⟨σ', H', J, q⟩ := hs
    exact fin (v := V.non) (u := Value.none) J rfl q
  | brk =>
    obtain ⟨_, _, _, q⟩ := hs
    exact False.elim q
  | cont =>
    obtain ⟨_, _, _, q⟩ := hs
    exact False.elim q
end
end Lk

set_option Elab.async false
set_option linter.all false
set_option maxRecDepth 100000
set_option maxHeartbeats 4000000
namespace Lk
open PySem PySem.Calls L2 PySem.Spec PyProof.Rows
/-! ### a list or a tuple; numbers -/
def sq (b : Bool) (l : List As) : As := if b then lstA l else tupA l
abbrev nat (n : Nat) : As := int (n : Int)
/-! ### dicts with numbers as keys -/
def kI (k : Int) : Key := Sum.inl k
def diA (l : List (Int × As)) : As := ⟨fun F v => ∃ a vs, v = .ref a ∧ F a = some (.dK ((l.map fun x => kI x.1).zip vs)) ∧ AllV F vs (l.map Prod.snd), fun e ⟨a, vs, h1, h2, h3⟩ => ⟨a, vs, h1, e a _ h2, h3.mono e⟩⟩
theorem kI_inj (x y : Int) (h : kI x = kI y) : x = y := by
  unfold kI at h
  simpa using h
/-- in its place, or at the end -/
def putA (l : List (Int × As)) (k : Int) (A : As) : List (Int × As) := if (l.any fun x => decide (x.1 = k)) = true then l.map (fun x => if x.1 = k then (x.1, A) else x) else l ++ [(k, A)]
theorem zip_any (k : Int) : ∀ {l : List (Int × As)} {vs : List V}, vs.length = l.length → (((l.map fun x => kI x.1).zip vs).any fun kv => decide (kv.1 = kI k)) = l.any fun x => decide (x.1 = k)
  | [], vs, _ => by simp
  | x :: l, v :: vs, h => by
    rw [List.map_cons, List.zip_cons_cons, List.any_cons, List.any_cons, zip_any k (l := l) (vs := vs) (by simpa using h)]
    congr 1
    by_cases e : x.1 = k
    · rw [e]; simp
    · rw [decide_eq_false e, decide_eq_false fun z => e (kI_inj _ _ z)]
  | _ :: _, [], h => by simp at h
theorem putK_zip {F : Hp} {k : Int} {A : As} {v : V} (hv : A.p F v) : ∀ {l : List (Int × As)} {vs : List V}, AllV F vs (l.map Prod.snd) → ∃ us, putK ((l.map fun x => kI x.1).zip vs) (kI k) v = ((putA l k A).map fun x => kI x.1).zip us ∧ AllV F us ((putA l k A).map Prod.snd) := by
  intro l vs h
  have hl : vs.length = l.length := by rw [h.length, List.length_map]
  unfold putK putA
  rw [zip_any k hl]
  by_cases c : (l.any fun x => decide (x.1 = k)) = true
  · rw [if_pos c, if_pos c]
    clear c
    induction l generalizing vs with
    | nil =>
      cases vs with
      | nil => exact ⟨[], rfl, trivial⟩
      | cons _ _ => exact h.elim
    | cons x l ih =>
      cases vs with
      | nil => exact h.elim
      | cons u vs =>
        obtain ⟨us, e1, e2⟩ := ih (vs := vs) h.2 (by simpa using hl)
        by_cases e : x.1 = k
        · refine ⟨v :: us, ?_, ?_⟩
          · rw [List.map_cons, List.zip_cons_cons, List.map_cons, List.map_cons, List.map_cons, e1]
            rw [if_pos (show kI x.1 = kI k by rw [e]), if_pos e, List.zip_cons_cons]
          · rw [List.map_cons, if_pos e, List.map_cons]
            exact ⟨hv, e2⟩
        · refine ⟨u :: us, ?_, ?_⟩
          · rw [List.map_cons, List.zip_cons_cons, List.map_cons, List.map_cons, List.map_cons, e1]
            rw [if_neg (fun z => e (kI_inj _ _ z)), if_neg e, List.zip_cons_cons]
          · rw [List.map_cons, if_neg e, List.map_cons]
            exact ⟨h.1, e2⟩
  · rw [if_neg c, if_neg c]
    refine ⟨vs ++ [v], ?_, ?_⟩
    · rw [List.map_append, List.zip_append (by rw [List.length_map, hl])]
      rfl
    · rw [List.map_append]
      exact h.snoc hv
theorem putA_len (l : List (Int × As)) (k : Int) (A : As) : (putA l k A).length ≤ l.length + 1 := by
  unfold putA
  split
  · rw [List.length_map]; omega
  · rw [List.length_append, List.length_cons, List.length_nil]; exact Nat.le_refl _
section
variable {α : Type}
/-- what a dict comprehension makes -/
def dcA (l : List α) (kf : α → Int) (g : α → As) : List (Int × As) := l.foldl (fun acc a => putA acc (kf a) (g a)) []
theorem dcA_len (kf : α → Int) (g : α → As) : ∀ (l : List α) (acc : List (Int × As)), (l.foldl (fun acc a => putA acc (kf a) (g a)) acc).length ≤ acc.length + l.length
  | [], _ => Nat.le_refl _
  | a :: l, acc => by
    have h1 := dcA_len kf g l (putA acc (kf a) (g a))
    have h2 := putA_len acc (kf a) (g a)
    rw [List.foldl_cons, List.length_cons]
    omega
theorem dcA_snoc (l : List α) (a : α) (kf : α → Int) (g : α → As) : dcA (l ++ [a]) kf g = putA (dcA l kf g) (kf a) (g a) := by
  unfold dcA
  rw [List.foldl_append]
  rfl
structure Dcs (F1 H1 : Hp) (D : Addr) (l : List α) (p : α → Bool) (kf : α → Int) (g : α → As) (i : Nat) (H' : Hp) : Prop where
  ex : ∃ F' vs, Gr F1 H1 F' H' ∧ F' D = none ∧ H' D = some (.dK (((dcA ((l.take i).filter p) kf g).map fun x => kI x.1).zip vs)) ∧ AllV F' vs ((dcA ((l.take i).filter p) kf g).map Prod.snd)
def tKc (ρ : α → List En) (l : List α) (p : α → Bool) (kf : α → Int) : TE := fun σ H Q => ∃ a, a ∈ l ∧ p a = true ∧ tA (ρ a) (int (kf a)) σ H Q
theorem pe_kc {X : Cx} {e : Expr} {ρ : α → List En} {l : List α} {p : α → Bool} {kf : α → Int} (h : ∀ a ∈ l, p a = true → EA X e (ρ a) (int (kf a))) : PE X e (tKc ρ l p kf) := ⟨fun pins s σ H Q I ⟨a, ha, hp, q⟩ => (h a ha hp).run pins s σ H Q I q⟩
theorem dcs_turn {F1 H1 : Hp} {D : Addr} {l : List α} {p : α → Bool} {kf : α → Int} {g : α → As} {i : Nat} {H' H0 : Hp} {σ : L2.St} {j : Nat} {ρ : List En} {enc : α → As} {x : V} {vs : List Nat} {a : α} (hj : j ∈ vs) (ha : l[i]? = some a) (hz : l.length < sizeLine)
    (S : Sat H0 F1 σ H1 ρ) (hx : (enc a).p F1 x) (L : Dcs F1 H1 D l p kf g i H') (hD : H1 D = none) :
    gName j x (L2.wipe σ vs) H' fun σ2 H2 => L2.wipe σ2 vs = L2.wipe σ vs ∧ tTc (fun a => (wipeE ρ vs).set j (.fr (enc a))) l p σ2 H2 fun b H3 =>
      if b = true then tKc (fun a => (wipeE ρ vs).set j (.fr (enc a))) l p kf σ2 H3 fun y H4 => tEc (fun a => (wipeE ρ vs).set j (.fr (enc a))) l p g σ2 H4 fun z H5 => ∃ kvs k, y = kV k ∧ H5 D = some (.dK kvs) ∧ kvs.length < sizeLine ∧ Dcs F1 H1 D l p kf g (i + 1) (upd H5 D (.dK (putK kvs k z))) else Dcs F1 H1 D l p kf g (i + 1) H3 := by
  obtain ⟨F', us, G, fD, hDl, hall⟩ := L.ex
  have hi : i < l.length := (List.getElem?_eq_some_iff.mp ha).1
  have mem : a ∈ l := List.mem_of_getElem? ha
  have tk : l.take (i + 1) = l.take i ++ [a] := by
    rw [List.take_add_one, ha]
    rfl
  refine ⟨wipe_set hj, a, mem, H0, F', ((S.gr G).wipe vs).set ((enc a).mono G.f hx), fun H3 F3 g3 => ?_⟩
  have GD : Gr F1 H1 F3 H3 := G.trans g3
  have f3 : F3 D = none := g3.n D _ hDl fD
  have h3 : H3 D = some _ := g3.h D _ hDl
  cases hp : p a with
  | false =>
    refine ⟨F3, us, GD, f3, ?_, ?_⟩
    · rw [tk, List.filter_append, List.filter_cons, hp]
      simpa using h3
    · rw [tk, List.filter_append, List.filter_cons, hp]
      simpa using hall.mono g3.f
  | true =>
    refine ⟨a, mem, hp, H0, F3, ((S.gr GD).wipe vs).set ((enc a).mono GD.f hx), fun y H4 F4 g4 hy => ?_⟩
    have hy : y = .int (kf a) := hy
    subst hy
    have GE := GD.trans g4
    refine ⟨a, mem, hp, H0, F4, ((S.gr GE).wipe vs).set ((enc a).mono GE.f hx), fun z H5 F5 g5 hz5 => ?_⟩
    have f4 : F4 D = none := g4.n D _ h3 f3
    have h4 : H4 D = some _ := g4.h D _ h3
    have f5 : F5 D = none := g5.n D _ h4 f4
    have h5 : H5 D = some _ := g5.h D _ h4
    refine ⟨_, kI (kf a), rfl, h5, ?_, ?_⟩
    · have q := dcA_len kf g ((l.take i).filter p) []
      have q2 := List.length_filter_le p (l.take i)
      rw [List.length_take] at q2
      rw [List.length_zip, List.length_map]
      have q3 : (dcA ((l.take i).filter p) kf g).length ≤ ((l.take i).filter p).length := by simpa [dcA] using q
      omega
    · have GF := GE.trans g5
      obtain ⟨us', e1, e2⟩ := putK_zip (k := kf a) hz5 ((hall.mono (g3.f.trans g4.f)).mono g5.f)
      refine ⟨F5, us', ⟨GF.f, fun b o q => ?_, fun b o q => ?_, GF.n⟩, f5, ?_, ?_⟩
      · rw [upd_ne (ne_of_none q hD)]
        exact GF.h b o q
      · rw [upd_ne (ne_of_none q f5)]
        exact GF.i b o q
      · rw [upd_same, e1, tk, List.filter_append, show List.filter p [a] = [a] by simp [hp], dcA_snoc]
      · rw [tk, List.filter_append, show List.filter p [a] = [a] by simp [hp], dcA_snoc]
        exact e2
section
variable {X : Cx} {ρ : List En} {pos : Pos} {kx vx it : Expr} {ifs : List Expr} {scope : Scope}
theorem tdc_src {own : List (Str × Nat)} {j : Nat} {l : List α} {enc : α → As} {p : α → Bool} {kf : α → Int} {g : α → As} {σ : L2.St} {H : Hp} {Q : VK} (hj : j ∈ own.map (·.2)) (hz : l.length < sizeLine) (h : tA ρ (diA (dcA (l.filter p) kf g)) σ H Q) :
    tDc (iS ρ (l.map enc)) (gName j) (tTc (fun a => (wipeE ρ (own.map (·.2))).set j (.fr (enc a))) l p) (tKc (fun a => (wipeE ρ (own.map (·.2))).set j (.fr (enc a))) l p kf) (tEc (fun a => (wipeE ρ (own.map (·.2))).set j (.fr (enc a))) l p g) (own.map (·.2)) σ H Q := by
  obtain ⟨H0, F, S, k⟩ := h
  refine ⟨H0, F, S, fun J So xs H1 F1 g1 h2 hJ hS D hD => ?_⟩
  have hlen : xs.length = l.length := by rw [h2.length, List.length_map]
  refine it_walk (xs := xs) hJ (fun i H' => Dcs F1 H1 D l p kf g i H') ⟨F1, [], .newH g1.i hD, g1.i.none hD, by simp [dcA, upd_same], by simp [AllV, dcA]⟩ (fun i H' _ L => ?_) (fun i x H' hx L => ?_) (fun H' L => ?_)
  · obtain ⟨F', acc, G, _⟩ := L.ex
    exact hS H' (G.f.trans G.i)
  · have hi : i < l.length := by
      have z := (List.getElem?_eq_some_iff.mp hx).1
      omega
    have ha : l[i]? = some l[i] := List.getElem?_eq_getElem hi
    obtain ⟨u, hu, hA⟩ := h2.get (i := i) (A := enc l[i]) (by rw [List.getElem?_map, ha]; rfl)
    rw [hx] at hu
    have e : x = u := by simpa using hu
    subst e
    exact dcs_turn hj ha hz (S.gr g1) hA L hD
  · rw [hlen] at L
    obtain ⟨F', us, G, fD, hDl, hall⟩ := L.ex
    rw [List.take_length] at hall hDl
    have G' := g1.trans G
    exact k _ H' _ (G'.take (g1.h.none hD) fD hDl) ⟨D, us, rfl, upd_same, hall.mono (Ex.new fD)⟩
/-- {k: v for x in .. if ..}, keys numbers -/
theorem ea_dc {own : List (Str × Nat)} (j : Nat) {x : Str} {px : Pos} {l : List α} {enc : α → As} {p : α → Bool} {kf : α → Int} {g : α → As} (hc : X.calm = true) (hN : X.N.Nodup) (hi : ES X (.Name x px) it ρ (l.map enc)) (hz : l.length < sizeLine) (ok : BlkOk X.N X.env.scope scope own)
    (hg : ∀ (s : Shared) (H : Hp) (C : Addr) (cl : List (Str × Addr)) (fp : List Addr), PG (X.blk s H scope (compEnvC scope cl C X.env) fp) (.Name x px) (gName j))
    (ht : ∀ (s : Shared) (H : Hp) (C : Addr) (cl : List (Str × Addr)) (fp : List Addr), ∀ a ∈ l, PTs (X.blk s H scope (compEnvC scope cl C X.env) fp) ifs (tTs ((wipeE ρ (own.map (·.2))).set j (.fr (enc a))) (p a)))
    (hk : ∀ (s : Shared) (H : Hp) (C : Addr) (cl : List (Str × Addr)) (fp : List Addr), ∀ a ∈ l, p a = true → EA (X.blk s H scope (compEnvC scope cl C X.env) fp) kx ((wipeE ρ (own.map (·.2))).set j (.fr (enc a))) (int (kf a)))
    (he : ∀ (s : Shared) (H : Hp) (C : Addr) (cl : List (Str × Addr)) (fp : List Addr), ∀ a ∈ l, p a = true → EA (X.blk s H scope (compEnvC scope cl C X.env) fp) vx ((wipeE ρ (own.map (·.2))).set j (.fr (enc a))) (g a))
    (hj : j ∈ own.map (·.2) := by decide) (hs : ∀ z, foldedSetIterable it X.env z = pure z := by intro _; rfl) :
    EA X (.DictComp kx vx [⟨.Name x px, it, ifs, 0⟩] scope pos) ρ (diA (dcA (l.filter p) kf g)) :=
  pe_imp (pe_dc (own := own) hc hN hi ok hg (fun s H C cl fp => pts_c (ht s H C cl fp)) (fun s H C cl fp => pe_kc (hk s H C cl fp)) (fun s H C cl fp => pe_c (he s H C cl fp)) hs) fun σ H Q h => tdc_src hj hz h
theorem sw_trueD {gs : List Comprehension} {py : Pos} {y : Str} {l : Nat} {env : Env} (hk : env.scope.kind = .function) (hy : env.scope.names.lookup y = some .local) (hl : (py.line == pos.line) = true)
    (ha : (scope.names.any fun (n, k) => n == y && (k == .local || k == .cell)) = false) : swapsWith (.DictComp kx vx gs scope pos) (some (.Name y py)) l env = pure true := by
  have ky : env.kindOf y = some .local := hy
  have hb : env.blockKind = .function := by unfold Env.blockKind; rw [hk]; rfl
  unfold swapsWith
  simp only [hb, ky, ha, Expr.pos, hl]
  rfl
/-- name = {..} on one line, the name a local -/
theorem ps_setDc {i : Nat} {y : Str} {py : Pos} {tg iter : Expr} {own : List (Str × Nat)} {spos : Pos} {wi : TI} {g : TG} {tt : TT} {tk tv : TE} (hc : X.calm = true) (hN : X.N.Nodup) (hy : X.N[i]? = some y) (hyl : X.env.scope.names.lookup y = some .local)
    (hsw : swapsWith (.DictComp kx vx [⟨tg, iter, ifs, 0⟩] scope pos) (some (.Name y py)) spos.line X.env = pure true) (hi : PI X tg iter wi) (ok : BlkOk X.N X.env.scope scope own)
    (hg : ∀ (s : Shared) (H : Hp) (C : Addr) (cl : List (Str × Addr)) (fp : List Addr), PG (X.blk s H scope (compEnvC scope cl C X.env) fp) tg g) (ht : ∀ (s : Shared) (H : Hp) (C : Addr) (cl : List (Str × Addr)) (fp : List Addr), PTs (X.blk s H scope (compEnvC scope cl C X.env) fp) ifs tt)
    (hk : ∀ (s : Shared) (H : Hp) (C : Addr) (cl : List (Str × Addr)) (fp : List Addr), PE (X.blk s H scope (compEnvC scope cl C X.env) fp) kx tk)
    (he : ∀ (s : Shared) (H : Hp) (C : Addr) (cl : List (Str × Addr)) (fp : List Addr), PE (X.blk s H scope (compEnvC scope cl C X.env) fp) vx tv) (hs : ∀ x, foldedSetIterable iter X.env x = pure x := by intro _; rfl) :
    PS X (.Assign [.Name y py] (.DictComp kx vx [⟨tg, iter, ifs, 0⟩] scope pos) spos) (tAsg (tDc wi g tt tk tv (own.map (·.2))) (gName i)) := by
  refine ⟨fun pins s σ H D I h => ?_⟩
  rw [exec_Assign_Name_used _ _ _ _ hsw]
  refine wpAny_bind (wpAny_standAt (wpAny_bind ?_))
  show wpAny _ X.A (do let _ ← comprehension (.DictComp kx vx [⟨tg, iter, ifs, 0⟩] scope pos) scope X.env (firstIterPos [⟨tg, iter, ifs, 0⟩] pos) newDict false (eval iter X.env) (some (assign (.Name y py) X.env))) _ _ s
  have h : tDc wi g tt tk tv (own.map (·.2)) σ H (fun x H1 => gName i x σ H1 D.nx) := h
  refine wpAny_bind (thn (dc_core (Qf := fun _ s' => SP X pins D .next s') hc hN I hi ok hg ht hk he hs h fun L C s' m H' I' q hn f => ?_) fun _ s' hq => wpAny_pure (wpAny_pure hq))
  show wpAny _ _ (assign (.Name y py) X.env (.ref L)) _ _ _
  refine wpAny_assign_Name (store_ok2 (v := V.ref L) I' hN hy (.inl hyl) rfl (fun s2 I2 ⟨a, sb, ha⟩ => ?_) (.inr hyl))
  obtain ⟨f0, f1, f2, f3, f4, f5⟩ := f
  have haC : C ≠ a := by
    rcases ha with z | z
    · rw [z]; exact f1
    · exact fun e => f4 y a z e.symm
  refine ⟨m, hn.sameBut sb haC, fun h3 sb3 => ?_⟩
  exact ⟨_, H', I2.turned (t' := s2.toks) (fun b o hb e => (sb3.2 b hb).trans e) f0 f1 f3 f4 f5, q⟩
theorem sa_setDc {own : List (Str × Nat)} {Nx : List En → Prop} {W : Wn} {spos : Pos} (i j : Nat) {x y : Str} {px py : Pos} {l : List α} {enc : α → As} {p : α → Bool} {kf : α → Int} {g : α → As} (hc : X.calm = true) (hN : X.N.Nodup) (hi : ES X (.Name x px) it ρ (l.map enc)) (hz : l.length < sizeLine) (ok : BlkOk X.N X.env.scope scope own)
    (hg : ∀ (s : Shared) (H : Hp) (C : Addr) (cl : List (Str × Addr)) (fp : List Addr), PG (X.blk s H scope (compEnvC scope cl C X.env) fp) (.Name x px) (gName j))
    (ht : ∀ (s : Shared) (H : Hp) (C : Addr) (cl : List (Str × Addr)) (fp : List Addr), ∀ a ∈ l, PTs (X.blk s H scope (compEnvC scope cl C X.env) fp) ifs (tTs ((wipeE ρ (own.map (·.2))).set j (.fr (enc a))) (p a)))
    (hk : ∀ (s : Shared) (H : Hp) (C : Addr) (cl : List (Str × Addr)) (fp : List Addr), ∀ a ∈ l, p a = true → EA (X.blk s H scope (compEnvC scope cl C X.env) fp) kx ((wipeE ρ (own.map (·.2))).set j (.fr (enc a))) (int (kf a)))
    (he : ∀ (s : Shared) (H : Hp) (C : Addr) (cl : List (Str × Addr)) (fp : List Addr), ∀ a ∈ l, p a = true → EA (X.blk s H scope (compEnvC scope cl C X.env) fp) vx ((wipeE ρ (own.map (·.2))).set j (.fr (enc a))) (g a))
    (k : Nx (ρ.set i (.fr (diA (dcA (l.filter p) kf g))))) (hy : X.N[i]? = some y := by rfl) (hyl : X.env.scope.names.lookup y = some .local := by rfl)
    (hsw : swapsWith (.DictComp kx vx [⟨.Name x px, it, ifs, 0⟩] scope pos) (some (.Name y py)) spos.line X.env = pure true := by exact sw_trueD rfl rfl rfl (by decide +kernel))
    (hj : j ∈ own.map (·.2) := by decide) (hs : ∀ z, foldedSetIterable it X.env z = pure z := by intro _; rfl) :
    SA X (.Assign [.Name y py] (.DictComp kx vx [⟨.Name x px, it, ifs, 0⟩] scope pos) spos) ρ Nx W :=
  ps_imp (ps_setDc (own := own) (i := i) hc hN hy hyl hsw hi ok hg (fun s H C cl fp => pts_c (ht s H C cl fp)) (fun s H C cl fp => pe_kc (hk s H C cl fp)) (fun s H C cl fp => pe_c (he s H C cl fp)) hs) fun D σ H ⟨F0, H0, F, g0, S, q, _⟩ =>
    tdc_src hj hz ⟨H0, F, S, fun v H' F' g' hv => q _ _ H' F' k (g0.trans g') ((S.gr g').set hv)⟩
end
end
end Lk

set_option Elab.async false
set_option linter.all false
set_option maxRecDepth 100000
set_option maxHeartbeats 4000000
namespace Lk
open PySem PySem.Calls L2 PySem.Spec PyProof.Rows
/-! ### the keys that a dict comprehension makes -/
theorem putA_keys (l : List (Int × As)) (k : Int) (A : As) : (putA l k A).map Prod.fst = if k ∈ l.map Prod.fst then l.map Prod.fst else l.map Prod.fst ++ [k] := by
  unfold putA
  by_cases c : (l.any fun x => decide (x.1 = k)) = true
  · have m : k ∈ l.map Prod.fst := by
      obtain ⟨x, hx, e⟩ := List.any_eq_true.mp c
      exact List.mem_map.mpr ⟨x, hx, of_decide_eq_true e⟩
    rw [if_pos c, if_pos m, List.map_map]
    refine List.map_congr_left fun x _ => ?_
    show (if x.1 = k then (x.1, A) else x).1 = x.1
    split <;> rfl
  · have m : ¬ k ∈ l.map Prod.fst := fun z => by
      obtain ⟨x, hx, e⟩ := List.mem_map.mp z
      exact c (List.any_eq_true.mpr ⟨x, hx, decide_eq_true e⟩)
    rw [if_neg c, if_neg m, List.map_append]
    rfl
/-- each of them once, as they come first -/
def onceF (ks : List Int) : List Int := ks.foldl (fun acc k => if k ∈ acc then acc else acc ++ [k]) []
theorem dcA_keys {α : Type} (kf : α → Int) (g : α → As) : ∀ (l : List α) (acc : List (Int × As)), (l.foldl (fun acc a => putA acc (kf a) (g a)) acc).map Prod.fst = (l.map kf).foldl (fun acc k => if k ∈ acc then acc else acc ++ [k]) (acc.map Prod.fst)
  | [], _ => rfl
  | a :: l, acc => by rw [List.foldl_cons, dcA_keys kf g l, List.map_cons, List.foldl_cons, putA_keys]
theorem dcA_fst {α : Type} (l : List α) (kf : α → Int) (g : α → As) : (dcA l kf g).map Prod.fst = onceF (l.map kf) := dcA_keys kf g l []
theorem onceF_go : ∀ (ks acc : List Int), acc.Nodup → (ks.foldl (fun acc k => if k ∈ acc then acc else acc ++ [k]) acc).Nodup ∧ ∀ x, x ∈ ks.foldl (fun acc k => if k ∈ acc then acc else acc ++ [k]) acc ↔ x ∈ acc ∨ x ∈ ks
  | [], acc, h => ⟨h, fun x => by simp⟩
  | k :: ks, acc, h => by
    rw [List.foldl_cons]
    by_cases m : k ∈ acc
    · rw [if_pos m]
      obtain ⟨h1, h2⟩ := onceF_go ks acc h
      refine ⟨h1, fun x => ?_⟩
      rw [h2, List.mem_cons]
      constructor
      · rintro (z | z)
        · exact .inl z
        · exact .inr (.inr z)
      · rintro (z | z | z)
        · exact .inl z
        · exact .inl (z ▸ m)
        · exact .inr z
    · rw [if_neg m]
      obtain ⟨h1, h2⟩ := onceF_go ks (acc ++ [k]) (List.nodup_append.mpr ⟨h, by simp, fun a ha b hb e => m (by
        have hb : b = k := by simpa using hb
        rw [← hb, ← e]; exact ha)⟩)
      refine ⟨h1, fun x => ?_⟩
      rw [h2, List.mem_append, List.mem_singleton, List.mem_cons]
      constructor
      · rintro ((z | z) | z)
        · exact .inl z
        · exact .inr (.inl z)
        · exact .inr (.inr z)
      · rintro (z | z | z)
        · exact .inl (.inl z)
        · exact .inl (.inr z)
        · exact .inr z
theorem onceF_nodup (ks : List Int) : (onceF ks).Nodup := (onceF_go ks [] List.nodup_nil).1
theorem onceF_mem (ks : List Int) (x : Int) : x ∈ onceF ks ↔ x ∈ ks := by
  rw [onceF, (onceF_go ks [] List.nodup_nil).2]
  simp
theorem look_isSome (k : Int) : ∀ l : List (Int × As), (l.lookup k).isSome = decide (k ∈ l.map Prod.fst)
  | [] => by simp
  | x :: l => by
    obtain ⟨a, A⟩ := x
    rw [List.map_cons]
    by_cases h : k = a
    · subst h; simp [List.lookup]
    · have hb : (k == a) = false := by simpa using h
      rw [List.lookup, hb]
      show (List.lookup k l).isSome = _
      rw [look_isSome k l, Bool.eq_iff_iff]
      simp [h]
theorem dget_i {H : Hp} {F : Hp} {a : Addr} {l : List (Int × As)} {vs : List V} (k : Int) (e : Ex F H) (h : F a = some (.dK ((l.map fun x => kI x.1).zip vs))) : DGet H a (.int k) (valV ((l.map fun x => kI x.1).zip vs) (kI k)) := DGet.k (k := Sum.inl k) (e a _ h)
section
variable {X : Cx} {e a b c o i : Expr} {es : List Expr} {ρ : List En} {A B : As} {pos apos : Pos} {k : Nat}
theorem et_inI {l : List (Int × As)} {s : Int} (hr : Room k X.A) (hi : EW X i ρ (int s)) (ho : EA X o ρ (diA l)) (hm : behindInMarks .In o = false) : ET X (.Compare i [.In] [o] pos) ρ (l.lookup s).isSome :=
  pt_imp (pt_cmp (pc_din (hu_of hr) hi ho) hm) fun σ H Q ⟨H0, F, S, q⟩ => ⟨H0, F, S, fun y H1 F1 g1 hy => ⟨H0, F1, S.gr g1, fun v H2 F2 g2 ⟨p, vs, ev, h1, h2⟩ => by
    have hy : y = .int s := hy
    subst hy
    refine ⟨p, _, ev, dget_i (F := F2) s g2.i h1, ?_⟩
    have z : (valV ((l.map fun x => kI x.1).zip vs) (kI s)).isSome = (l.lookup s).isSome := by
      cases hl : l.lookup s with
      | none =>
        rw [valV_nozip (r := kI) kI_inj h2 hl]
        rfl
      | some A =>
        obtain ⟨u, hu, _⟩ := valV_zip (r := kI) kI_inj h2 hl
        rw [hu]; rfl
    rw [z]
    exact ⟨_, rfl, q H2 F2 (g1.trans g2)⟩⟩⟩
/-- d[k] -/
theorem ea_getI {l : List (Int × As)} {s : Int} (hr : Room k X.A) (ho : EA X o ρ (diA l)) (hi : EW X i ρ (int s)) (hl : l.lookup s = some A) (hs : NoSl i := by exact fun _ _ => rfl) : EA X (.Subscript o i pos) ρ A :=
  pe_imp (pe_dget (hu_of hr) ho hi hs) fun σ H Q ⟨H0, F, S, q⟩ => ⟨H0, F, S, fun v H1 F1 g1 ⟨p, vs, ev, h1, h2⟩ => ⟨H0, F1, S.gr g1, fun y H2 F2 g2 hy => by
    have hy : y = .int s := hy
    subst hy
    obtain ⟨u, hu, hA⟩ := valV_zip (r := kI) kI_inj (h2.mono g2.f) hl
    exact ⟨p, u, ev, hu ▸ dget_i (F := F2) s g2.i (g2.f p _ h1), q u H2 F2 (g1.trans g2) hA⟩⟩⟩
theorem bo_sorted : bootBuiltins ("sorted" : Str) = some (.builtin "sorted") := by decide +kernel
theorem asc_uniq : ∀ {a b : List Int}, a.Perm b → a.Pairwise (· ≤ ·) → b.Pairwise (· ≤ ·) → a = b
  | [], b, p, _, _ => (List.nil_perm.mp p).symm
  | x :: a, [], p, _, _ => absurd p.symm (by intro z; have := List.nil_perm.mp z; cases this)
  | x :: a, y :: b, p, h1, h2 => by
    have hxy : x = y := by
      have m1 : x ∈ y :: b := p.mem_iff.mp List.mem_cons_self
      have m2 : y ∈ x :: a := p.mem_iff.mpr List.mem_cons_self
      rcases List.mem_cons.mp m1 with e | m1
      · exact e
      · rcases List.mem_cons.mp m2 with e | m2
        · exact e.symm
        · have q1 := (List.pairwise_cons.mp h1).1 y m2
          have q2 := (List.pairwise_cons.mp h2).1 x m1
          omega
    subst hxy
    rw [asc_uniq (List.Perm.cons_inv p) (List.pairwise_cons.mp h1).2 (List.pairwise_cons.mp h2).2]
/-- sorted(xs), numbers: ys the list in ascending order -/
theorem en_sorted {p : Pos} {ns ys : List Int} (ha : EL X a ρ (ns.map int)) (hp : ys.Perm ns) (hs2 : ys.Pairwise (· ≤ ·)) (hm : X.mg "sorted" = none) (hg : Gl X "sorted" := by rfl) (hs : starEach [a] X.env = (false, eval a X.env) :: starEach [] X.env := by rfl) (hpl : (backTo pos (starEach [] X.env)).any (·.1) = false := by rfl) :
    EN X (.Call (.Name "sorted" p) [a] [] pos) ρ (ys.map int) :=
  pe_imp (pe_callB cr_sortedI hg hm bo_sorted (pa_cons ha pa_nil hs) (he := hs) (hpl := hpl)) fun σ H Q ⟨H0, F, S, k⟩ => ⟨H0, F, S, fun x xs H1 F1 g1 h1 h2 => by
    have e : xs = ns.map V.int := AllV.scs (F := F1) (by rw [List.map_map]; exact h2)
    subst e
    refine ⟨x, ns, rfl, SqL.of h1, fun ns' q pm sr hq => ?_⟩
    obtain rfl : ns' = ys := asc_uniq (pm.trans hp.symm) sr hs2
    refine k q _ _ F1 (g1.trans (.newH g1.i hq)) (g1.h.none hq) (g1.i.none hq) upd_same ?_
    have z := AllV.of_scs (F := F1) (cs := ns'.map V.int)
    rw [List.map_map] at z
    exact z⟩
/-! ### a comprehension over the keys of a dict -/
def wipeAll (n : Nat) : List En := List.replicate n En.no
theorem wipeAll_no {n i : Nat} {e : En} (h : (wipeAll n)[i]? = some e) : e = .no := (List.mem_replicate.mp (List.mem_of_getElem? h)).2
theorem sat_none {H : Hp} {σ : L2.St} {n : Nat} (h : σ.length = n) : Sat H (fun _ => none) σ H (wipeAll n) :=
  ⟨fun a o z => (by cases z), fun i A e => (by have z := wipeAll_no e; cases z), fun i l e => (by have z := wipeAll_no e; cases z), fun i j x y p e _ m => (by rw [wipeAll_no e] at m; exact m.elim), (by unfold wipeAll; rw [List.length_replicate, h]), fun i B e => (by have z := wipeAll_no e; cases z)⟩
theorem ex_none {H : Hp} : Ex (fun _ => none) H := fun a o z => by cases z
theorem en_lcKeys {own : List (Str × Nat)} {elt : Expr} {scope : Scope} (i j : Nat) {x y : Str} {px py : Pos} {l : List (Int × As)} {g : Int → V} {n : Nat} (hc : X.calm = true) (hN : X.N.Nodup) (hn : ρ.length = n) (hi : ρ[i]? = some (.fr (diA l))) (hz : l.length < sizeLine) (ok : BlkOk X.N X.env.scope scope own)
    (hg : ∀ (s : Shared) (H : Hp) (C : Addr) (cl : List (Str × Addr)) (fp : List Addr), PG (X.blk s H scope (compEnvC scope cl C X.env) fp) (.Name x px) (gName j))
    (he : ∀ (s : Shared) (H : Hp) (C : Addr) (cl : List (Str × Addr)) (fp : List Addr), ∀ a : Int, EA (X.blk s H scope (compEnvC scope cl C X.env) fp) elt ((wipeAll n).set j (.fr (int a))) (sc (g a)))
    (hy : X.N[i]? = some y := by rfl) (hv : Vis X.env.scope y := by first | exact Or.inl rfl | exact Or.inr (Or.inl rfl) | exact Or.inr (Or.inr rfl)) (hd : (y == ("__debug__" : Str)) = false := by decide) (hcd : (y == ("__classdict__" : Str)) = false := by decide)
    (hj : j ∈ own.map (·.2) := by decide) (hs : ∀ z, foldedSetIterable (.Name y py) X.env z = pure z := by intro _; rfl) :
    EN X (.ListComp elt [⟨.Name x px, .Name y py, [], 0⟩] scope pos) ρ ((l.map Prod.fst).map fun k => sc (g k)) := by
  let te : TE := fun σ H Q => ∃ a : Int, tA ((wipeAll n).set j (.fr (int a))) (sc (g a)) σ H Q
  have hte : ∀ (s : Shared) (H : Hp) (C : Addr) (cl : List (Str × Addr)) (fp : List Addr), PE (X.blk s H scope (compEnvC scope cl C X.env) fp) elt te := fun s H C cl fp => ⟨fun pins s1 σ H1 Q I ⟨a, q⟩ => (he s H C cl fp a).run pins s1 σ H1 Q I q⟩
  let tt : TT := fun σ H Q => Q true H
  have htt : ∀ (s : Shared) (H : Hp) (C : Addr) (cl : List (Str × Addr)) (fp : List Addr), PTs (X.blk s H scope (compEnvC scope cl C X.env) fp) [] tt := fun s H C cl fp => ⟨fun pins s1 σ H1 Q I q => pts_nil.run pins s1 σ H1 Q I q⟩
  refine pe_imp (pe_lock (pe_lc (own := own) (g := gName j) (tt := tt) (te := te) hc hN (pi_keys (pe_var hy hv hd hcd)) ok hg htt hte hs)) fun σ H Q ⟨H0, F, S, k⟩ => ?_
  obtain ⟨v, h1, d, vs, ev, hd1, hall⟩ := S.fr i _ hi
  subst ev
  have hHd := S.ex d _ hd1
  have hl : vs.length = l.length := by rw [hall.length, List.length_map]
  refine ⟨d, _, hHd, trivial, fun od => ?_⟩
  refine ⟨_, h1, d, od, rfl, .inl ⟨_, upd_same, fun D hD => ?_⟩⟩
  have hDd : D ≠ d := fun z => by rw [z, upd_same] at hD; cases hD
  have hHD : H D = none := by rw [upd_ne hDd] at hD; exact hD
  have hlen : ((l.map fun x => kI x.1).zip vs).length = l.length := by rw [List.length_zip, List.length_map, hl, Nat.min_self]
  let kvs := (l.map fun x => kI x.1).zip vs
  let HL := upd H d (.frz od (.dK kvs))
  -- behind i turns
  let St : Nat → Hp → Prop := fun i H' => Ex HL H' ∧ H' D = some (.lst (((l.take i).map Prod.fst).map g))
  have hkv : ∀ i, i < l.length → ∃ v, kvs[i]? = some (kI (l[i]?.getD (0, non)).1, v) := fun i hi => by
    have h2 : i < vs.length := by omega
    refine ⟨vs[i], ?_⟩
    show ((l.map fun x => kI x.1).zip vs)[i]? = _
    rw [List.getElem?_eq_getElem (by rw [hlen]; exact hi), List.getElem_zip, List.getElem_map, List.getElem?_eq_getElem hi]
    rfl
  refine ⟨fun i m H' => m = l.length - i ∧ i ≤ l.length ∧ St i H', ⟨l.length, by simp, Nat.zero_le _, fun b o z => ?_, by rw [upd_same]; simp⟩, ?_⟩
  · rw [upd_ne (ne_of_none z hD)]
    exact z
  rintro i' m H' ⟨rfl, hi', hex, hDl⟩
  have hfr : H' d = some (.frz od (.dK kvs)) := hex d _ upd_same
  by_cases hlt : i' < l.length
  · refine .inr ⟨⟨hfr, by rw [hlen]; exact hlt⟩, St (i' + 1), fun H2 p => ⟨l.length - (i' + 1), by omega, rfl, hlt, p⟩, fun x' H2 yl => ?_⟩
    obtain ⟨e1, kk, vv, e2, e3⟩ := yl
    subst e1
    obtain ⟨v0, e4⟩ := hkv i' hlt
    have e5 : some (kk, vv) = some (kI (l[i']?.getD (0, non)).1, v0) := e2.symm.trans e4
    have e6 : kk = kI (l[i']?.getD (0, non)).1 := (Prod.mk.inj (Option.some.inj e5)).1
    subst e6 e3
    refine ⟨wipe_set hj, ?_⟩
    show if true = true then _ else _
    rw [if_pos rfl]
    refine ⟨(l[i']?.getD (0, non)).1, H2, fun _ => none, (sat_none (σ := L2.wipe σ (own.map (·.2))) (by rw [wipe_length, ← S.len, hn])).set rfl, fun z H3 F3 g3 hz3 => ?_⟩
    have hz3 : z = g (l[i']?.getD (0, non)).1 := hz3
    subst hz3
    refine ⟨_, g3.h D _ hDl, by rw [List.length_map, List.length_map, List.length_take]; omega, fun b o q => ?_, ?_⟩
    · have nD : b ≠ D := fun z => by
        have q2 : upd H d (.frz od (.dK ((l.map fun x => kI x.1).zip vs))) b = some o := q
        rw [z, hD] at q2
        cases q2
      rw [upd_ne nD]
      exact g3.h b o (hex b o q)
    · rw [upd_same, List.getElem?_eq_getElem hlt, List.take_add_one, List.getElem?_eq_getElem hlt]
      rw [List.map_append, List.map_append]
      rfl
  · have e : i' = l.length := by omega
    subst e
    refine .inl ⟨⟨hfr, by rw [hlen]; exact Nat.le_refl _⟩, hfr, ?_⟩
    rw [List.take_length] at hDl
    refine k D (((l.map Prod.fst)).map g) (upd H' d (.dK kvs)) F ⟨Ex.refl F, fun b o q => ?_, fun b o q => ?_, fun b o q1 q2 => q2⟩ hHD (S.ex.none hHD) (by rw [upd_ne hDd]; exact hDl) ?_
    · by_cases hb : b = d
      · rw [hb, upd_same, ← hHd, ← hb]
        exact q
      · rw [upd_ne hb]
        exact hex b o (by show upd H d _ b = _; rw [upd_ne hb]; exact q)
    · have q' := S.ex b o q
      by_cases hb : b = d
      · rw [hb, upd_same, ← hHd, ← hb]
        exact q'
      · rw [upd_ne hb]
        exact hex b o (by show upd H d _ b = _; rw [upd_ne hb]; exact q')
    · have z : AllV F ((l.map Prod.fst).map g) (((l.map Prod.fst).map g).map sc) := AllV.of_scs
      have e : ((l.map Prod.fst).map g).map sc = (l.map Prod.fst).map fun k => sc (g k) := List.map_map
      rw [e] at z
      exact z
end
end Lk

set_option Elab.async false
set_option linter.all false
set_option maxRecDepth 100000
set_option maxHeartbeats 4000000
namespace Lk
open PySem PySem.Calls L2 PySem.Spec PyProof.Rows
/-! ### defs that may raise -/
abbrev ErP := Hp → Value → Option Addr → Prop
/-- what becomes of a call: a value, or an error -/
inductive Oc where
  | ret (A : As)
  | exc (e : ErP)
def Oc.R : Oc → As
  | .ret A => A
  | .exc _ => ⟨fun _ _ => False, fun _ h => h⟩
def Oc.E : Oc → ErP
  | .ret _ => fun _ _ _ => False
  | .exc e => e
def spO {ι : Type} (pre : ι → Prop) (l : ι → List As) (oc : ι → Oc) : Sp := fun vs H Q E => ∃ i, pre i ∧ ∃ F, Ex F H ∧ AllV F vs (l i) ∧ (∀ v H' F', Gr F H F' H' → (oc i).R.p F' v → Q v H') ∧ (∀ cls d H' F', Gr F H F' H' → (oc i).E F' cls d → E cls d H')
def spMO {ι : Type} (C : Addr) (pre : ι → Prop) (l : ι → List As) (oc : ι → Oc) : Sp := fun vs H Q E => ∃ i, pre i ∧ ∃ (H1 F : Hp) (p dx : Addr) (as : List V), vs = .ref p :: as ∧ H = upd (upd H1 dx (.own p)) p (.ins C dx []) ∧ H1 p = none ∧ H1 dx = none ∧ dx ≠ p ∧ Ex F H1 ∧ AllV F as (l i) ∧
  (∀ H' F', Gr F H1 F' H' → (oc i).R.p F' (.ref p) → Q .non H') ∧ (∀ cls d H' F', Gr F H1 F' H' → (oc i).E F' cls d → E cls d H')
theorem fn_okX {P : Program} {w : World} {K : PySem.W.Frag} {mg : Str → Option Value} {base : Heap} {x qual : Str} {st : Stmt} {f : Addr} {fd : FuncData} {N ps : List Str} {k : Nat} {ι : Type} {pre : ι → Prop} {l : ι → List As} {oc : ι → Oc} (F : Fun K x qual st f fd) (S : FnScope N ps (defScope st)) (hl : ∀ i, pre i → (l i).length = ps.length)
    (hb : ∀ (i : ι) (cdv : Value) (B : Around) (outer : List Env) (s : Shared) (H : Hp) (E : XK), pre i → Room k (B.deeper (PyProof.Rows.envOfC qual (defScope st) s.heap.objs.size f cdv)) → Takes (cxOf (L2.CX P w) P w K mg base N qual (defScope st) f cdv B outer s H E) (fun cls d _ H => E cls d H) →
      PassesOwn (model P w) (B.deeper (PyProof.Rows.envOfC qual (defScope st) s.heap.objs.size f cdv)) (PyProof.Rows.envOfC qual (defScope st) s.heap.objs.size f cdv) (cxOf (L2.CX P w) P w K mg base N qual (defScope st) f cdv B outer s H E).xe →
      BA (cxOf (L2.CX P w) P w K mg base N qual (defScope st) f cdv B outer s H E) (defBody st) (entry N (l i)) (fun _ => ∀ F, (oc i).R.p F .non) { R := (oc i).R, er := fun _ => (oc i).E, wx := fun cls d _ H => E cls d H }) : FnOk P w K mg base (L2.CX P w) (k + 1) f fd ps (spO pre l oc) := by
  refine F.okX S (fun vs H Q E h => ?_) (fun cdv B outer s H vs Q E hr h => ?_)
  · obtain ⟨i, hp, F, e, hv, _⟩ := h
    rw [hv.length, hl i hp]
  · obtain ⟨i, hp, F, e, hv, q, qe⟩ := h
    refine ⟨_, hb i cdv B outer s H E hp hr (takes_of rfl rfl rfl rfl) (passes_of (X := cxOf (L2.CX P w) P w K mg base N qual (defScope st) f cdv B outer s H E) rfl), F, H, F, .refl e, sat_start (ps := ps) e hv, ?_, ?_, ?_, ?_, ?_⟩
    · intro ρ' σ' H' F' hn g' S'
      exact q .non H' F' g' (hn F')
    · intro v H' F' g' hv
      exact q v H' F' g' hv
    · intro _ _ _ _ z
      exact z.elim
    · intro _ _ _ _ z
      exact z.elim
    · intro cls d ρ' σ' H' F' he g' S'
      exact qe cls d H' F' g' he
structure DfX (P : Program) (w : World) (K : PySem.W.Frag) (mg : Str → Option Value) (base : Heap) (k : Nat) (x : Str) (ps : List Str) (sp : Sp) : Prop where
  ex : ∃ f fd, FnOk P w K mg base (L2.CX P w) k f fd ps sp ∧ mg x = some (.ref f) ∧ PySem.W.keepIn K (.ref f) = true ∧ Binds K fd ps []
structure MfX (P : Program) (w : World) (K : PySem.W.Frag) (mg : Str → Option Value) (base : Heap) (k : Nat) (C : Addr) (m : Str) (ps : List Str) (sp : Sp) : Prop where
  ex : ∃ f fd, FnOk P w K mg base (L2.CX P w) k f fd ps sp ∧ Meth K C m f ∧ Binds K fd ps []
structure MkX (P : Program) (w : World) (K : PySem.W.Frag) (mg : Str → Option Value) (base : Heap) (k : Nat) (C : Addr) (x : Str) (ps : List Str) (sp : Sp) : Prop where
  ex : ∃ f fd, FnOk P w K mg base (L2.CX P w) k f fd ps sp ∧ Mk K C f ∧ Binds K fd ps [] ∧ mg x = some (.ref C)
theorem DfX.mono {P : Program} {w : World} {K : PySem.W.Frag} {mg : Str → Option Value} {base : Heap} {j k : Nat} {x : Str} {ps : List Str} {sp : Sp} (D : DfX P w K mg base j x ps sp) (h : j ≤ k) : DfX P w K mg base k x ps sp :=
  let ⟨f, fd, h1, h2⟩ := D.ex
  ⟨f, fd, h1.mono h, h2⟩
theorem MfX.mono {P : Program} {w : World} {K : PySem.W.Frag} {mg : Str → Option Value} {base : Heap} {j k : Nat} {C : Addr} {x : Str} {ps : List Str} {sp : Sp} (D : MfX P w K mg base j C x ps sp) (h : j ≤ k) : MfX P w K mg base k C x ps sp :=
  let ⟨f, fd, h1, h2⟩ := D.ex
  ⟨f, fd, h1.mono h, h2⟩
theorem MkX.mono {P : Program} {w : World} {K : PySem.W.Frag} {mg : Str → Option Value} {base : Heap} {j k : Nat} {C : Addr} {x : Str} {ps : List Str} {sp : Sp} (D : MkX P w K mg base j C x ps sp) (h : j ≤ k) : MkX P w K mg base k C x ps sp :=
  let ⟨f, fd, h1, h2⟩ := D.ex
  ⟨f, fd, h1.mono h, h2⟩
/-- an expression whose last step may raise -/
def tX (ρ : List En) (oc : Oc) (w : WX) : TE := fun σ H Q => ∃ H0 F, Sat H0 F σ H ρ ∧ (∀ v H' F', Gr F H F' H' → oc.R.p F' v → Q v H') ∧ (∀ cls d H' F', Gr F H F' H' → oc.E F' cls d → w cls d σ H')
abbrev EX (X : Cx) (e : Expr) (ρ : List En) (oc : Oc) (w : WX) : Prop := PE X e (tX ρ oc w)
theorem takes_none {X : Cx} : Takes X (fun _ _ _ _ => False) := takes0
section
variable {X : Cx} {e a b c o : Expr} {es : List Expr} {ρ : List En} {A B : As} {pos apos p1 : Pos} {k : Nat} {ι : Type} {pre : ι → Prop} {l : ι → List As} {oc : ι → Oc} {o1 : Oc} {ps : List Str} {C : Addr} {m x : Str} {fs gs : List (Str × As)} {la : List As} {w : WX}
/-- where it raises nothing -/
theorem ea_ofX (h : ∀ (w : WX), Takes X w → EX X e ρ (.ret A) w) : EA X e ρ A := pe_imp (h _ takes0) fun σ H Q ⟨H0, F, S, q⟩ => ⟨H0, F, S, fun v H' F' g hv => q v H' F' g hv, fun _ _ _ _ _ z => z.elim⟩
theorem ex_call (D : DfX X.prog X.w X.K X.mg X.base k x ps (spO pre l oc)) (hr : Room k X.A) (tk : Takes X w) (i : ι) (hp : pre i) (ha : EAs X (e :: es) ρ (l i)) (hg : Gl X x := by rfl)
    (hdb : (x == ("__debug__" : Str)) = false := by decide) (he : starEach (e :: es) X.env = (false, eval e X.env) :: starEach es X.env := by rfl) (hpl : (backTo pos (starEach es X.env)).any (·.1) = false := by rfl) : EX X (.Call (.Name x p1) (e :: es) [] pos) ρ (oc i) w := by
  obtain ⟨f, fd, G, hm, hk, hb⟩ := D.ex
  exact pe_imp (pe_callS G hr hg hm hk hb (passAt tk) ha (hdb := hdb) (he := he) (hpl := hpl)) fun σ H Q ⟨H0, F, S, q, qe⟩ => ⟨H0, F, S, fun vs H1 F1 g1 h1 => ⟨i, hp, F1, g1.i, h1, fun v H' F' g hv => q v H' F' (g1.trans g) hv, fun cls d H' F' g hv => qe cls d H' F' (g1.trans g) hv⟩⟩
/-- o.m(e, ..) -/
def tMethS (C : Addr) (m : Str) (sp : Sp) (E : L2.St → XK) (ta : TE) (t : TA) : TE := fun σ H Q => ta σ H fun x H1 => ∃ a dx fs, x = .ref a ∧ H1 a = some (.ins C dx fs) ∧ fs.lookup m = none ∧ t σ H1 fun vs H2 => sp (x :: vs) H2 Q (E σ)
theorem pe_methX {CX : CXT} {f : Addr} {fd : FuncData} {sp : Sp} {E : L2.St → XK} {ta : TE} {t : TA} {pl : Sem Bool} (he : PE X o ta) (c : Cls X.K C) (hm : Meth X.K C m f) (F : FnOk X.prog X.w X.K X.mg X.base CX k f fd ps sp) (hr : Room k X.A) (hb : Binds X.K fd ps []) (hx : ∀ σ, PassesAt CX X σ (E σ)) (ha : PA X (e :: es) t)
    (hst : starEach (e :: es) X.env = (false, eval e X.env) :: starEach es X.env := by rfl) (hpl : (backTo pos (starEach es X.env)).any (·.1) = false := by rfl)
    (ht : eval (.Call (.Attribute o m apos) (e :: es) [] pos) X.env = (do
      let ov ← eval o X.env
      standAt apos.atName
      let (f, first) ← holding [ov] (getMethod ov m pl)
      callWith pos f first (backTo pos (starEach (e :: es) X.env)) (backToKw pos (keywordEach [] X.env))) := by rfl) :
    PE X (.Call (.Attribute o m apos) (e :: es) [] pos) (tMethS C m sp E ta t) := by
  refine ⟨fun pins s σ H Q I h => ?_⟩
  refine PySem.W.methodCall_KW (pl := pl) (thn (he.run pins s σ H _ I h) fun u s1 ⟨x, H1, I1, rx, a, dx, fs, ex, ea, l, q⟩ => ?_) ht
  subst ex
  obtain rfl : u = Value.ref a := rx
  refine getmeth_ok I1 ea c hm l ?_
  refine PySem.W.callWith_K (first := [.ref a]) (h₀ := X.base) I.ok.mod.kin hm.kp (thn (ha.run pos pins s1 σ H1 _ I1 q) fun us s2 ⟨vs, H2, I2, r, q2⟩ => ⟨I2.kIn, ?_⟩) hst hpl
  exact run_fnS (us := .ref a :: us) (vs := .ref a :: vs) F hr hb (hx σ) I2 (.cons rfl r) q2
theorem ex_meth {pl : Sem Bool} (D : MfX X.prog X.w X.K X.mg X.base k C m ps (spO pre l oc)) (hr : Room k X.A) (tk : Takes X w) (hC : Cls X.K C) (i : ι) (hp : pre i) (ho : EA X o ρ (insA C fs)) (hm : fs.lookup m = none) (ha : EAs X (e :: es) ρ la) (hl : l i = insA C fs :: la)
    (he : starEach (e :: es) X.env = (false, eval e X.env) :: starEach es X.env := by rfl) (hpl : (backTo pos (starEach es X.env)).any (·.1) = false := by rfl)
    (hev : eval (.Call (.Attribute o m apos) (e :: es) [] pos) X.env = (do
      let ov ← eval o X.env
      standAt apos.atName
      let (f, first) ← holding [ov] (getMethod ov m pl)
      callWith pos f first (backTo pos (starEach (e :: es) X.env)) (backToKw pos (keywordEach [] X.env))) := by rfl) : EX X (.Call (.Attribute o m apos) (e :: es) [] pos) ρ (oc i) w := by
  obtain ⟨f, fd, G, hM, hb⟩ := D.ex
  refine pe_imp (pe_methX ho hC hM G hr hb (passAt tk) ha he hpl hev) fun σ H Q ⟨H0, F, S, q, qe⟩ => ⟨H0, F, S, fun v H1 F1 g1 ⟨p, dx, vs, ev, h1, h2⟩ => ⟨p, dx, _, ev, g1.i p _ h1, zip_nolook h2 hm, H0, F1, S.gr g1, fun us H2 F2 g2 hu => ?_⟩⟩
  refine ⟨i, hp, F2, g2.i, ?_, fun v H' F' g hv => q v H' F' ((g1.trans g2).trans g) hv, fun cls d H' F' g hv => qe cls d H' F' ((g1.trans g2).trans g) hv⟩
  rw [hl]
  exact ⟨(insA C fs).mono g2.f ⟨p, dx, vs, ev, h1, h2⟩, hu⟩
/-- C(e, ..) -/
theorem run_makeS {CX : CXT} {f : Addr} {fd : FuncData} {sp : Sp} {E : L2.St → XK} {pins : List (Addr × Obj)} {σ : L2.St} {H : Hp} {s : Shared} {Q : VK} {us : List Value} {vs : List V} (M : Mk X.K C f) (F : FnOk X.prog X.w X.K X.mg X.base CX k f fd ps sp) (hr : Room (k + 1) X.A) (hb : Binds X.K fd ps [])
    (hx : PassesAt CX X σ (E σ)) (I : Inv X pins σ H s) (r : Vals vs us)
    (h : ∀ x dx, H x = none → H dx = none → dx ≠ x → sp (.ref x :: vs) (upd (upd H dx (.own x)) x (.ins C dx [])) (fun v H2 => v = .non ∧ Q (.ref x) H2) (E σ)) :
    wpAny (model X.prog X.w) X.A (call (.ref C) us) (EP X pins σ Q) X.xe s := by
  have hq := h (s.heap.objs.size + 1) s.heap.objs.size (I.hok.fresh (Nat.le_succ _)) (I.hok.fresh (Nat.le_refl _)) (Nat.ne_of_lt (Nat.lt_succ_self _))
  have I2 := Inv.made (C := C) I
  have r2 : Vals (V.ref (s.heap.objs.size + 1) :: vs) (Value.ref (s.heap.objs.size + 1) :: us) := .cons rfl r
  have hl : (Value.ref (s.heap.objs.size + 1) :: us).length = ps.length := by
    have e := r2.length
    rw [F.len _ _ _ _ hq] at e
    exact e.symm
  refine wpAny_call (make_map (f := f) I.kIn M.makes M.init (beq_iff_eq.mp M.fn) (codeAny_mono (F.run _ X.stack _ _ ⟨Value.ref (s.heap.objs.size + 1) :: us, []⟩ (Value.ref (s.heap.objs.size + 1) :: us) _ _ (E σ) (hr.make C us [])
    (I2.env0.make C us []) (by
      have z := hb _ (Value.ref (s.heap.objs.size + 1) :: us) I2.kIn (by simpa using hl)
      simpa using z) r2 hq) fun r s' hq' => ?_))
  cases r with
  | error e => exact hx pins _ _ e s' I2 hq'
  | ok fl =>
    cases fl with
    | ret u =>
      obtain ⟨v, H', I3, rv, ev, q3⟩ := I2.after hq'
      subst ev
      exact ⟨rv, ⟨V.ref (s.heap.objs.size + 1), H', I3, rfl, q3⟩⟩
    | next => exact False.elim hq'
    | brk => exact False.elim hq'
    | cont => exact False.elim hq'
def tMakeS (C : Addr) (sp : Sp) (E : L2.St → XK) (t : TA) : TE := fun σ H Q => t σ H fun vs H1 => ∀ x dx, H1 x = none → H1 dx = none → dx ≠ x → sp (.ref x :: vs) (upd (upd H1 dx (.own x)) x (.ins C dx [])) (fun v H2 => v = .non ∧ Q (.ref x) H2) (E σ)
theorem pe_makeS {CX : CXT} {f : Addr} {fd : FuncData} {sp : Sp} {E : L2.St → XK} {t : TA} (M : Mk X.K C f) (F : FnOk X.prog X.w X.K X.mg X.base CX k f fd ps sp) (hr : Room (k + 1) X.A) (hg : Gl X x) (hm : X.mg x = some (.ref C)) (hb : Binds X.K fd ps []) (hx : ∀ σ, PassesAt CX X σ (E σ))
    (ha : PA X (e :: es) t) (hdb : (x == ("__debug__" : Str)) = false := by decide) (he : starEach (e :: es) X.env = (false, eval e X.env) :: starEach es X.env := by rfl) (hpl : (backTo pos (starEach es X.env)).any (·.1) = false := by rfl) :
    PE X (.Call (.Name x p1) (e :: es) [] pos) (tMakeS C sp E t) := by
  refine ⟨fun pins s σ H Q I h => ?_⟩
  refine wpAny_Call_Name_kw (ld_glob I hg hm ?_ hdb)
  refine PySem.W.callWith_K (h₀ := X.base) I.ok.mod.kin M.kp (thn (ha.run pos pins s σ H _ I h) fun us s1 ⟨vs, H1, I1, r, q⟩ => ⟨I1.kIn, ?_⟩) he hpl
  exact run_makeS M F hr hb (hx σ) I1 r q
theorem ex_make (D : MkX X.prog X.w X.K X.mg X.base k C x ps (spMO C pre l oc)) (hr : Room (k + 1) X.A) (tk : Takes X w) (i : ι) (hp : pre i) (ha : EAs X (e :: es) ρ (l i)) (hg : Gl X x := by rfl)
    (hdb : (x == ("__debug__" : Str)) = false := by decide) (he : starEach (e :: es) X.env = (false, eval e X.env) :: starEach es X.env := by rfl) (hpl : (backTo pos (starEach es X.env)).any (·.1) = false := by rfl) : EX X (.Call (.Name x p1) (e :: es) [] pos) ρ (oc i) w := by
  obtain ⟨f, fd, G, hM, hb, hm⟩ := D.ex
  exact pe_imp (pe_makeS hM G hr hg hm hb (passAt tk) ha hdb he hpl) fun σ H Q ⟨H0, F, S, q, qe⟩ => ⟨H0, F, S, fun us H1 F1 g1 hu => fun y dx hy hdx hne =>
    ⟨i, hp, H1, F1, y, dx, us, rfl, rfl, hy, hdx, hne, g1.i, hu, fun H' F' g hA => ⟨rfl, q _ H' F' (g1.trans g) hA⟩, fun cls d H' F' g hA => qe cls d H' F' (g1.trans g) hA⟩⟩
/-- a op b, by an own method; what it gives is an object -/
def rBinS (C : Addr) (sp : Sp) (E : XK) : R2 := fun x y H Q => ∃ a dx fs b dy gs, x = .ref a ∧ H a = some (.ins C dx fs) ∧ y = .ref b ∧ H b = some (.ins C dy gs) ∧ sp [.ref a, .ref b] H (fun v H' => ∃ r, v = .ref r ∧ Q v H') E
def tBinS (C : Addr) (sp : Sp) (E : L2.St → XK) (ta tb : TE) : TE := fun σ H Q => ta σ H fun x H1 => tb σ H1 fun y H2 => rBinS C sp (E σ) x y H2 Q
theorem pe_binS {CX : CXT} {f : Addr} {fd : FuncData} {sp : Sp} {E : L2.St → XK} {ta tb : TE} {op : Operator} (G : FnOk X.prog X.w X.K X.mg X.base CX k f fd ps sp) (hr : Room k X.A) (hs : PySem.W.findIn X.K (.ref C) (PySem.dunder op.info.2) = some (some (.ref f))) (hf : PySem.W.isFn X.K (.ref f) = true) (hsf : PySem.W.selfFirst X.K C = true) (hb : Binds X.K fd ps []) (hx : ∀ σ, PassesAt CX X σ (E σ))
    (ha : PE X a ta) (hb2 : PE X b tb) : PE X (.BinOp a op b pos) (tBinS C sp E ta tb) := by
  refine ⟨fun pins s σ H Q I h => ?_⟩
  refine wpAny_BinOp (binT ha hb2 I h fun v u s2 x y H2 I2 rx ry q => ?_)
  obtain ⟨pa, dx, fs, pb, dy, gs, rfl, ha', rfl, hb', hsp⟩ := q
  cases rx
  cases ry
  obtain ⟨mA, J, _⟩ := ins_get I2.hok ha'
  obtain ⟨mB, J', _⟩ := ins_get I2.hok hb'
  obtain ⟨od, J, _⟩ := J.look
  obtain ⟨od', J', _⟩ := J'.look
  obtain ⟨m, hF⟩ := I2.fr
  refine PySem.W.binop_K hF I2.ok.mod.kin J J'.type hsf hs hf ?_
  have hl := G.len _ _ _ _ hsp
  have r2 : Vals [V.ref pa, .ref pb] [Value.ref pa, .ref pb] := .cons rfl (.cons rfl .nil)
  refine wpAny_call (codeAny_mono (G.run X.A X.stack s2 H2 ⟨[.ref pa, .ref pb], []⟩ [.ref pa, .ref pb] [.ref pa, .ref pb] _ (E σ) hr I2.env0 (by
    have := hb s2 [.ref pa, .ref pb] I2.kIn (by simpa using hl)
    simpa using this) r2 hsp) fun r s' hq => ?_)
  cases r with
  | error e => exact hx σ pins H2 s2 e s' I2 hq
  | ok fl =>
    cases fl with
    | ret w =>
      obtain ⟨z, H', I', rz, r, ez, q⟩ := I2.after hq
      subst ez
      cases rz
      exact ⟨.ref r, H', I', rfl, q⟩
    | next => exact False.elim hq
    | brk => exact False.elim hq
    | cont => exact False.elim hq
theorem ex_bin {op : Operator} (D : MfX X.prog X.w X.K X.mg X.base k C m ps (spO pre l oc)) (hmm : m = PySem.dunder op.info.2) (hsf : PySem.W.selfFirst X.K C = true) (hr : Room k X.A) (tk : Takes X w) (i : ι) (hp : pre i) (ha : EA X a ρ (insA C fs)) (ho : EA X b ρ (insA C gs)) (hl : l i = [insA C fs, insA C gs]) (hret : ∀ F v, (oc i).R.p F v → ∃ r, v = .ref r) : EX X (.BinOp a op b pos) ρ (oc i) w := by
  obtain ⟨f, fd, G, hM, hb⟩ := D.ex
  refine pe_imp (pe_binS G hr (by rw [← hmm]; exact hM.at_) hM.fn hsf hb (passAt tk) ha ho) fun σ H Q ⟨H0, F, S, q, qe⟩ => ⟨H0, F, S, fun x H1 F1 g1 ⟨p', dx', vs', ev', y1, y2⟩ => ⟨H0, F1, S.gr g1, fun y H2 F2 g2 ⟨p, dx, vs, ev, z1, z2⟩ => ⟨p', dx', _, p, dx, _, ev', g2.h p' _ (g1.i p' _ y1), ev, g2.i p _ z1, i, hp, F2, g2.i, ?_, fun v H' F' g hv => ?_, fun cls d H' F' g hv => qe cls d H' F' ((g1.trans g2).trans g) hv⟩⟩⟩
  · rw [hl]
    exact ⟨⟨p', dx', vs', rfl, g2.f p' _ y1, y2.mono g2.f⟩, ⟨p, dx, vs, rfl, z1, z2⟩, trivial⟩
  · obtain ⟨r, er⟩ := hret F' v hv
    exact ⟨r, er, q v H' F' ((g1.trans g2).trans g) hv⟩
/-! ### statements over such expressions -/
variable {Nx : List En → Prop} {W : Wn}
theorem sa_exprX (he : EX X e ρ o1 W.wx) (hE : ∀ F cls d, o1.E F cls d → W.er ρ F cls d) (k : (∃ F v, o1.R.p F v) → Nx ρ) (hs : swapsWith e none pos.line X.env = pure false := by rfl) : SA X (.Expr e pos) ρ Nx W :=
  ps_imp (ps_expr he hs) fun D σ H ⟨F0, H0, F, g, S, q, q2, q3, q4, q5⟩ => ⟨H0, F, S, fun v H' F' g' hv => q ρ σ H' F' (k ⟨F', v, hv⟩) (g.trans g') (S.gr g'), fun cls d H' F' g' he' => q5 cls d ρ σ H' F' (hE F' cls d he') (g.trans g') (S.gr g')⟩
theorem sa_setX (i : Nat) {y : Str} {pos' : Pos} (hN : X.N.Nodup) (he : EX X e ρ o1 W.wx) (hE : ∀ F cls d, o1.E F cls d → W.er ρ F cls d) (k : (∃ F v, o1.R.p F v) → Nx (ρ.set i (.fr o1.R))) (hi : X.N[i]? = some y := by rfl) (hx : Loc X.env.scope y := by first | exact .inl rfl | exact .inr rfl) (hs : swapsWith e (some (.Name y pos')) pos.line X.env = pure false := by rfl)
    (hf : X.fn y = true ∨ X.env.scope.names.lookup y = some .local := by first | exact .inl rfl | exact .inr rfl | assumption) : SA X (.Assign [.Name y pos'] e pos) ρ Nx W :=
  ps_imp (ps_set hN hi hx he hs hf) fun D σ H ⟨F0, H0, F, g, S, q, q2, q3, q4, q5⟩ => ⟨H0, F, S, fun v H' F' g' hv => q _ _ H' F' (k ⟨F', v, hv⟩) (g.trans g') ((S.gr g').set hv), fun cls d H' F' g' he' => q5 cls d ρ σ H' F' (hE F' cls d he') (g.trans g') (S.gr g')⟩
theorem sa_retX (he : EX X e ρ o1 W.wx) (hE : ∀ F cls d, o1.E F cls d → W.er ρ F cls d) (hR : ∀ F v, o1.R.p F v → W.R.p F v) : SA X (.Return (some e) pos) ρ Nx W :=
  ps_imp (ps_ret he) fun D σ H ⟨F0, H0, F, g, S, q, q2, q3, q4, q5⟩ => ⟨H0, F, S, fun v H' F' g' hv => q2 v H' F' (g.trans g') (hR F' v hv), fun cls d H' F' g' he' => q5 cls d ρ σ H' F' (hE F' cls d he') (g.trans g') (S.gr g')⟩
end
end Lk

set_option Elab.async false
set_option linter.all false
set_option maxRecDepth 100000
set_option maxHeartbeats 4000000
namespace Lk
open PySem PySem.Calls L2 PySem.Spec PyProof.Rows NdefX
/-! ### errors as they fly: the class, what its own dict holds -/
def dctP (fs : List (Str × As)) (d : Option Addr) (F : Hp) : Prop := match d with
  | none => fs = []
  | some dd => ∃ vs, F dd = some (.xd ((fs.map Prod.fst).zip vs)) ∧ AllV F vs (fs.map Prod.snd)
theorem dctP.mono {fs : List (Str × As)} {d : Option Addr} {F F' : Hp} (e : Ex F F') (h : dctP fs d F) : dctP fs d F' := by
  cases d with
  | none => exact h
  | some dd =>
    obtain ⟨vs, h1, h2⟩ := h
    exact ⟨vs, e dd _ h1, h2.mono e⟩
def erX (C : Addr) (fs : List (Str × As)) : ErP := fun F cls d => cls = .ref C ∧ dctP fs d F
/-- a class without an own __init__ -/
structure Er0 (K : PySem.W.Frag) (mg : Str → Option Value) (x : Str) (C : Addr) : Prop where
  gC : mg x = some (.ref C)
  kC : PySem.W.keepIn K (.ref C) = true
  q : PySem.W.excIn K C [.type "ValueError", .type "Exception", .type "BaseException", .type "object"] "ValueError.__new__" = true
  exC : PySem.W.subIn K (.ref C) (.type "BaseException") = some true
  tyC : PySem.W.typeIn K (.ref C) = some (.type "type")
section
variable {X : Cx} {C : Addr} {x m : Str} {j : Nat} {p p2 pos pos2 : Pos} {ρ : List En} {Nx : List En → Prop} {W : Wn}
/-- X() -/
theorem pmk_own0 (T : Er0 X.K X.mg x C) (hg : Gl X x) (hdb : (x == ("__debug__" : Str)) = false := by decide) : PMk X (.Call (.Name x p) [] [] pos) (fun _ H Q => Q (.ref C) none H) := by
  intro pins s σ H Q I h
  refine wpAny_Call_Name_kw (ld_glob I hg T.gC ?_ hdb)
  refine PySem.W.callWith_K0 I.kIn T.kC ?_
  show wpAny _ _ (call (.ref C) []) _ _ _
  obtain ⟨bm, N, nm, qn, bs, hdct, sn, sub, ab, col, dd, k0, k1, k2, k3, k5, mN, hC, hN, hni, TT⟩ := exc_obj I.kIn T.q
  refine wpAny_call_exc_subT PySem.F.excBase_ValueError TT hC hN hni (fun h' e hm => ?_) (by show 0 ≤ sizeLine; rw [sizeLine_eq]; omega)
  exact mk_of I hm (raises_own T.exC T.tyC) h (I.hok.gone hm.new)
theorem sat_q5 {F0 H0 F H : Hp} {σ : L2.St} {cls : Value} {d : Option Addr} (q5 : ∀ cls d ρ' σ' H' F', W.er ρ' F' cls d → Gr F0 H0 F' H' → Sat H0 F' σ' H' ρ' → W.wx cls d σ' H') (g : Gr F0 H0 F H) (S : Sat H0 F σ H ρ) (h : W.er ρ F cls d) : W.wx cls d σ H := q5 cls d ρ σ H F h g S
/-- raise X('..') -/
theorem sa_raise0s (T : Er0 X.K X.mg x C) (hc : X.calm = true) (tk : Takes X W.wx) (h : ∀ F, W.er ρ F (.ref C) none) (hg : Gl X x := by rfl) (hdb : (x == ("__debug__" : Str)) = false := by decide) :
    SA X (.Raise (some (.Call (.Name x p) [.Constant (.str m) j p2] [] pos)) none pos2) ρ Nx W :=
  ps_imp (ps_raise hc tk (pmk_own PySem.F.excBase_ValueError T.q T.gC T.kC (raises_own T.exC T.tyC) hg hdb)) fun D σ H ⟨F0, H0, F, g, S, q, q2, q3, q4, q5⟩ => sat_q5 q5 g S (h F)
/-- raise X() -/
theorem sa_raise0 (T : Er0 X.K X.mg x C) (hc : X.calm = true) (tk : Takes X W.wx) (h : ∀ F, W.er ρ F (.ref C) none) (hg : Gl X x := by rfl) (hdb : (x == ("__debug__" : Str)) = false := by decide) :
    SA X (.Raise (some (.Call (.Name x p) [] [] pos)) none pos2) ρ Nx W :=
  ps_imp (ps_raise hc tk (pmk_own0 T hg hdb)) fun D σ H ⟨F0, H0, F, g, S, q, q2, q3, q4, q5⟩ => sat_q5 q5 g S (h F)
end
/-! ### a class whose __init__ says super().__init__(..) and stores one field -/
def spEI {ι : Type} (C : Addr) (f : Str) (pre : ι → Prop) (B B' : ι → As) : Sp := fun vs H Q _ => ∃ (i : ι) (a : Addr) (x : V) (H1 F : Hp), pre i ∧ vs = [.ref a, x] ∧ H1 a = none ∧ H = upd H1 a (exo a C none) ∧ Ex F H1 ∧ (B i).p F x ∧
  ∀ (H2 F' : Hp) (y : V) (d : Addr), Gr F H1 F' H2 → (B' i).p F' y → H2 a = none → H2 d = none → d ≠ a → Q .non (upd (upd (upd H2 a (exo a C none)) d (exd d [(f, y)])) a (exo a C (some d)))
def cut (H : Hp) (a : Addr) : Hp := fun b => if b = a then none else H b
theorem cut_ne {H : Hp} {a b : Addr} (h : b ≠ a) : cut H a b = H b := if_neg h
theorem cut_same {H : Hp} {a : Addr} : cut H a a = none := if_pos rfl
section
variable {P : Program} {w : World} {K : PySem.W.Frag} {mg : Str → Option Value} {base : Heap} {f cc cda C : Addr} {name qual fld y0 y1 : Str} {params : Arguments} {rest : List Stmt} {scope : Scope} {fd : FuncData} {k : Nat} {e e2 : Expr} {p0 p1 p2 p3 p4 p5 p6 p7 : Pos} {ar : Arg} {ι : Type} {pre : ι → Prop} {B B' : ι → As}
theorem ok_excI {nf : NF} (hnf : nf = ⟨name, qual, params, supSt p0 p1 p2 p3 p4 e :: [.Assign [.Attribute (.Name y0 p5) fld p6] e2 p7], scope, [("__class__", cc)], cda⟩)
    (T : SupAt P K mg f cc cda C name qual params (supSt p0 p1 p2 p3 p4 e :: [.Assign [.Attribute (.Name y0 p5) fld p6] e2 p7]) scope fd) (O : OexC K C) (hno : PySem.W.findIn K (.ref C) fld = some none) (S : NScope [y0, y1, "__class__"] [y0, y1] ["__class__"] scope) (hsup : scope.names.lookup ("super" : Str) = some .globalImplicit)
    (hpar : (params.posonlyargs ++ params.args).head? = some ar) (hy0 : ar.arg = y0) (hka : scope.names.lookup y0 = some .local)
    (hse : ∀ env, starEach [e] env = (false, eval e env) :: starEach [] env) (hsw : ∀ env, swapsWith (.Call (.Attribute (.Call (.Name "super" p0) [] [] p1) "__init__" p2) [e] [] p3) none p4.line env = pure false) (hc : ∀ env, ∃ pl, supEv env p0 p1 p2 p3 e pl) (hint : ∀ L, interactive (envF nf f L) = false) (hsw2 : ∀ env, swapsWith e2 (some (.Attribute (.Name y0 p5) fld p6)) p7.line env = pure false)
    (hd0 : (y0 == ("__debug__" : Str)) = false) (hd1 : (y0 == ("__classdict__" : Str)) = false)
    (h1 : ∀ (i : ι) (a : Addr) (A : Around) (outer : List Env) (s : Shared) (H : Hp) (E : XK), pre i → Room k (A.deeper (envF nf f s.heap.objs.size)) → EA (ncx CX0 P w K mg base [y0, y1, "__class__"] nf f A outer s H E) e [.fr (sc (.ref a)), .fr (B i), .no] (exA (fun _ : Str => True) str))
    (h2 : ∀ (i : ι) (a : Addr) (A : Around) (outer : List Env) (s : Shared) (H : Hp) (E : XK), pre i → Room k (A.deeper (envF nf f s.heap.objs.size)) → EA (ncx CX0 P w K mg base [y0, y1, "__class__"] nf f A outer s H E) e2 [.fr (sc (.ref a)), .fr (B i), .no] (B' i)) :
    FnOk P w K mg base CX0 (k + 1) f fd [y0, y1] (spEI C fld pre B B') := by
  refine fn_super hnf T O S hsup hpar (by rw [hy0]; rfl) (by rw [hy0]; exact hka) (fun vs H Q E h => ?_) hse hc hint hsw fun A outer s H vs Q E hr h => ?_
  · obtain ⟨i, a, x, H1, F, hp, rfl, _⟩ := h
    rfl
  obtain ⟨i, a, x, H1, F, hp, rfl, hn, rfl, ex, hB, kq⟩ := h
  have exH : Ex H1 (upd H1 a (exo a C none)) := Ex.new hn
  have fa : F a = none := ex.none hn
  let ρ : List En := [.fr (sc (.ref a)), .fr (B i), .no]
  have nmo : ρ.any En.mnB = false := rfl
  have S0 : Sat (upd H1 a (exo a C none)) F (startF [y0, y1, "__class__"] [.ref a, x] [none]) (upd H1 a (exo a C none)) ρ := by
    refine ⟨ex.trans exH, fun i' A' e' => ?_, fun i' l e' => (no_mn nmo e' True.intro).elim, fun i' j' l m p e' _ m1 => (no_mn nmo e' m1).elim, rfl, fun i' B' e' => (no_mn nmo e' True.intro).elim⟩
    · match i', e' with
      | 0, e' =>
        have e' : sc (.ref a) = A' := by simpa [ρ] using e'
        subst e'
        exact ⟨.ref a, rfl, rfl⟩
      | 1, e' =>
        have e' : B i = A' := by simpa [ρ] using e'
        subst e'
        exact ⟨x, rfl, hB⟩
      | 2, e' => simp [ρ] at e'
      | n + 3, e' => simp [ρ] at e'
  refine ⟨a, rfl, upd_same, tA ρ (exA (fun _ : Str => True) str), fun v H' => ∃ F', Gr F (upd H1 a (exo a C none)) F' H', h1 i a A outer s _ E hp hr, fun Qx hq => ⟨_, F, S0, fun v H' F' g _ => hq v H' ⟨F', g⟩⟩, fun v H' ⟨F', g⟩ => ⟨g.h a _ upd_same, _, pss_one (ps_ost (pe_var (i := 0) rfl (.inl (by subst hnf; exact hka)) hd0 hd1) (h2 i a A outer s _ E hp hr) (hsw2 _)), ?_⟩⟩
  refine ⟨_, F', S0.gr g, fun y H2 F2 g2 hy => ⟨.ref a, rfl, a, C, rfl, O, hno, .inl ⟨g2.h a _ (g.h a _ upd_same), fun d hd hne => ?_⟩⟩⟩
  have gg := g.trans g2
  have f2 : F2 a = none := gg.n a _ upd_same fa
  have e0 : upd (cut H2 a) a (exo a C none) = H2 := by
    funext b
    by_cases hb : b = a
    · rw [hb, upd_same, gg.h a _ upd_same]
    · rw [upd_ne hb, cut_ne hb]
  have z := kq (cut H2 a) F2 y d ⟨gg.f, fun b o q => ?_, fun b o q => ?_, fun b o q1 q2 => ?_⟩ hy cut_same (by rw [cut_ne hne]; exact hd) hne
  · rw [e0] at z
    exact z
  · rw [cut_ne (ne_of_none q hn)]
    exact gg.h b o (exH b o q)
  · rw [cut_ne (ne_of_none q f2)]
    exact gg.i b o q
  · exact gg.n b o (exH b o q1) q2
end
/-- such a class, ready to be raised -/
structure Er1 {ι : Type} (P : Program) (w : World) (K : PySem.W.Frag) (mg : Str → Option Value) (base : Heap) (k : Nat) (x : Str) (C : Addr) (f : Str) (pre : ι → Prop) (B B' : ι → As) : Prop where
  gC : mg x = some (.ref C)
  O : OexC K C
  ex : ∃ fI fd y0 y1, PySem.W.findIn K (.ref C) "__init__" = some (some (.ref fI)) ∧ PySem.W.typeIn K (.ref fI) = some (.type "function") ∧ FnOk P w K mg base CX0 k fI fd [y0, y1] (spEI C f pre B B') ∧ Binds K fd [y0, y1] []
section
variable {X : Cx} {C : Addr} {x fld : Str} {e : Expr} {p p2 pos pos2 : Pos} {ρ : List En} {Nx : List En → Prop} {W : Wn} {k : Nat} {ι : Type} {pre : ι → Prop} {B B' : ι → As}
theorem sa_raise1 (T : Er1 X.prog X.w X.K X.mg X.base k x C fld pre B B') (hc : X.calm = true) (hr : Room (k + 1) X.A) (tk : Takes X W.wx) (i : ι) (hp : pre i) (ha : EA X e ρ (B i)) (h : ∀ F cls d, erX C [(fld, B' i)] F cls d → W.er ρ F cls d) (hg : Gl X x := by rfl) (hdb : (x == ("__debug__" : Str)) = false := by decide)
    (he : starEach [e] X.env = (false, eval e X.env) :: starEach [] X.env := by rfl) : SA X (.Raise (some (.Call (.Name x p) [e] [] pos)) none pos2) ρ Nx W := by
  obtain ⟨fI, fd, y0, y1, iC, tI, G, hb⟩ := T.ex
  refine ps_imp (ps_raise hc tk (pmk_oex (dvs := []) (ds := []) T.O iC tI G hr hb .nil pass0 hg T.gC (pa_cons ha pa_nil he) hdb he)) fun D σ H ⟨F0, H0, F, g, S, q, q2, q3, q4, q5⟩ => ?_
  refine ⟨H0, F, S, fun v H1 F1 g1 hv => ⟨(show 1 ≤ 1000 by decide), fun a hn => ⟨i, a, v, H1, F1, hp, rfl, hn, rfl, g1.i, hv, fun H2 F' y d g2 hy ha2 hd hne => ⟨rfl, d, [(fld, y)], upd_same, ?_, g2.h.none hd, ?_⟩⟩⟩⟩
  · rw [upd_ne hne, upd_same]
  · have e0 : upd (del (upd (upd (upd H2 a (exo a C none)) d (exd d [(fld, y)])) a (exo a C (some d))) a) d (.xd [(fld, y)]) = upd H2 d (.xd [(fld, y)]) := by
      funext b
      by_cases hb : b = d
      · rw [hb, upd_same, upd_same]
      · rw [upd_ne hb, upd_ne hb]
        by_cases hb2 : b = a
        · rw [hb2, del_same, ha2]
        · rw [del_ne hb2, upd_ne hb2, upd_ne hb, upd_ne hb2]
    rw [e0]
    have g3 := (g.trans g1).trans g2
    have gn : Gr F' H2 (upd F' d (.xd [(fld, y)])) (upd H2 d (.xd [(fld, y)])) := .new g3.i hd
    refine sat_q5 q5 (g3.trans gn) (((S.gr g1).gr g2).gr gn) (h _ _ _ ⟨rfl, [y], upd_same, ?_⟩)
    exact ⟨(B' i).mono gn.f hy, trivial⟩
end
end Lk

set_option Elab.async false
set_option linter.all false
set_option maxRecDepth 100000
set_option maxHeartbeats 4000000
namespace Lk
open PySem PySem.Calls L2 PySem.Spec PyProof.Rows
/-- the caught error, at a -/
def xcA (a : Addr) (d : Option Addr) (fs : List (Str × As)) : As := ⟨fun F v => v = .ref a ∧ dctP fs d F, fun e h => ⟨h.1, h.2.mono e⟩⟩
theorem Sat.unset {H0 F H : Hp} {σ : L2.St} {ρ : List En} (S : Sat H0 F σ H ρ) (i : Nat) : Sat H0 F (σ.set i none) H (ρ.set i .no) := by
  have no : ∀ {j : Nat} {e : En}, (ρ.set i En.no)[j]? = some e → e ≠ .no → i ≠ j ∧ ρ[j]? = some e := fun {j e} h hn => by
    by_cases hj : i = j
    · subst hj
      by_cases hi : i < ρ.length
      · rw [List.getElem?_set_self hi] at h
        exact absurd (by simpa using h) (Ne.symm hn)
      · rw [List.getElem?_eq_none (by rw [List.length_set]; omega)] at h
        cases h
    · rw [List.getElem?_set_ne hj] at h
      exact ⟨hj, h⟩
  refine ⟨S.ex, fun j A e => ?_, fun j l e => ?_, fun j k l m p e1 e2 m1 m2 h1 h2 => ?_, by rw [List.length_set, List.length_set]; exact S.len, fun j B e => ?_⟩
  · obtain ⟨nj, e'⟩ := no e (fun z => by cases z)
    rw [List.getElem?_set_ne nj]
    exact S.fr j A e'
  · obtain ⟨nj, e'⟩ := no e (fun z => by cases z)
    rw [List.getElem?_set_ne nj]
    exact S.own j l e'
  · obtain ⟨nj, e1'⟩ := no e1 (fun z => by rw [z] at m1; exact m1)
    obtain ⟨nk, e2'⟩ := no e2 (fun z => by rw [z] at m2; exact m2)
    rw [List.getElem?_set_ne nj] at h1
    rw [List.getElem?_set_ne nk] at h2
    exact S.sep j k l m p e1' e2' m1 m2 h1 h2
  · obtain ⟨nj, e'⟩ := no e (fun z => by cases z)
    rw [List.getElem?_set_ne nj]
    exact S.ow j B e'
section
variable {X : Cx} {x n : Str} {c : Value} {i : Nat} {body suite : List Stmt} {b₀ : Stmt} {np pos pos' : Pos} {ρ : List En} {Nx : List En → Prop} {W : Wn} {C : Addr} {fs : List (Str × As)}
/-- try: .. except x as n: ..; what the body raises is of the class at C -/
theorem sa_try_as (i : Nat) (hs : X.stack = X.env :: X.outer) (hf : X.env.frame = some X.env.locals) (hN : X.N.Nodup) (hi : X.N[i]? = some n) (hln : X.env.kindOf n = some .local) (hc : Names X x c) (tk : Takes X (fun _ _ _ _ => False)) (hexm : PySem.W.exmOne X.K (.ref C) c = some true)
    (hb : ∀ (w : WX) (pn : List (Addr × Obj)) (xe : Value → Shared → Prop), Takes (X.tr pn xe) w → PassesOwn (model X.prog X.w) X.A X.env xe → BA (X.tr pn xe) body ρ Nx { W with er := fun ρ' F cls d => ρ' = ρ ∧ erX C fs F cls d, wx := w })
    (hsu : ∀ (a : Addr) (oe : Obj) (d : Option Addr) (pn : List (Addr × Obj)), Zc (.ref C) d oe → (∃ vs, oe.data = .fields vs) → BA (X.suite a ((a, oe) :: pn)) (b₀ :: suite) (ρ.set i (.fr (xcA a d fs))) (fun ρ2 => Nx (ρ2.set i .no)) { R := W.R, B := fun ρ2 => W.B (ρ2.set i .no), C := fun ρ2 => W.C (ρ2.set i .no) }) :
    SA X (.Try body [.ExceptHandler (some (.Name x np)) (some n) (b₀ :: suite) pos'] [] [] pos) ρ Nx W := by
  refine ps_imp (ps_try_as (tb := fun w => sA ρ Nx { W with er := fun ρ' F cls d => ρ' = ρ ∧ erX C fs F cls d, wx := w }) (i := i) (ts := fun a cls d D σ H => cls = .ref C ∧ sA (ρ.set i (.fr (xcA a d fs))) (fun ρ2 => Nx (ρ2.set i .no)) { R := W.R, B := fun ρ2 => W.B (ρ2.set i .no), C := fun ρ2 => W.C (ρ2.set i .no) } D σ H)
    hs hf hN hi hln hc tk hb (fun a oe cls d pn hz hv => ⟨fun pins s σ H D I ⟨ec, q⟩ => ?_⟩)) fun D σ H ⟨F0, H0, F, g, S, q1, q2, q3, q4, q5⟩ => ?_
  · subst ec
    exact (hsu a oe d pn hz hv).run pins s σ H D I q
  · refine ⟨F0, H0, F, g, S, q1, q2, q3, q4, fun cls d ρ' σ' H' F' ⟨eρ, ec, hd⟩ g' S' => ?_⟩
    subst eρ ec
    exact ⟨true, hexm, fun _ a _ => ⟨rfl, F0, H0, F', g', S'.set ⟨rfl, hd⟩, fun ρ2 σ2 H2 F2 hn g2 S2 => q1 _ _ H2 F2 hn g2 (S2.unset i), q2, fun ρ2 σ2 H2 F2 hn g2 S2 => q3 _ _ H2 F2 hn g2 (S2.unset i), fun ρ2 σ2 H2 F2 hn g2 S2 => q4 _ _ H2 F2 hn g2 (S2.unset i), fun _ _ _ _ _ _ z => z.elim⟩, fun z => nomatch z⟩
end
/-! ### what a suite asks of its error -/
/-- isinstance(e, c), e the error of the class at D whose own dict is at d -/
def rIsX (K : PySem.W.Frag) (D a : Addr) (d : Option Addr) : List V → Hp → VK → Prop := fun xs H Q => ∃ (c : V) (cv : Value) (b : Bool), xs = [.ref a, c] ∧ (∀ u, RelV c u → u = cv) ∧ PySem.W.kitOne K (.ref D) cv = some b ∧ (∀ dd, d = some dd → ∃ fs, H dd = some (.xd fs)) ∧ Q (.bl b) H
theorem call_isX {X : Cx} {a D : Addr} {d : Option Addr} {oe : Obj} {pn : List (Addr × Obj)} (C : ExcC X.K D) (hz : Zc (.ref D) d oe) (hf : ∃ vs, oe.data = .fields vs) : CallR (X.suite a ((a, oe) :: pn)) (.builtin "isinstance") (rIsX X.K D a d) := by
  intro pins s σ H xs us Q I r h
  obtain ⟨c, cv, b, rfl, hcv, e, hdd, q⟩ := h
  cases r with
  | cons rx rr =>
    cases rr with
    | cons rt rr =>
      cases rr
      cases rx
      have ec := hcv _ rt
      subst ec
      obtain ⟨hget, _⟩ := I.pin (a, oe) (List.mem_append.mpr (.inl List.mem_cons_self))
      obtain ⟨vs, hv⟩ := hf
      have hcl : (PySem.W.clsIn X.K D).isSome = true := by
        obtain ⟨cd, hc, _⟩ := PySem.W.any_some C.hd
        rw [hc]; rfl
      have J : ∃ od, PySem.W.InstAt s.heap a oe D od := by
        obtain ⟨oc, od, oda, osl⟩ := oe
        obtain ⟨h1, h2⟩ := hz
        dsimp only at h1 h2 hv
        subst h1 h2 hv
        cases od with
        | none => exact ⟨none, hget, rfl, rfl, trivial⟩
        | some dd =>
          obtain ⟨fs, hx⟩ := hdd dd rfl
          have hx' : ObjOk X.prog X.w H s.heap dd (.xd fs) := I.hok dd _ hx
          obtain ⟨mA, hns, _⟩ := hx'
          obtain ⟨od, ho, _⟩ := lookIn_ns hns
          exact ⟨some od, hget, rfl, rfl, ho⟩
      obtain ⟨od, J⟩ := J
      exact PySem.W.kia_one (PySem.W.kitx_exc hcl C.hg C.hk C.hs C.ha C.hn C.ht C.hm) I.kIn J e (fun z => nomatch z) fun tk => ⟨.bl b, H, I.kept (t' := tk) fun _ _ z => z, rfl, q⟩
section
variable {X : Cx} {a D : Addr} {d : Option Addr} {oe : Obj} {pn : List (Addr × Obj)} {e c : Expr} {ρ : List En} {fs : List (Str × As)} {pos p : Pos} {b : Bool} {x f : Str} {B : As}
theorem ea_isXc (C : ExcC X.K D) (hz : Zc (.ref D) d oe) (hf : ∃ vs, oe.data = .fields vs) {cv : V} {cu : Value} (he : EA (X.suite a ((a, oe) :: pn)) e ρ (xcA a d fs)) (hcx : PE (X.suite a ((a, oe) :: pn)) c (tC cv)) (hcv : ∀ u, RelV cv u → u = cu) (hk : PySem.W.kitOne X.K (.ref D) cu = some b) (hm : X.mg "isinstance" = none)
    (hg : Gl X "isinstance" := by rfl) (hs : starEach [e, c] X.env = (false, eval e X.env) :: starEach [c] X.env := by rfl) (hs2 : starEach [c] X.env = (false, eval c X.env) :: starEach [] X.env := by rfl) (hpl : (backTo pos (starEach [c] X.env)).any (·.1) = false := by rfl) :
    EA (X.suite a ((a, oe) :: pn)) (.Call (.Name "isinstance" p) [e, c] [] pos) ρ (bl b) :=
  pe_imp (pe_callB (call_isX C hz hf) hg hm bo_isi (pa_cons he (pa_cons hcx pa_nil hs2) hs) (he := hs) (hpl := hpl)) fun σ H Q ⟨H0, F, S, k⟩ => ⟨H0, F, S, fun v H1 F1 g1 ⟨ev, hd⟩ => by
    subst ev
    refine ⟨cv, cu, b, rfl, hcv, hk, fun dd ed => ?_, k _ H1 F1 g1 rfl⟩
    subst ed
    obtain ⟨vs, h1, _⟩ := hd
    exact ⟨_, g1.i dd _ h1⟩⟩
/-- isinstance(e, C2), C2 an own class -/
theorem ea_isXo {E : Addr} {p2 : Pos} (C : ExcC X.K D) (hz : Zc (.ref D) d oe) (hf : ∃ vs, oe.data = .fields vs) (he : EA (X.suite a ((a, oe) :: pn)) e ρ (xcA a d fs)) (hE : X.mg x = some (.ref E)) (hk : PySem.W.kitOne X.K (.ref D) (.ref E) = some b) (hm : X.mg "isinstance" = none) (hgx : Gl X x := by rfl) (hdx : (x == ("__debug__" : Str)) = false := by decide)
    (hg : Gl X "isinstance" := by rfl) (hs : starEach [e, .Name x p2] X.env = (false, eval e X.env) :: starEach [.Name x p2] X.env := by rfl) (hs2 : starEach [.Name x p2] X.env = (false, eval (.Name x p2) X.env) :: starEach [] X.env := by rfl) (hpl : (backTo pos (starEach [.Name x p2] X.env)).any (·.1) = false := by rfl) :
    EA (X.suite a ((a, oe) :: pn)) (.Call (.Name "isinstance" p) [e, .Name x p2] [] pos) ρ (bl b) :=
  ea_isXc C hz hf he (pe_glob (v := .ref E) hgx hE rfl hdx) (fun u r => r) hk hm hg hs hs2 hpl
/-- isinstance(e, T), T a built-in class -/
theorem ea_isXb {T : String} {p2 : Pos} (C : ExcC X.K D) (hz : Zc (.ref D) d oe) (hf : ∃ vs, oe.data = .fields vs) (he : EA (X.suite a ((a, oe) :: pn)) e ρ (xcA a d fs)) (hmx : X.mg x = none) (hT : bootBuiltins x = some (.type T)) (hk : PySem.W.kitOne X.K (.ref D) (.type T) = some b) (hm : X.mg "isinstance" = none) (hgx : Gl X x := by rfl) (hdx : (x == ("__debug__" : Str)) = false := by decide) (hnx : x ≠ "__name__" := by decide)
    (hg : Gl X "isinstance" := by rfl) (hs : starEach [e, .Name x p2] X.env = (false, eval e X.env) :: starEach [.Name x p2] X.env := by rfl) (hs2 : starEach [.Name x p2] X.env = (false, eval (.Name x p2) X.env) :: starEach [] X.env := by rfl) (hpl : (backTo pos (starEach [.Name x p2] X.env)).any (·.1) = false := by rfl) :
    EA (X.suite a ((a, oe) :: pn)) (.Call (.Name "isinstance" p) [e, .Name x p2] [] pos) ρ (bl b) :=
  ea_isXc C hz hf he (pe_bltn (v := .ty T) hgx hmx hT rfl hnx hdx) (fun u r => r) hk hm hg hs hs2 hpl
/-- e.f -/
theorem ea_fldX (C : ExcC X.K D) (hz : Zc (.ref D) d oe) (hf : ∃ vs, oe.data = .fields vs) (hno : PySem.W.findIn X.K (.ref D) f = some none) (he : EA (X.suite a ((a, oe) :: pn)) e ρ (xcA a d fs)) (hl : fs.lookup f = some B)
    (hb : attributeBase e f X.env (eval e X.env) = eval e X.env := by rfl) : EA (X.suite a ((a, oe) :: pn)) (.Attribute e f pos) ρ B := by
  refine ⟨fun pins s σ H Q I ⟨H0, F, S, k⟩ => ?_⟩
  refine attr_of hb (thn (he.run pins s σ H (fun v H' => ∃ F', Gr F H F' H' ∧ v = .ref a ∧ dctP fs d F') I ⟨H0, F, S, fun v H' F' g hv => ⟨F', g, hv⟩⟩) fun u s1 hh => ?_)
  obtain ⟨x, H1, I1, rx, F1, g1, ex, hd⟩ := hh
  subst ex
  obtain rfl : u = Value.ref a := rx
  obtain ⟨ha, _⟩ := I1.pin (a, oe) (List.mem_append_left _ List.mem_cons_self)
  obtain ⟨vs, hdt⟩ := hf
  cases d with
  | none =>
    have hd : fs = [] := hd
    rw [hd] at hl
    cases hl
  | some dd =>
    obtain ⟨us, h1, h2⟩ := hd
    have hx : ObjOk X.prog X.w H1 s1.heap dd (.xd ((fs.map Prod.fst).zip us)) := I1.hok dd _ (g1.i dd _ h1)
    obtain ⟨mA, hns, hr⟩ := hx
    obtain ⟨od, ho, hlk⟩ := lookIn_ns hns
    obtain ⟨w, hw, hB⟩ := zip_lookup h2 hl
    obtain ⟨u, hu, ru⟩ := RelO.some_of (v := w) (o := mA f) (by rw [← hw]; exact hr f)
    have J : PySem.W.InstAt s1.heap a oe D (some od) := ⟨ha, hz.1, by unfold PySem.W.notCls; rw [hdt] <;> rfl, by rw [hz.2]; exact ho⟩
    exact HandSPX.exc_get I1.kIn J C.hg C.hk C.hs (PySem.W.findObj_own C.hd hno rfl (by rw [hlk, hu])) (handed_of ru) ⟨w, H1, I1.tok _, ru, k w H1 F1 g1 hB⟩
end
/-! ### defs that may be called within a suite -/
structure FnA (P : Program) (w : World) (K : PySem.W.Frag) (mg : Str → Option Value) (base : Heap) (k : Nat) (f : Addr) (fd : FuncData) (ps : List Str) (sp : Sp) : Prop where
  len : ∀ vs H Q E, sp vs H Q E → vs.length = ps.length
  run : ∀ (A : Around) (outer : List Env) (s : Shared) (H : Hp) (args : Args) (us : List Value) (vs : List V) (Q : VK) (E : XK), L2H.RoomH k A → Env0 P w K mg base A outer s H → BindsTo s fd args (ps.zip us) → Vals vs us → sp vs H Q E →
    codeAny (model P w) A (.call (.ref f) args) (CR CX0 outer P w H s Q E) s
theorem FnA.ok {P : Program} {w : World} {K : PySem.W.Frag} {mg : Str → Option Value} {base : Heap} {k : Nat} {f : Addr} {fd : FuncData} {ps : List Str} {sp : Sp} (F : FnA P w K mg base k f fd ps sp) : FnOk P w K mg base CX0 k f fd ps sp :=
  ⟨F.len, fun A outer s H args us vs Q E hr e0 hb r h => F.run A outer s H args us vs Q E (L2H.roomH_of hr) e0 hb r h⟩
abbrev cxA (P : Program) (w : World) (K : PySem.W.Frag) (mg : Str → Option Value) (base : Heap) (N : List Str) (qual : Str) (scope : Scope) (f : Addr) (cd : Value) (A : Around) (outer : List Env) (s : Shared) (H : Hp) (E : XK) : Cx :=
  { cxOf CX0 P w K mg base N qual scope f cd A outer s H E with calm := false }
theorem inv_startA {P : Program} {w : World} {K : PySem.W.Frag} {mg : Str → Option Value} {base : Heap} {N ps : List Str} {qual : Str} {scope : Scope} {f : Addr} {cd : Value} {A : Around} {outer : List Env} {s s1 : Shared} {H : Hp} {E : XK} {us : List Value} {vs : List V}
    (S : FnScope N ps scope) (e0 : Env0 P w K mg base A outer s H) (hl : vs.length = ps.length) (r : Vals vs us)
    (x : InCallC s s.heap.objs.size (bindL (envOfC qual scope s.heap.objs.size f cd).kindOf (ps.zip us) fun _ => none) (cellsFrom (s.heap.objs.size + 1) scope.names []) (bindC (envOfC qual scope s.heap.objs.size f cd).kindOf (ps.zip us) fun _ => none) s1) :
    Inv (cxA P w K mg base N qual scope f cd A outer s H E) [] (L2.start N vs) H s1 := by
  have hpl : ps.length ≤ N.length := by have := congrArg List.length S.pre; rw [List.length_take] at this; omega
  obtain ⟨h1, tk, rfl, hk⟩ := x.done
  have noA : ∀ b : Addr, b ∉ (cxA P w K mg base N qual scope f cd A outer s H E).ex := fun b z => absurd (show b ∈ ([] : List Addr) from z) (by simp)
  refine ⟨⟨e0.mod, S.kind, rfl, rfl, Nat.le_refl _, fun y z c h1 h2 => ?_, fun y hy => ?_, fun y c _ h => ?_, (fun z => Bool.noConfusion (show false = true from z)), Around.frames_deeper e0.frames, .inr ⟨rfl, rfl⟩, fun b z => absurd z (noA b), e0.bs, e0.bsz, fun b _ _ => noA b, fun b z => absurd z (noA b), e0.funs, e0.frf⟩,
    rfl, e0.bare, Un.kept hk, ⟨_, x.toInCall.ns, fun i y v h1 h2 h3 => ?_⟩, fun y c h => ⟨_, x.cell y c h⟩, e0.hok.fresh (Nat.le_refl _), fun y c h => ?_, fun q hq => absurd (show q ∈ ([] : List (Addr × Obj)) from hq) (by simp), e0.hok.kept hk, ?_⟩
  · exact name_of_addr x.apart (PySem.mem_of_lookup h1) (PySem.mem_of_lookup h2)
  · have hy : scope.names.lookup y = some .cell ∨ scope.names.lookup y = some .free := hy
    rcases hy with hy | hy
    · exact cell_has hy
    · exact absurd rfl (S.nofree _ (PySem.mem_of_lookup hy))
  · exact Nat.le_of_lt (x.above y c (PySem.mem_of_lookup h))
  · have hi : i < vs.length := by
      unfold L2.start at h2
      by_cases hi : i < vs.length
      · exact hi
      · rw [List.getElem?_append_right (by simpa using hi)] at h2
        rw [List.getElem?_replicate] at h2
        split at h2 <;> cases h2
    have ha : vs[i]? = some v := by
      unfold L2.start at h2
      rw [List.getElem?_append_left (by simpa using hi), List.getElem?_map] at h2
      cases e : vs[i]? with
      | none => rw [e] at h2; cases h2
      | some a => rw [e] at h2; cases h2; rfl
    obtain ⟨u, hu, rv⟩ := r.get ha
    have hp : ps[i]? = some y := by
      rw [← S.pre, List.getElem?_take_of_lt (by omega)]; exact h1
    have ndP : ps.Nodup := by rw [← S.pre]; exact S.nd.sublist (List.take_sublist _ _)
    refine ⟨u, rv, ?_⟩
    rcases S.par y (List.mem_of_getElem? hp) with k | k
    · exact .inl ⟨k, bindL_get ndP hp hu k⟩
    · obtain ⟨c, e⟩ := cell_has (n := s.heap.objs.size + 1) k
      refine .inr ⟨.inl k, c, e, ?_⟩
      have q := x.cell y c e
      rw [bindC_get ndP hp hu (by show scope.names.lookup y ≠ _; rw [k]; decide)] at q
      exact q
  · exact e0.hok.fresh (Nat.le_of_lt (x.above y c (PySem.mem_of_lookup h)))
  · unfold L2.start
    show _ = N.length
    rw [List.length_append, List.length_map, List.length_replicate]
    omega
theorem fn_okA {P : Program} {w : World} {K : PySem.W.Frag} {mg : Str → Option Value} {base : Heap} {x qual : Str} {st : Stmt} {f : Addr} {fd : FuncData} {N ps : List Str} {k : Nat} {ι : Type} {pre : ι → Prop} {l : ι → List As} {A : ι → As} (F : Fun K x qual st f fd) (S : FnScope N ps (defScope st)) (hl : ∀ i, pre i → (l i).length = ps.length)
    (hb : ∀ (i : ι) (cdv : Value) (B : Around) (outer : List Env) (s : Shared) (H : Hp) (E : XK), pre i → L2H.RoomH k (B.deeper (PyProof.Rows.envOfC qual (defScope st) s.heap.objs.size f cdv)) →
      BA (cxA P w K mg base N qual (defScope st) f cdv B outer s H E) (defBody st) (entry N (l i)) (fun _ => ∀ F, (A i).p F .non) { R := A i }) : FnA P w K mg base (k + 1) f fd ps (spX pre l A) := by
  obtain ⟨oc, od, kV, doc, pm, an, cdv, ct, osl, rfl, lk, hcd⟩ := F.ex
  have len : ∀ vs H Q E, spX pre l A vs H Q E → vs.length = ps.length := fun vs H Q E h => by
    obtain ⟨i, hp, F, e, hv, _⟩ := h
    rw [hv.length, hl i hp]
  refine ⟨len, fun A' outer s H args us vs Q E hr e0 hb' r hsp => ?_⟩
  have hl' := len _ _ _ _ hsp
  obtain ⟨i, hp, F1, e, hv, q⟩ := hsp
  have KX : K.In s.heap := e0.mod.kin.keeps fun b o e => (e0.bs b o e).1
  have lim : s.heap.NoLimit := e0.mod.nolimit.keeps fun b o e => (e0.bs b o e).1
  have hkind : ∀ y ∈ ps.zip us, (defScope st).names.lookup y.1 = some .local ∨ ((defScope st).names.lookup y.1 = some .cell ∧ ((cellsFrom (s.heap.objs.size + 1) (defScope st).names []).lookup y.1).isSome = true) := fun ⟨n, v⟩ hy => by
    rcases S.par n (List.of_mem_zip hy).1 with q | q
    · exact .inl q
    · exact .inr ⟨q, PySem.W.cellsFrom_some _ _ _ (.inl q)⟩
  refine codeAny_call_function hr.depth (KX _ _ lk) rfl S.co S.gen rfl (PySem.W.codeRec_of KX hcd) (hb' _ _ _ _ ?_)
  refine wpAny_newFunctionEnv_cells S.kind hkind fun env he s1 x => ?_
  subst he
  refine ⟨lim.keeps x.toInCall.keep, codeAny_func ?_⟩
  have ht := hb i cdv A' outer s H E hp (hr.deeper _)
  have I : Inv (cxA P w K mg base N qual (defScope st) f cdv A' outer s H E) [] (L2.start N vs) H s1 := inv_startA S e0 hl' r x
  have hq : sA (entry N (l i)) (fun _ => ∀ F, (A i).p F .non) { R := A i } { nx := fun _ H' => Q .non H', rt := Q } (L2.start N vs) H := by
    refine ⟨F1, H, F1, .refl e, sat_start (ps := ps) e hv, fun ρ' σ' H' F' hn g' S' => q .non H' F' g' (hn F'), fun v H' F' g' hv => q v H' F' g' hv, fun _ _ _ _ z => z.elim, fun _ _ _ _ z => z.elim, fun _ _ _ _ _ _ z => z.elim⟩
  refine wpAny_mono (ht.run [] s1 (L2.start N vs) H _ I hq) (fun fl s' hs => ?_) fun e s' hs => hs
  have fin : ∀ {σ' : L2.St} {H' : Hp} {v : V} {u : Value}, Inv (cxA P w K mg base N qual (defScope st) f cdv A' outer s H E) [] σ' H' s' → RelV v u → Q v H' → CE outer P w H s Q u s' :=
    fun {σ' H' v u} J rv q => ⟨v, H', J.os, J.bare, J.base, J.hok, rv, q⟩
  cases fl with
  | ret u =>
    obtain ⟨v, σ', H', J, rv, q⟩ := hs
    exact fin J rv q
  | next =>
    obtain ⟨σ', H', J, q⟩ := hs
    exact fin (v := V.non) (u := Value.none) J rfl q
  | brk =>
    obtain ⟨_, _, _, q⟩ := hs
    exact False.elim q
  | cont =>
    obtain ⟨_, _, _, q⟩ := hs
    exact False.elim q
structure DfA (P : Program) (w : World) (K : PySem.W.Frag) (mg : Str → Option Value) (base : Heap) (k : Nat) (x : Str) (ps : List Str) (sp : Sp) : Prop where
  ex : ∃ f fd, FnA P w K mg base k f fd ps sp ∧ mg x = some (.ref f) ∧ PySem.W.keepIn K (.ref f) = true ∧ Binds K fd ps []
theorem DfA.df {P : Program} {w : World} {K : PySem.W.Frag} {mg : Str → Option Value} {base : Heap} {k : Nat} {x : Str} {ps : List Str} {sp : Sp} (D : DfA P w K mg base k x ps sp) : Df P w K mg base k x ps sp :=
  let ⟨f, fd, h1, h2⟩ := D.ex
  ⟨f, fd, h1.ok, h2⟩
theorem roomA_mark {k : Nat} {A : Around} {v : Option Value} (r : L2H.RoomH k A) : L2H.RoomH k (A.mark v) := ⟨r.dp, r.un⟩
/-- a call, also within a suite -/
theorem ea_callA {X : Cx} {e : Expr} {es : List Expr} {ρ : List En} {pos : Pos} {k : Nat} {x : Str} {ps : List Str} {ι : Type} {pre : ι → Prop} {l : ι → List As} {A : ι → As} {p : Pos} (D : DfA X.prog X.w X.K X.mg X.base k x ps (spX pre l A)) (hr : L2H.RoomH k X.A) (i : ι) (hp : pre i) (ha : EAs X (e :: es) ρ (l i)) (hg : Gl X x := by rfl)
    (hdb : (x == ("__debug__" : Str)) = false := by decide) (he : starEach (e :: es) X.env = (false, eval e X.env) :: starEach es X.env := by rfl) (hpl : (backTo pos (starEach es X.env)).any (·.1) = false := by rfl) : EA X (.Call (.Name x p) (e :: es) [] pos) ρ (A i) := by
  obtain ⟨f, fd, G, hm, hk, hb⟩ := D.ex
  refine ⟨fun pins s σ H Q I ⟨H0, F, S, q⟩ => ?_⟩
  refine wpAny_Call_Name_kw (ld_glob I hg hm ?_ hdb)
  refine PySem.W.callWith_K (h₀ := X.base) I.ok.mod.kin hk (thn (ha.run pos pins s σ H (fun vs H1 => spX pre l A vs H1 Q E0) I ⟨H0, F, S, fun vs H1 F1 g1 h1 => ⟨i, hp, F1, g1.i, h1, fun v H' F' g hv => q v H' F' (g1.trans g) hv⟩⟩) fun us s1 ⟨vs, H1, I1, r, hsp⟩ => ⟨I1.kIn, ?_⟩) he hpl
  have hl := G.len _ _ _ _ hsp
  refine wpAny_call (codeAny_mono (G.run X.A X.stack s1 H1 ⟨us, []⟩ us vs Q E0 hr I1.env0 (by
    have z := hb s1 us I1.kIn (by rw [List.append_nil, ← r.length]; exact hl)
    rwa [List.append_nil] at z) r hsp) fun r s' hq => ?_)
  cases r with
  | error e => exact hq.elim
  | ok fl =>
    cases fl with
    | ret u => exact I1.after hq
    | next => exact False.elim hq
    | brk => exact False.elim hq
    | cont => exact False.elim hq
end Lk

set_option Elab.async false
set_option linter.all false
set_option maxRecDepth 100000
set_option maxHeartbeats 4000000
namespace Lk
open PySem PySem.Calls L2 PySem.Spec PyProof.Rows
section
variable {X : Cx} {e a b c o it tg : Expr} {es : List Expr} {ρ : List En} {A B : As} {pos apos p1 p2 : Pos} {k : Nat} {l m : List As} {C : Addr} {fs : List (Str × As)} {x : Str}
/-! ### a list or a tuple -/
theorem es_sq {q : Bool} (h : EA X it ρ (sq q l)) : ES X tg it ρ l := by
  cases q with
  | true => exact es_l h
  | false => exact es_t h
theorem ea_lenSq {q : Bool} {p : Pos} (ha : EA X a ρ (sq q l)) (hm : X.mg "len" = none) (hg : Gl X "len" := by rfl) (hs : starEach [a] X.env = (false, eval a X.env) :: starEach [] X.env := by rfl) (hpl : (backTo pos (starEach [] X.env)).any (·.1) = false := by rfl) : EA X (.Call (.Name "len" p) [a] [] pos) ρ (int (l.length : Int)) := by
  cases q with
  | true => exact ea_lenL (ea_l ha) hm hg hs hpl
  | false => exact ea_lenTp ha hm hg hs hpl
theorem ea_ixSq {q : Bool} {i : Int} {j : Nat} (ha : EA X a ρ (sq q l)) (hb : EW X b ρ (int i)) (hi : i = (j : Int)) (hj : l[j]? = some A) (hs : PlainIx b := by exact fun _ _ => rfl) : EA X (.Subscript a b pos) ρ A := by
  cases q with
  | true => exact ea_ixL (ea_l ha) hb hi hj hs
  | false => exact ea_ixT ha hb hi hj hs
/-! ### a <= b < c -/
theorem ea_chainLeLt {x y z : Int} (ha : EW X a ρ (int x)) (hb : EW X b ρ (int y)) (hc : EW X c ρ (int z)) (hm : lastMarks [.LtE, .Lt] [b, c] = false) : EA X (.Compare a [.LtE, .Lt] [b, c] pos) ρ (bl (decide (x ≤ y) && decide (y < z))) :=
  pe_imp (pe_chain op_le op_lt ha hb hc hm) fun σ H Q ⟨H0, F, S, q⟩ => ⟨H0, F, S, fun v H1 F1 g1 h1 => ⟨H0, F1, S.gr g1, fun u H2 F2 g2 h2 => by
    have h1 : v = .int x := h1
    have h2 : u = .int y := h2
    subst h1 h2
    refine ⟨x, y, rfl, rfl, _, rfl, ?_⟩
    have g := g1.trans g2
    by_cases hxy : x ≤ y
    · rw [if_pos (decide_eq_true hxy)]
      refine ⟨H0, F2, (S.gr g1).gr g2, fun t H3 F3 g3 h3 => ?_⟩
      have h3 : t = .int z := h3
      subst h3
      refine ⟨y, z, rfl, rfl, q _ H3 F3 (g.trans g3) ?_⟩
      show V.bl _ = V.bl _
      rw [decide_eq_true hxy, Bool.true_and]
    · rw [if_neg (by simpa using hxy)]
      refine q _ H2 F2 g ?_
      show V.bl _ = V.bl _
      rw [decide_eq_false hxy, Bool.false_and]⟩⟩
theorem et_chainLeLt {x y z : Int} (ha : EW X a ρ (int x)) (hb : EW X b ρ (int y)) (hc : EW X c ρ (int z)) (hm : lastMarks [.LtE, .Lt] [b, c] = false) : ET X (.Compare a [.LtE, .Lt] [b, c] pos) ρ (decide (x ≤ y) && decide (y < z)) :=
  pt_imp (pt_chain op_le op_lt ha hb hc hm) fun σ H Q ⟨H0, F, S, q⟩ => ⟨H0, F, S, fun v H1 F1 g1 h1 => ⟨H0, F1, S.gr g1, fun u H2 F2 g2 h2 => by
    have h1 : v = .int x := h1
    have h2 : u = .int y := h2
    subst h1 h2
    refine ⟨x, y, rfl, rfl, _, rfl, ?_⟩
    have g := g1.trans g2
    by_cases hxy : x ≤ y
    · rw [if_pos (decide_eq_true hxy)]
      refine ⟨H0, F2, (S.gr g1).gr g2, fun t H3 F3 g3 h3 => ?_⟩
      have h3 : t = .int z := h3
      subst h3
      refine ⟨y, z, rfl, rfl, _, rfl, ?_⟩
      have e : (decide (x ≤ y) && decide (y < z)) = decide (y < z) := by rw [decide_eq_true hxy, Bool.true_and]
      rw [← e]
      exact q H3 F3 (g.trans g3)
    · rw [if_neg (by simpa using hxy)]
      have e : (decide (x ≤ y) && decide (y < z)) = false := by rw [decide_eq_false hxy, Bool.false_and]
      rw [← e]
      exact ⟨_, rfl, q H2 F2 g⟩⟩⟩
/-! ### isinstance -/
/-- isinstance(e, T), T a built-in class, e's type known -/
theorem ea_isT {T : String} {t : Value} {bb : Bool} {x : Str} (he : EA X e ρ A) (ty : ∀ F H v, Ex F H → A.p F v → TyOf X.K H v t) (hmx : X.mg x = none) (hT : bootBuiltins x = some (.type T)) (hk : PySem.W.kitOne X.K t (.type T) = some bb) (hm : X.mg "isinstance" = none) (hgx : Gl X x := by rfl) (hdx : (x == ("__debug__" : Str)) = false := by decide) (hnx : x ≠ "__name__" := by decide)
    (hg : Gl X "isinstance" := by rfl) (hs : starEach [e, .Name x p2] X.env = (false, eval e X.env) :: starEach [.Name x p2] X.env := by rfl) (hs2 : starEach [.Name x p2] X.env = (false, eval (.Name x p2) X.env) :: starEach [] X.env := by rfl) (hpl : (backTo pos (starEach [.Name x p2] X.env)).any (·.1) = false := by rfl) :
    EA X (.Call (.Name "isinstance" p1) [e, .Name x p2] [] pos) ρ (bl bb) :=
  pe_imp (pe_callB call_isi hg hm bo_isi (pa_cons he (pa_cons (pe_bltn (v := .ty T) hgx hmx hT rfl hnx hdx) pa_nil hs2) hs) (he := hs) (hpl := hpl)) fun σ H Q ⟨H0, F, S, k⟩ => ⟨H0, F, S, fun v H1 F1 g1 h1 =>
    ⟨v, .ty T, t, .type T, bb, rfl, .ty _, .base (ty F1 H1 v g1.i h1), hk, k _ H1 F1 g1 rfl⟩⟩
theorem kit_int_int {K : PySem.W.Frag} : PySem.W.kitOne K (.type "int") (.type "int") = some true := kit_ty (by decide +kernel)
theorem kit_int_bool {K : PySem.W.Frag} : PySem.W.kitOne K (.type "int") (.type "bool") = some false := kit_ty (by decide +kernel)
theorem kit_tup_tup {K : PySem.W.Frag} : PySem.W.kitOne K (.type "tuple") (.type "tuple") = some true := kit_ty (by decide +kernel)
theorem ty_int {K : PySem.W.Frag} {i : Int} : ∀ F H v, Ex F H → (int i).p F v → TyOf K H v (.type "int") := fun F H v _ h => by
  have h : v = .int i := h
  subst h
  exact .int i
theorem ty_tup {K : PySem.W.Frag} : ∀ F H v, Ex F H → (tupA l).p F v → TyOf K H v (.type "tuple") := fun F H v e ⟨a, xs, ev, h1, _⟩ => by
  subst ev
  exact .tup (e a _ h1)
theorem bo_int2 : bootBuiltins ("int" : Str) = some (.type "int") := bo_int
/-- what an own class wants for isinstance -/
structure IsO (K : PySem.W.Frag) (C : Addr) : Prop where
  cl : Cls K C
  ha : PySem.W.findIn K (.ref C) "__class__" = some (some (.builtin "object.__class__"))
  hn : PySem.W.specialIn K (.builtin "object.__class__") "__get__" = some (some (.builtin "getset_descriptor.__get__"))
  ht : PySem.W.takesIn K (.builtin "object.__class__") = some true
  hm : PySem.W.mroIn K C (.type "object") = some true
/-- isinstance(e, C), e an object of the class itself -/
theorem ea_isO {x : Str} (T : IsO X.K C) (he : EA X e ρ (insA C fs)) (hmx : X.mg x = some (.ref C)) (hm : X.mg "isinstance" = none) (hgx : Gl X x := by rfl) (hdx : (x == ("__debug__" : Str)) = false := by decide)
    (hg : Gl X "isinstance" := by rfl) (hs : starEach [e, .Name x p2] X.env = (false, eval e X.env) :: starEach [.Name x p2] X.env := by rfl) (hs2 : starEach [.Name x p2] X.env = (false, eval (.Name x p2) X.env) :: starEach [] X.env := by rfl) (hpl : (backTo pos (starEach [.Name x p2] X.env)).any (·.1) = false := by rfl) :
    EA X (.Call (.Name "isinstance" p1) [e, .Name x p2] [] pos) ρ (bl true) :=
  pe_imp (pe_callB call_isi hg hm bo_isi (pa_cons he (pa_cons (pe_glob (v := .ref C) hgx hmx rfl hdx) pa_nil hs2) hs) (he := hs) (hpl := hpl)) fun σ H Q ⟨H0, F, S, k⟩ => ⟨H0, F, S, fun v H1 F1 g1 ⟨a, dx, vs, ev, h1, h2⟩ => by
    subst ev
    refine ⟨.ref a, .ref C, .ref C, .ref C, true, rfl, .own C, .base (.ins (g1.i a _ h1) T.cl T.ha T.hn T.ht T.hm), ?_, k _ H1 F1 g1 rfl⟩
    unfold PySem.W.kitOne
    rw [if_pos (by simp)]⟩
end
/-! ### for x in a source that stays -/
section
variable {X : Cx} {ρ : List En} {pos : Pos} {it : Expr} {sts : List Stmt} {Nx : List En → Prop} {W : Wn} {l : List As}
theorem sa_forS (j : Nat) {x : Str} {px : Pos} (I : Nat → List En → Prop) (hp : PassesOwn (model X.prog X.w) X.A X.env X.xe) (hcalm : X.calm = true) (hN : X.N.Nodup) (hi : ES X (.Name x px) it ρ l) (h0 : ∃ ρ0, I 0 ρ0 ∧ Le ρ0 ρ)
    (hs : ∀ n A ρ', l[n]? = some A → I n ρ' → BA X sts (ρ'.set j (.fr A)) (fun ρ2 => ∃ ρ3, I (n + 1) ρ3 ∧ Le ρ3 ρ2) { W with B := Nx, C := fun ρ2 => ∃ ρ3, I (n + 1) ρ3 ∧ Le ρ3 ρ2 })
    (hd : ∀ ρ', I l.length ρ' → Nx ρ') (hj : X.N[j]? = some x := by rfl) (hx : Loc X.env.scope x := by first | exact .inl rfl | exact .inr rfl) (hf : X.fn x = true ∨ X.env.scope.names.lookup x = some .local := by first | exact .inl rfl | exact .inr rfl | assumption)
    (hfo : ∀ z, foldedSetIterable it X.env z = pure z := by intro _; rfl) :
    SA X (.For (.Name x px) it sts [] pos) ρ Nx W := by
  have hb : PSs X sts (tbL I l j W Nx) := ⟨fun pins s σ H D I' ⟨n, A, ρ', h1, h2, q⟩ => (hs n A ρ' h1 h2).run pins s σ H D I' q⟩
  refine ps_imp (ps_for hp hcalm hi (pg_name hN hj hx hf) hb hfo) fun D σ H ⟨F0, H0, F, g, S, q1, q2, q3, q4, q5⟩ => ?_
  refine ⟨H0, F, S, fun J So xs H1 F1 g1 hall hJ hS => ?_⟩
  have gA := g.trans g1
  -- behind n turns
  let Pv : Nat → L2.St → Hp → Prop := fun n σ' H' => ∃ ρ' F', I n ρ' ∧ Gr F0 H0 F' H' ∧ Ex F1 F' ∧ Sat H0 F' σ' H' ρ'
  refine ⟨fun n m σ' H' => m = xs.length - n ∧ n ≤ xs.length ∧ Pv n σ' H', ⟨xs.length, by simp, Nat.zero_le _, ?_⟩, ?_⟩
  · obtain ⟨ρ0, i0, le⟩ := h0
    exact ⟨ρ0, F1, i0, gA, Ex.refl F1, (S.gr g1).le le⟩
  rintro n m σ' H' ⟨rfl, hn', ρ', F', hI, g', x', S'⟩
  obtain ⟨s1, s2, s3⟩ := hJ n H' (hS H' (x'.trans g'.i))
  by_cases hlt : n < xs.length
  · have hn : n < l.length := by rw [← hall.length]; exact hlt
    refine .inr ⟨s1 xs[n] (by simp [hlt]), Pv (n + 1), fun σ2 H2 p => ⟨xs.length - (n + 1), by omega, rfl, hlt, p⟩, fun y H2 yl => ?_⟩
    obtain ⟨e, hy⟩ := s2 hlt y H2 yl
    subst e
    obtain ⟨u, hu, hA⟩ := hall.get (List.getElem?_eq_getElem hn)
    rw [hy] at hu
    have e : y = u := by simpa using hu
    subst e
    have fin : ∀ ρ2 σ2 H2 F2, (∃ ρ3, I (n + 1) ρ3 ∧ Le ρ3 ρ2) → Gr F0 H0 F2 H2 → Ex F' F2 → Sat H0 F2 σ2 H2 ρ2 → Pv (n + 1) σ2 H2 := fun ρ2 σ2 H2 F2 ⟨ρ3, i3, le⟩ g2 x2 S2 => ⟨ρ3, F2, i3, g2, x'.trans x2, S2.le le⟩
    refine ⟨n, l[n], ρ', List.getElem?_eq_getElem hn, hI, F', H0, F', ?_, S'.set (l[n].mono x' hA), ?_, ?_, ?_, ?_, ?_⟩
    · exact ⟨Ex.refl F', g'.h, g'.i, fun a o z1 z2 => z2⟩
    · intro ρ2 σ2 H2 F2 hm g2 S2
      exact fin ρ2 σ2 H2 F2 hm ⟨g'.f.trans g2.f, g2.h, g2.i, fun a o z1 z2 => g2.n a o z1 (g'.n a o z1 z2)⟩ g2.f S2
    · intro v H2 F2 g2 hv
      exact q2 v H2 F2 ⟨g'.f.trans g2.f, g2.h, g2.i, fun a o z1 z2 => g2.n a o z1 (g'.n a o z1 z2)⟩ hv
    · intro ρ2 σ2 H2 F2 hm g2 S2
      exact q1 ρ2 σ2 H2 F2 hm ⟨g'.f.trans g2.f, g2.h, g2.i, fun a o z1 z2 => g2.n a o z1 (g'.n a o z1 z2)⟩ S2
    · intro ρ2 σ2 H2 F2 hm g2 S2
      exact fin ρ2 σ2 H2 F2 hm ⟨g'.f.trans g2.f, g2.h, g2.i, fun a o z1 z2 => g2.n a o z1 (g'.n a o z1 z2)⟩ g2.f S2
    · intro cls d ρ2 σ2 H2 F2 he g2 S2
      exact q5 cls d ρ2 σ2 H2 F2 he ⟨g'.f.trans g2.f, g2.h, g2.i, fun a o z1 z2 => g2.n a o z1 (g'.n a o z1 z2)⟩ S2
  · have e : n = xs.length := by omega
    subst e
    rw [hall.length] at hI
    exact .inl ⟨s3 (Nat.le_refl _), q1 ρ' σ' H' F' (hd ρ' hI) g' S'⟩
end
/-! ### [.. for a, b in zip(x, y)], tuples of one length -/
theorem wipe_setG {τ : L2.St} {j : Nat} {x : Option V} : ∀ {vs : List Nat}, j ∈ vs → L2.wipe (τ.set j x) vs = L2.wipe τ vs := by
  have at_ : ∀ (vs : List Nat) (τ : L2.St) (i : Nat), i ∈ vs → (L2.wipe τ vs)[i]? = if i < τ.length then some none else none := by
    intro vs
    induction vs with
    | nil => intro τ i h; simp at h
    | cons v vs ih =>
      intro τ i h
      unfold L2.wipe
      by_cases e : v = i
      · subst e
        rw [List.getElem?_set]
        simp [wipe_length]
      · rw [List.getElem?_set_ne e]
        exact ih τ i ((List.mem_cons.mp h).resolve_left fun z => e z.symm)
  intro vs hj
  refine List.ext_getElem? fun i => ?_
  by_cases hi : i ∈ vs
  · rw [at_ vs _ i hi, at_ vs _ i hi, List.length_set]
  · rw [wipe_get hi, wipe_get hi, List.getElem?_set_ne (fun z => hi (by rw [← z]; exact hj))]
section
variable {α : Type} {X : Cx} {ρ : List En} {pos : Pos} {elt a b : Expr} {scope : Scope}
theorem en_lcZ {own : List (Str × Nat)} (j1 j2 : Nat) {x1 x2 : Str} {px1 px2 p1 p2 tp : Pos} {kk : Nat} {l : List α} {e1 e2 : α → As} {g : α → As} (hc : X.calm = true) (hN : X.N.Nodup) (hm : X.mg "zip" = none) (hi : EAs X [a, b] ρ [tupA (l.map e1), tupA (l.map e2)]) (hz : l.length < sizeLine) (ok : BlkOk X.N X.env.scope scope own)
    (hg : ∀ (s : Shared) (H : Hp) (C : Addr) (cl : List (Str × Addr)) (fp : List Addr), PG (X.blk s H scope (compEnvC scope cl C X.env) fp) (.Tuple [.Name x1 px1, .Name x2 px2] kk tp) (gTup X.K 2 (gCons (gName j1) (gCons (gName j2) gNil))))
    (he : ∀ (s : Shared) (H : Hp) (C : Addr) (cl : List (Str × Addr)) (fp : List Addr), ∀ x ∈ l, EA (X.blk s H scope (compEnvC scope cl C X.env) fp) elt (((wipeE ρ (own.map (·.2))).set j1 (.fr (e1 x))).set j2 (.fr (e2 x))) (g x))
    (hj1 : j1 ∈ own.map (·.2) := by decide) (hj2 : j2 ∈ own.map (·.2) := by decide) (hgz : Gl X "zip" := by rfl)
    (hs : starEach [a, b] X.env = (false, eval a X.env) :: starEach [b] X.env := by rfl) (hpl : (backTo p2 (starEach [b] X.env)).any (·.1) = false := by rfl) (hfo : ∀ z, foldedSetIterable (.Call (.Name "zip" p1) [a, b] [] p2) X.env z = pure z := by intro _; rfl) :
    EN X (.ListComp elt [⟨.Tuple [.Name x1 px1, .Name x2 px2] kk tp, .Call (.Name "zip" p1) [a, b] [] p2, [], 0⟩] scope pos) ρ (l.map g) := by
  let vs := own.map (·.2)
  let ρe : α → List En := fun x => ((wipeE ρ vs).set j1 (.fr (e1 x))).set j2 (.fr (e2 x))
  let te : TE := fun σ H Q => ∃ x, x ∈ l ∧ tA (ρe x) (g x) σ H Q
  have hte : ∀ (s : Shared) (H : Hp) (C : Addr) (cl : List (Str × Addr)) (fp : List Addr), PE (X.blk s H scope (compEnvC scope cl C X.env) fp) elt te := fun s H C cl fp => ⟨fun pins s1 σ H1 Q I ⟨x, hx, q⟩ => (he s H C cl fp x hx).run pins s1 σ H1 Q I q⟩
  let tt : TT := fun σ H Q => Q true H
  have htt : ∀ (s : Shared) (H : Hp) (C : Addr) (cl : List (Str × Addr)) (fp : List Addr), PTs (X.blk s H scope (compEnvC scope cl C X.env) fp) [] tt := fun s H C cl fp => ⟨fun pins s1 σ H1 Q I q => pts_nil.run pins s1 σ H1 Q I q⟩
  refine pe_imp (pe_lc (own := own) (tt := tt) (te := te) hc hN (RZ.pi_zipA hgz hm hi hs hpl) ok hg htt hte hfo) fun σ H Q ⟨H0, F, S, k⟩ => ?_
  refine ⟨H0, F, S, fun us H1 F1 g1 hu => ?_⟩
  match us, hu with
  | [v1, v2], ⟨⟨a1, xs, ev1, hx1, hx2⟩, ⟨a2, ys, ev2, hy1, hy2⟩, _⟩ =>
  subst ev1 ev2
  refine ⟨a1, a2, xs, ys, rfl, .inr ⟨SqT.of (g1.i a1 _ hx1), SqT.of (g1.i a2 _ hy1), fun D hD => ?_⟩⟩
  have lx : xs.length = l.length := by rw [hx2.length, List.length_map]
  have ly : ys.length = l.length := by rw [hy2.length, List.length_map]
  let St : Nat → Hp → Prop := fun i H' => ∃ F' acc, Gr F1 H1 F' H' ∧ F' D = none ∧ H' D = some (.lst acc) ∧ AllV F' acc ((l.take i).map g)
  refine ⟨fun i m H' => m = l.length - i ∧ i ≤ l.length ∧ St i H', ⟨l.length, by simp, Nat.zero_le _, F1, [], .newH g1.i hD, g1.i.none hD, upd_same, by simp [AllV]⟩, ?_⟩
  rintro i m H' ⟨rfl, hi', F', acc, G, fD, hDl, hall⟩
  have qx : SqT X.K H' a1 xs := SqT.of (G.i a1 _ (G.f a1 _ hx1))
  have qy : SqT X.K H' a2 ys := SqT.of (G.i a2 _ (G.f a2 _ hy1))
  by_cases hlt : i < l.length
  · have ha : l[i]? = some l[i] := List.getElem?_eq_getElem hlt
    obtain ⟨u1, hu1, hA1⟩ := hx2.get (i := i) (A := e1 l[i]) (by rw [List.getElem?_map, ha]; rfl)
    obtain ⟨u2, hu2, hA2⟩ := hy2.get (i := i) (A := e2 l[i]) (by rw [List.getElem?_map, ha]; rfl)
    have mem : l[i] ∈ l := List.getElem_mem hlt
    refine .inr ⟨⟨xs, ys, u1, u2, qx, qy, hu1, hu2⟩, St (i + 1), fun H2 p => ⟨l.length - (i + 1), by omega, rfl, hlt, p⟩, fun v H2 yl => ?_⟩
    obtain ⟨T, w1, w2, rfl, hT, rfl, f1, f2⟩ := yl
    have e1' : u1 = w1 := by have z := f1 xs qx; rw [hu1] at z; simpa using z
    have e2' : u2 = w2 := by have z := f2 ys qy; rw [hu2] at z; simpa using z
    subst e1' e2'
    have gT : Gr F' H' F' (upd H' T (.tup [u1, u2])) := .newH G.i hT
    have hDT : D ≠ T := fun z => by rw [← z, hDl] at hT; cases hT
    refine ⟨T, [u1, u2], rfl, SqT.of upd_same, rfl, u1, [u2], rfl, u2, [], rfl, rfl, ?_, ?_⟩
    · rw [wipe_setG hj2, wipe_setG hj1]
      have idem := wipe_setG (τ := L2.wipe σ vs) (x := some u1) hj1
      exact (wipe_setG (τ := L2.wipe σ vs) (x := some u1) hj1).symm.trans (wipe_set hj1)
    · show if true = true then _ else _
      rw [if_pos rfl]
      have GT := G.trans gT
      refine ⟨l[i], mem, H0, F', ((((S.gr g1).gr GT).wipe vs).set ((e1 l[i]).mono G.f hA1)).set ((e2 l[i]).mono G.f hA2), fun z H3 F3 g3 hz3 => ?_⟩
      have d2 : upd H' T (.tup [u1, u2]) D = some (.lst acc) := by rw [upd_ne hDT]; exact hDl
      have f3 : F3 D = none := g3.n D _ d2 fD
      have d3 : H3 D = some (.lst acc) := g3.h D _ d2
      have G3 := GT.trans g3
      refine ⟨acc, d3, ?_, F3, acc ++ [z], ⟨G3.f, fun b o q => ?_, fun b o q => ?_, G3.n⟩, f3, upd_same, ?_⟩
      · rw [hall.length, List.length_map, List.length_take]
        omega
      · rw [upd_ne (ne_of_none q hD)]
        exact G3.h b o q
      · rw [upd_ne (ne_of_none q f3)]
        exact G3.i b o q
      · rw [List.take_add_one, ha, List.map_append]
        exact (hall.mono g3.f).snoc hz3
  · have e : i = l.length := by omega
    subst e
    refine .inl ⟨⟨xs, ys, qx, qy, .inl (by omega)⟩, ?_⟩
    rw [List.take_length] at hall
    exact k D acc H' F' (g1.trans G) (g1.h.none hD) fD hDl hall
end
end Lk

set_option Elab.async false
set_option linter.all false
set_option maxRecDepth 100000
set_option maxHeartbeats 4000000
namespace Lk
open PySem PySem.Calls L2 PySem.Spec PyProof.Rows
section
variable {X : Cx} {e a b c o : Expr} {es : List Expr} {ρ : List En} {A B : As} {pos apos p1 : Pos} {k : Nat} {ι : Type} {pre : ι → Prop} {l : ι → List As} {oc : ι → Oc} {o1 : Oc} {ps : List Str} {C : Addr} {m x : Str} {fs gs : List (Str × As)} {la : List As} {w : WX}
theorem ex_is {o2 : Oc} (h : EX X e ρ o1 w) (i : o1 = o2) : EX X e ρ o2 w := i ▸ h
/-- calls that raise nothing, of defs that may -/
theorem ea_callX (D : DfX X.prog X.w X.K X.mg X.base k x ps (spO pre l oc)) (hr : Room k X.A) (i : ι) (hp : pre i) (hA : oc i = .ret A) (ha : EAs X (e :: es) ρ (l i)) (hg : Gl X x := by rfl)
    (hdb : (x == ("__debug__" : Str)) = false := by decide) (he : starEach (e :: es) X.env = (false, eval e X.env) :: starEach es X.env := by rfl) (hpl : (backTo pos (starEach es X.env)).any (·.1) = false := by rfl) : EA X (.Call (.Name x p1) (e :: es) [] pos) ρ A :=
  ea_ofX fun w tk => ex_is (ex_call D hr tk i hp ha hg hdb he hpl) hA
theorem ea_methX {pl : Sem Bool} (D : MfX X.prog X.w X.K X.mg X.base k C m ps (spO pre l oc)) (hr : Room k X.A) (hC : Cls X.K C) (i : ι) (hp : pre i) (hA : oc i = .ret A) (ho : EA X o ρ (insA C fs)) (hm : fs.lookup m = none) (ha : EAs X (e :: es) ρ la) (hl : l i = insA C fs :: la)
    (he : starEach (e :: es) X.env = (false, eval e X.env) :: starEach es X.env := by rfl) (hpl : (backTo pos (starEach es X.env)).any (·.1) = false := by rfl)
    (hev : eval (.Call (.Attribute o m apos) (e :: es) [] pos) X.env = (do
      let ov ← eval o X.env
      standAt apos.atName
      let (f, first) ← holding [ov] (getMethod ov m pl)
      callWith pos f first (backTo pos (starEach (e :: es) X.env)) (backToKw pos (keywordEach [] X.env))) := by rfl) : EA X (.Call (.Attribute o m apos) (e :: es) [] pos) ρ A :=
  ea_ofX fun w tk => ex_is (ex_meth D hr tk hC i hp ho hm ha hl he hpl hev) hA
theorem ea_makeX (D : MkX X.prog X.w X.K X.mg X.base k C x ps (spMO C pre l oc)) (hr : Room (k + 1) X.A) (i : ι) (hp : pre i) (hA : oc i = .ret A) (ha : EAs X (e :: es) ρ (l i)) (hg : Gl X x := by rfl)
    (hdb : (x == ("__debug__" : Str)) = false := by decide) (he : starEach (e :: es) X.env = (false, eval e X.env) :: starEach es X.env := by rfl) (hpl : (backTo pos (starEach es X.env)).any (·.1) = false := by rfl) : EA X (.Call (.Name x p1) (e :: es) [] pos) ρ A :=
  ea_ofX fun w tk => ex_is (ex_make D hr tk i hp ha hg hdb he hpl) hA
theorem ins_ref {F : Hp} {v : V} (h : (insA C fs).p F v) : ∃ r, v = .ref r := let ⟨a, _, _, e, _⟩ := h; ⟨a, e⟩
theorem ea_binX {op : Operator} {hs : List (Str × As)} (D : MfX X.prog X.w X.K X.mg X.base k C m ps (spO pre l oc)) (hmm : m = PySem.dunder op.info.2) (hsf : PySem.W.selfFirst X.K C = true) (hr : Room k X.A) (i : ι) (hp : pre i) (hA : oc i = .ret (insA C hs)) (ha : EA X a ρ (insA C fs)) (ho : EA X b ρ (insA C gs)) (hl : l i = [insA C fs, insA C gs]) : EA X (.BinOp a op b pos) ρ (insA C hs) :=
  ea_ofX fun w tk => ex_is (ex_bin D hmm hsf hr tk i hp ha ho hl (fun F v hv => by rw [hA] at hv; exact ins_ref hv)) hA
end
end Lk

set_option Elab.async false
set_option linter.all false
set_option maxRecDepth 100000
set_option maxHeartbeats 4000000
namespace Lk
open PySem PySem.Calls L2 PySem.Spec PyProof.Rows
section
variable {X : Cx} {a b : Expr} {ρ : List En} {l m : List As} {pos : Pos}
/-- tuples, whatever is in them -/
theorem ea_catA (ha : EA X a ρ (tupA l)) (hb : EA X b ρ (tupA m)) (hz : l.length + m.length ≤ sizeLine) : EA X (.BinOp a .Add b pos) ρ (tupA (l ++ m)) :=
  pe_imp (pe_op op_catA ha hb) fun σ H Q ⟨H0, F, S, k⟩ => ⟨H0, F, S, fun v H1 F1 g1 ⟨x, xs, e1, h1, h2⟩ => ⟨H0, F1, S.gr g1, fun u H2 F2 g2 ⟨y, ys, e2, h3, h4⟩ => by
    have h5 := h2.mono g2.f
    have g := g1.trans g2
    refine ⟨x, y, xs, ys, e1, e2, SqT.of (g2.h x _ (g1.i x _ h1)), SqT.of (g2.i y _ h3), by rw [h2.length, h4.length]; exact hz, fun z => ?_, fun _ z => ?_, fun _ _ p hp => ?_⟩
    · have hl : l = [] := List.length_eq_zero_iff.mp (by rw [← h5.length, z]; rfl)
      subst hl
      exact k _ H2 F2 g ⟨y, ys, rfl, h3, h4⟩
    · have hm : m = [] := List.length_eq_zero_iff.mp (by rw [← h4.length, z]; rfl)
      subst hm
      rw [List.append_nil] at k
      exact k _ H2 F2 g ⟨x, xs, rfl, g2.f x _ h1, h5⟩
    · exact k _ _ _ (g.trans (.new g.i hp)) ⟨p, _, rfl, upd_same, (h5.append h4).mono (Ex.new (g.i.none hp))⟩⟩⟩
end
end Lk

set_option Elab.async false
set_option linter.all false
set_option maxRecDepth 100000
set_option maxHeartbeats 4000000
namespace Lk
open PySem PySem.Calls L2 PySem.Spec PyProof.Rows NdefX
abbrev anyS : As := exA (fun _ : Str => True) str
theorem app_len (a b : Str) : (a ++ b).length = a.length + b.length := strLen_append a b
section
variable {X : Cx} {e : Expr} {ρ : List En} {pos p1 p2 : Pos} {m : Str} {j : Nat}
/-- f'..{i}' -/
theorem ea_fsI {i : Int} (he : EW X e ρ (int i)) (hi : i.natAbs.log2 < 1920) (hm : m.length ≤ 100000) : EA X (.JoinedStr [.Constant (.str m) j p1, .FormattedValue e (-1) none p2] pos) ρ anyS :=
  pe_imp (pe_joined (.cons (ea_str (ρ := ρ) (s := m)) (.cons (pe_fmt he) .nil))) fun σ H Q ⟨H0, F, S, q⟩ => ⟨H0, F, S, fun v H1 F1 g1 h1 => by
    have h1 : v = .str m := h1
    subst h1
    have z := int_text_len_1921 hi
    refine ⟨m, rfl, ?_, H0, F1, S.gr g1, fun v H2 F2 g2 h2 => ?_⟩
    · show (Str.empty ++ m).length ≤ sizeLine
      rw [app_len, sizeLine_eq]
      have : Str.empty.length = 0 := rfl
      omega
    · have h2 : v = .int i := h2
      subst h2
      refine .inr ⟨i, rfl, hi, _, rfl, ?_, q _ H2 F2 (g1.trans g2) ⟨_, trivial, rfl⟩⟩
      rw [app_len, app_len, sizeLine_eq]
      have : Str.empty.length = 0 := rfl
      omega⟩
/-- f'..{s!r}' -/
theorem ea_fsS {s : Str} (he : EW X e ρ (str s)) (hc : ∀ c ∈ s.cps.toList, c < 16 ^ 8) (hs : s.length ≤ 100000) (hm : m.length ≤ 100000) : EA X (.JoinedStr [.Constant (.str m) j p1, .FormattedValue e 114 none p2] pos) ρ anyS :=
  pe_imp (pe_joined (.cons (ea_str (ρ := ρ) (s := m)) (.cons (pe_fmtR he) .nil))) fun σ H Q ⟨H0, F, S, q⟩ => ⟨H0, F, S, fun v H1 F1 g1 h1 => by
    have h1 : v = .str m := h1
    subst h1
    have z := StrLaws.reprText_len s hc
    refine ⟨m, rfl, ?_, H0, F1, S.gr g1, fun v H2 F2 g2 h2 => ?_⟩
    · show (Str.empty ++ m).length ≤ sizeLine
      rw [app_len, sizeLine_eq]
      have : Str.empty.length = 0 := rfl
      omega
    · have h2 : v = .str s := h2
      subst h2
      refine .inl ⟨s, rfl, by rw [sizeLine_eq]; omega, _, rfl, ?_, q _ H2 F2 (g1.trans g2) ⟨_, trivial, rfl⟩⟩
      rw [app_len, app_len, sizeLine_eq]
      have : Str.empty.length = 0 := rfl
      omega⟩
end
end Lk

set_option Elab.async false
set_option linter.all false
set_option maxRecDepth 100000
set_option maxHeartbeats 4000000
namespace Lk
open PySem PySem.Calls L2 PySem.Spec PyProof.Rows
/-! ### d.setdefault(t, v), the keys tuples -/
section
variable {X : Cx} {pins : List (Addr × Obj)} {σ : L2.St} {H : Hp} {s : Shared} {a b : Addr} {r : Value} {d : V} {k : List Key} {A : Around} {E : Value → Shared → Prop}
theorem d_setdT {kvs : List (List Key × V)} {Q : Value → Shared → Prop} (hu : A.units + 1 < cLine) (I : Inv X pins σ H s) (e : H a = some (.dT kvs)) (eb : H b = some (.tup (k.map kV))) (rd : RelV d r) (hl : kvs.length < sizeLine)
    (h1 : ∀ v, valV kvs k = some v → ∀ (w' : Value) (s' : Shared), Inv X pins σ H s' → RelV v w' → Q w' s') (h2 : valV kvs k = none → ∀ (w' : Value) (s' : Shared), Inv X pins σ (upd H a (.dT (putK kvs k d))) s' → RelV d w' → Q w' s') :
    wpAny (model X.prog X.w) A (call (.builtin "dict.setdefault") [.ref a, .ref b, r]) Q E s := by
  obtain ⟨z, hd, xs, rel, dd⟩ := dt_of I.hok e
  have hz : xs.length ≤ sizeLine := by rw [← Paired.length rel]; exact z
  refine call_setdefault_heap (hsz := hz) (tupleKind_room_in1 hu) (key_of I.hok eb) hd dd (fun p hp => ?_) fun hn h' dd' hs => ?_
  · have q := rel.val k
    rw [hp] at q
    cases q0 : valV kvs k with
    | none =>
      rw [q0] at q
      exact (show False from q).elim
    | some v0 =>
      rw [q0] at q
      exact h1 v0 q0 _ _ (I.tok _) q
  · have q := rel.val k
    rw [hn] at q
    cases q0 : valV kvs k with
    | some v0 =>
      rw [q0] at q
      exact (show False from q).elim
    | none =>
      have hl2 : (putK kvs k d).length ≤ sizeLine := by
        have := length_putK kvs k d
        omega
      obtain ⟨q, es, ep, hq, h2', h3, h4, _, h5⟩ := dd'
      refine h2 q0 _ _ (d_write I (by rw [e]; exact True.intro) hs ⟨q, hq⟩ ⟨hl2, hd, _, (rel.put k eb rd).keeps fun c ys ec => ?_, q, es, ep, hq, h2', h3, h4, h5⟩) rd
      rw [upd_ne (ne_of ec e (fun z => nomatch z))]
      exact ec
end
def tDSetdT (td ty tx : TE) : TE := fun σ H Q => td σ H fun x H1 => ∃ a, x = .ref a ∧ IsD H1 a ∧ ty σ H1 fun y H2 => tx σ H2 fun z H3 => ∃ (kvs : List (List Key × V)) (k : List Key) (b : Addr), H3 a = some (.dT kvs) ∧ y = .ref b ∧ H3 b = some (.tup (k.map kV)) ∧ kvs.length < sizeLine ∧
  (∀ v, valV kvs k = some v → Q v H3) ∧ (valV kvs k = none → Q z (upd H3 a (.dT (putK kvs k z))))
section
variable {X : Cx} {o e f : Expr} {td ty tx : TE} {apos cpos : Pos}
theorem pe_dsetdT (hu : X.A.units + 1 < cLine) (ho : PE X o td) (he : PE X e ty) (hf : PE X f tx) (m : M2 X o "setdefault" apos e f cpos) : PE X (.Call (.Attribute o "setdefault" apos) [e, f] [] cpos) (tDSetdT td ty tx) := by
  refine ⟨fun pins s σ H Q I h => ?_⟩
  refine wpAny_Call_method m.base m.few m.line PySem.F.plainAttrs_dict PySem.F.slot_dict_setdefault PySem.F.type_dict_setdefault (thn (ho.run pins s σ H _ I h) fun u s1 ⟨x, H1, I1, rx, a, ex, d, q1⟩ => ?_)
  subst ex
  obtain rfl : u = Value.ref a := rx
  obtain ⟨t1, t2, _⟩ := isD_at I1 d
  refine ⟨t1, t2, ?_⟩
  rw [m.trees]
  refine Calls.callWith_builtin rfl (Calls.evalArgs_plain (Calls.spliced_cons (thn (he.run pins s1 σ H1 _ I1 q1) fun iv s2 ⟨y, H2, I2, ry, q2⟩ =>
    Calls.spliced_cons (thn (hf.run pins s2 σ H2 _ I2 q2) fun fv s3 ⟨z, H3, I3, rz, kvs, k, b, ea, ey, eb, hl, q3, q4⟩ => Calls.spliced_nil ?_))))
  subst ey
  cases (show iv = Value.ref b from ry)
  exact d_setdT hu I3 ea eb rz hl (fun v hv w' s4 I4 rw' => ⟨v, _, I4, rw', q3 v hv⟩) fun hn w' s4 I4 rw' => ⟨z, _, I4, rw', q4 hn⟩
end
/-! ### a list that stays one's own is read -/
/-- what is said holds also where a list is not looked at -/
def NoLst (A : As) : Prop := ∀ (F F' : Hp) (v : V), (∀ a o, F a = some o → (∀ xs, o ≠ .lst xs) → F' a = some o) → A.p F v → A.p F' v
theorem nl_sc {c : V} : NoLst (sc c) := fun _ _ _ _ h => h
theorem nl_all {F F' : Hp} (e : ∀ a o, F a = some o → (∀ xs, o ≠ .lst xs) → F' a = some o) : ∀ {vs : List V} {l : List As}, (∀ A ∈ l, NoLst A) → AllV F vs l → AllV F' vs l
  | [], [], _, h => h
  | _ :: _, A :: _, n, h => ⟨n A List.mem_cons_self F F' _ e h.1, nl_all e (fun B hB => n B (List.mem_cons_of_mem _ hB)) h.2⟩
  | [], _ :: _, _, h => h.elim
  | _ :: _, [], _, h => h.elim
theorem nl_tup {l : List As} (n : ∀ A ∈ l, NoLst A) : NoLst (tupA l) := fun F F' v e ⟨a, xs, ev, h1, h2⟩ => ⟨a, xs, ev, e a _ h1 (fun _ z => nomatch z), nl_all e n h2⟩
theorem nl_ins {C : Addr} {fs : List (Str × As)} (n : ∀ A ∈ fs.map Prod.snd, NoLst A) : NoLst (insA C fs) := fun F F' v e ⟨a, dx, vs, ev, h1, h2⟩ => ⟨a, dx, vs, ev, e a _ h1 (fun _ z => nomatch z), nl_all e n h2⟩
theorem nl_ex {ι : Type} {pre : ι → Prop} {f : ι → As} (n : ∀ i, NoLst (f i)) : NoLst (exA pre f) := fun F F' v e ⟨i, h, k⟩ => ⟨i, h, n i F F' v e k⟩
/-- the frozen part with an own list in it -/
theorem sat_bor {H0 F H : Hp} {σ : L2.St} {ρ : List En} {i : Nat} {l : List As} (S : Sat H0 F σ H ρ) (hi : ρ[i]? = some (.own l)) : ∃ p xs, F p = none ∧ H0 p = none ∧ H p = some (.lst xs) ∧ Sat H0 (upd F p (.lst xs)) σ H (ρ.set i (.fr (lstA l))) := by
  obtain ⟨p, xs, h1, h2, h3, h4, h5⟩ := S.own i l hi
  have ex : Ex F (upd F p (.lst xs)) := Ex.new h2
  have li : i < ρ.length := (List.getElem?_eq_some_iff.mp hi).1
  refine ⟨p, xs, h2, h3, h4, ⟨fun a o e => ?_, fun j A e => ?_, fun j m e => ?_, fun j k m n q e1 e2 m1 m2 s1 s2 => ?_, by rw [List.length_set]; exact S.len, fun j B e => ?_⟩⟩
  · by_cases hb : a = p
    · rw [hb, upd_same] at e
      rw [hb, h4]; exact e
    · rw [upd_ne hb] at e
      exact S.ex a o e
  · by_cases hj : i = j
    · subst hj
      rw [List.getElem?_set_self li] at e
      have e : lstA l = A := by simpa using e
      subst e
      exact ⟨_, h1, p, xs, rfl, upd_same, h5.mono ex⟩
    · rw [List.getElem?_set_ne hj] at e
      obtain ⟨v, a, b⟩ := S.fr j A e
      exact ⟨v, a, A.mono ex b⟩
  · by_cases hj : i = j
    · subst hj
      rw [List.getElem?_set_self li] at e
      cases e
    · rw [List.getElem?_set_ne hj] at e
      obtain ⟨q, ys, a, b, c, d, f⟩ := S.own j m e
      have hq : q ≠ p := fun z => hj (S.sep i j _ _ p hi e True.intro True.intro h1 (by rw [← z]; exact a))
      exact ⟨q, ys, a, by rw [upd_ne hq]; exact b, c, d, f.mono ex⟩
  · have at_ : ∀ {j : Nat} {y : En}, (ρ.set i (.fr (lstA l)))[j]? = some y → y.Mn → ρ[j]? = some y := fun {j y} e m => by
      by_cases hj : i = j
      · subst hj
        rw [List.getElem?_set_self li] at e
        have e : En.fr (lstA l) = y := by simpa using e
        rw [← e] at m
        exact m.elim
      · rw [List.getElem?_set_ne hj] at e
        exact e
    exact S.sep j k m n q (at_ e1 m1) (at_ e2 m2) m1 m2 s1 s2
  · by_cases hj : i = j
    · subst hj
      rw [List.getElem?_set_self li] at e
      cases e
    · rw [List.getElem?_set_ne hj] at e
      obtain ⟨q, o, a, b, c, d, f⟩ := S.ow j B e
      have hq : q ≠ p := fun z => hj (S.sep i j _ _ p hi e True.intro True.intro h1 (by rw [← z]; exact a))
      exact ⟨q, o, a, by rw [upd_ne hq]; exact b, c, d, B.mono ex f⟩
def cutF (F : Hp) (p : Addr) : Hp := fun a => if a = p then none else F a
theorem gr_bor {F H F1 H' : Hp} {p : Addr} {xs : List V} (hp : F p = none) (hH : H p = some (.lst xs)) (g : Gr (upd F p (.lst xs)) H F1 H') : Gr F H (cutF F1 p) H' ∧ ∀ a o, F1 a = some o → (∀ ys, o ≠ .lst ys) → cutF F1 p a = some o := by
  have fp : F1 p = some (.lst xs) := g.f p _ upd_same
  refine ⟨⟨fun a o e => ?_, g.h, fun a o e => ?_, fun a o e1 e2 => ?_⟩, fun a o e n => ?_⟩
  · have ne : a ≠ p := fun z => by rw [z, hp] at e; cases e
    unfold cutF
    rw [if_neg ne]
    exact g.f a o (by rw [upd_ne ne]; exact e)
  · unfold cutF at e
    by_cases hb : a = p
    · rw [if_pos hb] at e; cases e
    · rw [if_neg hb] at e
      exact g.i a o e
  · unfold cutF
    by_cases hb : a = p
    · rw [if_pos hb]
    · rw [if_neg hb]
      exact g.n a o e1 (by rw [upd_ne hb]; exact e2)
  · unfold cutF
    by_cases hb : a = p
    · rw [hb, fp] at e
      have e : HO.lst xs = o := by simpa using e
      exact absurd e.symm (n xs)
    · rw [if_neg hb]
      exact e
section
variable {X : Cx} {e : Expr} {ρ : List En} {A : As} {l : List As}
theorem ea_bor (i : Nat) (hi : ρ[i]? = some (.own l)) (h : EA X e (ρ.set i (.fr (lstA l))) A) (n : NoLst A) : EA X e ρ A :=
  pe_imp h fun σ H Q ⟨H0, F, S, q⟩ => by
    obtain ⟨p, xs, h1, h2, h3, T⟩ := sat_bor S hi
    refine ⟨H0, _, T, fun v H' F' g hv => ?_⟩
    obtain ⟨g2, k⟩ := gr_bor h1 h3 g
    exact q v H' _ g2 (n _ _ v k hv)
/-- the same for an expression that may raise -/
theorem ex_bor {o1 : Oc} {w : WX} (i : Nat) (hi : ρ[i]? = some (.own l)) (h : EX X e (ρ.set i (.fr (lstA l))) o1 w) (n : NoLst o1.R) (ne : ∀ (F F' : Hp) cls d, (∀ a o, F a = some o → (∀ xs, o ≠ .lst xs) → F' a = some o) → o1.E F cls d → o1.E F' cls d) : EX X e ρ o1 w :=
  pe_imp h fun σ H Q ⟨H0, F, S, q, qe⟩ => by
    obtain ⟨p, xs, h1, h2, h3, T⟩ := sat_bor S hi
    refine ⟨H0, _, T, fun v H' F' g hv => ?_, fun cls d H' F' g hv => ?_⟩
    · obtain ⟨g2, k⟩ := gr_bor h1 h3 g
      exact q v H' _ g2 (n _ _ v k hv)
    · obtain ⟨g2, k⟩ := gr_bor h1 h3 g
      exact qe cls d H' _ g2 (ne _ _ cls d k hv)
theorem ne_erX {C : Addr} {fs : List (Str × As)} (n : ∀ A ∈ fs.map Prod.snd, NoLst A) (F F' : Hp) (cls : Value) (d : Option Addr) (k : ∀ a o, F a = some o → (∀ xs, o ≠ .lst xs) → F' a = some o) (h : erX C fs F cls d) : erX C fs F' cls d := by
  refine ⟨h.1, ?_⟩
  have h := h.2
  cases d with
  | none => exact h
  | some dd =>
    obtain ⟨vs, h1, h2⟩ := h
    exact ⟨vs, k dd _ h1 (fun _ z => nomatch z), nl_all k n h2⟩
end
end Lk

set_option Elab.async false
set_option linter.all false
set_option maxRecDepth 100000
set_option maxHeartbeats 4000000
namespace Lk
open PySem PySem.Calls L2 PySem.Spec PyProof.Rows
abbrev rIns : V → List V → Hp → VK → Prop := fun x vs H Q => ∃ (l : Addr) (xs : List V) (i : Int) (y : V), x = .ref l ∧ vs = [.int i, y] ∧ H l = some (.lst xs) ∧ xs.length < sizeLine ∧ 0 ≤ i ∧ i < 2 ^ 63 ∧ Q .non (upd H l (.lst (xs.take i.toNat ++ [y] ++ xs.drop i.toNat)))
section
variable {X : Cx} {e f a b : Expr} {ρ : List En} {A B : As} {l : List As} {pos : Pos} {Nx : List En → Prop} {W : Wn}
theorem pe_ins (i : Nat) {x : Str} {px apos cpos : Pos} {z : Int} (he : EA X e ρ (int z)) (hf : EA X f ρ A) (hN : X.N[i]? = some x := by rfl) (hv : Vis X.env.scope x := by first | exact Or.inl rfl | exact Or.inr (Or.inl rfl) | exact Or.inr (Or.inr rfl)) (hd : (x == ("__debug__" : Str)) = false := by decide) (hcd : (x == ("__classdict__" : Str)) = false := by decide)
    (hbase : attributeBase (.Name x px) "insert" X.env (eval (.Name x px) X.env) = eval (.Name x px) X.env := by rfl)
    (hfew : ((backTo cpos (starEach [e, f] X.env)).all (fun x => !x.1) && (backToKw cpos (keywordEach [] X.env)).all (fun x => x.1.isSome) && decide ([e, f].length + ([] : List Keyword).length + (if ([] : List Keyword).isEmpty then 0 else 1) < 30)) = true := by rfl)
    (hline : (apos.endLine == cpos.line) = true := by rfl) (hs : starEach [e, f] X.env = (false, eval e X.env) :: starEach [f] X.env := by rfl) (hs2 : starEach [f] X.env = (false, eval f X.env) :: starEach [] X.env := by rfl) (hplain : (backTo cpos (starEach [f] X.env)).any (·.1) = false := by rfl) :
    PE X (.Call (.Attribute (.Name x px) "insert" apos) [e, f] [] cpos) (tBM X.K "list" rIns (tVar i) (tCons (tA ρ (int z)) (tCons (tA ρ A) tNil))) :=
  pe_bm PySem.F.plainAttrs_list PySem.F.slot_list_insert PySem.F.type_list_insert mt_insert (pe_var hN hv hd hcd) (pa_cons he (pa_cons hf pa_nil hs2) hs) hbase hfew hline hs hplain
/-- x.insert(z, e), x a list of one's own -/
theorem sa_ins (i : Nat) {z : Int} (hr : ρ[i]? = some (En.own l)) (hb : PE X e (tBM X.K "list" rIns (tVar i) (tCons (tA ρ (int z)) (tCons (tA ρ A) tNil)))) (hz : l.length < sizeLine) (h0 : 0 ≤ z) (h1 : z < 2 ^ 63) (k : Nx (ρ.set i (.own (l.take z.toNat ++ [A] ++ l.drop z.toNat)))) (hsw : swapsWith e none pos.line X.env = pure false := by rfl) :
    SA X (.Expr e pos) ρ Nx W := by
  refine ps_imp (ps_expr hb hsw) fun D σ H ⟨F0, H0, F, g, S, q, _⟩ => ?_
  obtain ⟨p, xs, e1, h2, h3, h4, h5⟩ := S.own i l hr
  refine ⟨_, e1, .inl ⟨rfl, _, SqL.of h4⟩, H0, F, S, fun v H1 F1 g1 hv => ⟨H0, F1, S.gr g1, fun u H' F' g' hu => ?_⟩⟩
  have hv : v = .int z := hv
  subst hv
  have g2 := (g.trans g1).trans g'
  refine ⟨p, xs, z, u, rfl, rfl, g'.h p _ (g1.h p _ h4), by rw [h5.length]; exact hz, h0, h1, ?_⟩
  have hx := (h5.mono g1.f).mono g'.f
  obtain ⟨g3, S3⟩ := sat_wr g2 ((S.gr g1).gr g') hr e1 (((hx.take z.toNat).append (.one hu)).append (hx.drop z.toNat))
  exact q _ σ _ F' k g3 S3
/-- x, y = e -/
theorem sa_unp2 (i j : Nat) {x y : Str} {px py pt : Pos} {kt : Nat} (hc : X.calm = true) (hN : X.N.Nodup) (he : EA X e ρ (tupA [A, B])) (k : Nx ((ρ.set i (.fr A)).set j (.fr B))) (hi : X.N[i]? = some x := by rfl) (hj : X.N[j]? = some y := by rfl)
    (hx : Loc X.env.scope x := by first | exact .inl rfl | exact .inr rfl) (hy : Loc X.env.scope y := by first | exact .inl rfl | exact .inr rfl) (hfx : X.fn x = true ∨ X.env.scope.names.lookup x = some .local := by first | exact .inl rfl | exact .inr rfl) (hfy : X.fn y = true ∨ X.env.scope.names.lookup y = some .local := by first | exact .inl rfl | exact .inr rfl)
    (hs : swapsWithSole [.Tuple [.Name x px, .Name y py] kt pt] e pos.line X.env = pure false := by rfl) (hw : swappedStores [.Tuple [.Name x px, .Name y py] kt pt] e X.env = pure none := by rfl)
    (h1 : (assignEach [.Tuple [.Name x px, .Name y py] kt pt] X.env).map (·.2) = [assign (.Tuple [.Name x px, .Name y py] kt pt) X.env] := by rfl)
    (hn : (assignEach [.Name x px, .Name y py] X.env).length = 2 := by rfl) (hst : (assignEach [.Name x px, .Name y py] X.env).findIdx? (·.1) = none := by rfl) : SA X (.Assign [.Tuple [.Name x px, .Name y py] kt pt] e pos) ρ Nx W :=
  ps_imp (ps_asg he (pg_tup hc (pgs_cons (pg_name hN hi hx hfx) (pgs_cons (pg_name hN hj hy hfy) pgs_nil)) hn hst) hs hw h1) fun D σ H ⟨F0, H0, F, g, S, q, _⟩ => ⟨H0, F, S, fun v H' F' g' ⟨p, xs, ev, hp, hv⟩ => by
    match xs, hv with
    | [u1, u2], hv =>
      obtain ⟨v1, v2, _⟩ := hv
      refine ⟨p, [u1, u2], ev, SqT.of (g'.i p _ hp), rfl, ?_⟩
      exact ⟨u1, [u2], rfl, u2, [], rfl, rfl, q _ _ H' F' k (g.trans g') (((S.gr g').set v1).set v2)⟩⟩
theorem inV_ints (s : Int) : ∀ l : List Int, inV (.int s) (l.map V.int) = decide (s ∈ l)
  | [] => by simp [inV]
  | t :: l => by
    have ih := inV_ints s l
    unfold inV at ih ⊢
    rw [List.map_cons, List.any_cons, ih]
    rw [Bool.eq_iff_iff]
    simp only [Bool.or_eq_true, decide_eq_true_eq, List.mem_cons, eqV, beq_iff_eq]
    exact or_congr_left ⟨fun h => h.symm, fun h => h.symm⟩
theorem ints_at {F : Hp} {v : V} {l : List Int} (h : (tupA (l.map int)).p F v) : ∃ b, v = .ref b ∧ F b = some (.tup (l.map V.int)) := by
  obtain ⟨b, xs, e, h1, h2⟩ := h
  have e2 : xs = l.map V.int := AllV.scs (cs := l.map V.int) (by rw [List.map_map]; exact h2)
  exact ⟨b, e, by rw [h1, e2]⟩
theorem cm_inTi {s : Int} {l : List Int} : Cm X .In (int s) (tupA (l.map int)) (decide (s ∈ l)) := ⟨_, op_in_seq, fun x y H Q p q z => by
  have p : x = .int s := p
  subst p
  obtain ⟨b, rfl, hb⟩ := ints_at q
  refine ⟨b, l.map V.int, rfl, .inr (SqT.of hb), rfl, ?_, ?_⟩
  · rw [List.all_map]
    exact List.all_eq_true.mpr fun _ _ => rfl
  · show Q (.bl (if false = true then _ else _)) H
    rw [if_neg Bool.false_ne_true, inV_ints]
    exact z⟩
end
theorem ea_callAB {X : Cx} {e : Expr} {es : List Expr} {ρ : List En} {pos : Pos} {k : Nat} {x : Str} {ps : List Str} {ι : Type} {pre : ι → Prop} {l : ι → List As} {A : ι → As} {B : As} {p : Pos} (D : DfA X.prog X.w X.K X.mg X.base k x ps (spX pre l A)) (hr : L2H.RoomH k X.A) (i : ι) (hp : pre i) (hA : A i = B) (ha : EAs X (e :: es) ρ (l i)) (hg : Gl X x := by rfl)
    (hdb : (x == ("__debug__" : Str)) = false := by decide) (he : starEach (e :: es) X.env = (false, eval e X.env) :: starEach es X.env := by rfl) (hpl : (backTo pos (starEach es X.env)).any (·.1) = false := by rfl) : EA X (.Call (.Name x p) (e :: es) [] pos) ρ B :=
  hA ▸ ea_callA D hr i hp ha hg hdb he hpl
end Lk

set_option Elab.async false
set_option linter.all false
set_option maxRecDepth 100000
set_option maxHeartbeats 4000000
namespace Lk
open PySem PySem.Calls L2 PySem.Spec PyProof.Rows
section
variable {X : Cx} {e a b : Expr} {es : List Expr} {ρ : List En} {A : As} {l la lb : List As} {pos : Pos}
theorem ea_neg {i : Int} (h : EW X e ρ (int i)) : EA X (.UnaryOp .USub e pos) ρ (int (-i)) :=
  pe_imp (pe_un un_neg h) fun σ H Q ⟨H0, F, S, k⟩ => ⟨H0, F, S, fun v H1 F1 g1 h1 => ⟨i, h1, k _ H1 F1 g1 rfl⟩⟩
/-- the last one -/
theorem ea_lastSq {q : Bool} (ha : EA X a ρ (sq q (l ++ [A]))) (hb : EW X b ρ (int (-1))) (hs : PlainIx b := by exact fun _ _ => rfl) : EA X (.Subscript a b pos) ρ A := by
  cases q with
  | true =>
    refine pe_imp (pe_ix ix_list ha hb hs) fun σ H Q ⟨H0, F, S, k⟩ => ⟨H0, F, S, fun x H1 F1 g1 ⟨p, xs, e0, h1, h2⟩ => ⟨H0, F1, S.gr g1, fun y H2 F2 g2 h3 => ?_⟩⟩
    have h3 : y = .int (-1) := h3
    subst h3
    have hl := h2.length
    obtain ⟨v, e1, e2⟩ := h2.get (i := l.length) (A := A) (by simp)
    have e0' : xs = xs.take l.length ++ [v] := by
      rw [List.length_append, List.length_singleton] at hl
      obtain ⟨hlt, hv⟩ := List.getElem?_eq_some_iff.mp e1
      have z := List.take_append_drop l.length xs
      rw [List.drop_eq_getElem_cons hlt, List.drop_of_length_le (by omega), hv] at z
      exact z.symm
    exact ⟨p, xs, -1, v, e0, rfl, SqL.of (g2.h p _ (g1.i p _ h1)), by rw [e0']; exact atI_last _ _, k v H2 F2 (g1.trans g2) (A.mono g2.f e2)⟩
  | false =>
    refine pe_imp (pe_ix ix_tup ha hb hs) fun σ H Q ⟨H0, F, S, k⟩ => ⟨H0, F, S, fun x H1 F1 g1 ⟨p, xs, e0, h1, h2⟩ => ⟨H0, F1, S.gr g1, fun y H2 F2 g2 h3 => ?_⟩⟩
    have h3 : y = .int (-1) := h3
    subst h3
    have hl := h2.length
    obtain ⟨v, e1, e2⟩ := h2.get (i := l.length) (A := A) (by simp)
    have e0' : xs = xs.take l.length ++ [v] := by
      rw [List.length_append, List.length_singleton] at hl
      obtain ⟨hlt, hv⟩ := List.getElem?_eq_some_iff.mp e1
      have z := List.take_append_drop l.length xs
      rw [List.drop_eq_getElem_cons hlt, List.drop_of_length_le (by omega), hv] at z
      exact z.symm
    exact ⟨p, xs, -1, v, e0, rfl, SqT.of (g2.h p _ (g1.i p _ h1)), by rw [e0']; exact atI_last _ _, k v H2 F2 (g1.trans g2) (A.mono g2.f e2)⟩
theorem cut_drop (k : Nat) : cutA l (some (k : Int)) none = l.drop k := cutA_drop
/-- xs[1:], xs not empty -/
theorem ea_sl1 {q : Bool} {lo : Expr} {p2 : Pos} (ha : EA X a ρ (sq q (A :: l))) (h1 : EW X lo ρ (int 1)) : EA X (.Subscript a (.Slice (some lo) none none p2) pos) ρ (sq q l) := by
  have e : cutA (A :: l) (some 1) none = l := cut_drop 1
  cases q with
  | true => exact en_a (en_is (en_slL (ea_l ha) (eo_some h1) eo_none) e)
  | false => exact ea_is (ea_slT ha (eo_some h1) eo_none (by
      show ¬ (HT.sIx (A :: l).length 0 (some ((1 : Nat) : Int)) = 0 ∧ _)
      rw [HT.sIx_nat, List.length_cons]
      omega)) (by rw [e]; rfl)
/-- ( .., *t, ..), t a list -/
theorem eas_starL (he : EA X e ρ (lstA la)) (hr : EAs X es ρ lb) {sp : Pos} (hs : starEach (.Starred e sp :: es) X.env = (true, eval e X.env) :: starEach es X.env := by rfl) : EAs X (.Starred e sp :: es) ρ (la ++ lb) :=
  pa_imp (StX.pa_star he hr hs) fun σ H Q ⟨H0, F, S, q⟩ => ⟨H0, F, S, fun v H1 F1 g1 ⟨p, xs, ev, h1, h2⟩ => ⟨p, xs, ev, .inr (SqL.of (g1.i p _ h1)), H0, F1, S.gr g1, fun vs H2 F2 g2 hv => q _ H2 F2 (g1.trans g2) ((h2.mono g2.f).append hv)⟩⟩
end
/-! ### [.. for a, b in zip(x, y)], lists or tuples of any lengths -/
section
variable {α : Type} {X : Cx} {ρ : List En} {pos : Pos} {elt a b : Expr} {scope : Scope}
def teZ (ρ : List En) (vs : List Nat) (j1 j2 : Nat) (l : List α) (e1 e2 g : α → As) : TE := fun σ H Q => ∃ x, x ∈ l ∧ tA (((wipeE ρ vs).set j1 (.fr (e1 x))).set j2 (.fr (e2 x))) (g x) σ H Q
theorem tlc_zip2 {vs : List Nat} {j1 j2 : Nat} {q : Bool} {la lb : List As} {l : List α} {e1 e2 : α → As} {g : α → As} {σ : L2.St} {H : Hp} {Q : VK} (h1 : ∀ (i : Nat) (x : α), l[i]? = some x → la[i]? = some (e1 x)) (h2 : ∀ (i : Nat) (x : α), l[i]? = some x → lb[i]? = some (e2 x)) (hl : la.length = l.length ∨ lb.length = l.length) (hz : l.length < sizeLine) (hj1 : j1 ∈ vs) (hj2 : j2 ∈ vs) (h : tN ρ (l.map g) σ H Q) :
    tLc (RZ.iZipA X.K (tAs ρ [sq q la, sq q lb])) (gTup X.K 2 (gCons (gName j1) (gCons (gName j2) gNil))) (fun _ H Q => Q true H) (teZ ρ vs j1 j2 l e1 e2 g) vs σ H Q := by
  obtain ⟨H0, F, S, k⟩ := h
  let ρe : α → List En := fun x => ((wipeE ρ vs).set j1 (.fr (e1 x))).set j2 (.fr (e2 x))
  refine ⟨H0, F, S, fun us H1 F1 g1 hu => ?_⟩
  match us, hu with
  | [v1, v2], ⟨hA, hB, _⟩ =>
  obtain ⟨a1, xs, ev1, hx2, a2, ys, ev2, hy2, fx, fy⟩ : ∃ a1 xs, v1 = .ref a1 ∧ AllV F1 xs la ∧ ∃ a2 ys, v2 = .ref a2 ∧ AllV F1 ys lb ∧ (F1 a1 = some (if q then .lst xs else .tup xs)) ∧ F1 a2 = some (if q then .lst ys else .tup ys) := by
    cases q with
    | true =>
      obtain ⟨a1, xs, e1, h1, h2⟩ := hA
      obtain ⟨a2, ys, e2, h3, h4⟩ := hB
      exact ⟨a1, xs, e1, h2, a2, ys, e2, h4, h1, h3⟩
    | false =>
      obtain ⟨a1, xs, e1, h1, h2⟩ := hA
      obtain ⟨a2, ys, e2, h3, h4⟩ := hB
      exact ⟨a1, xs, e1, h2, a2, ys, e2, h4, h1, h3⟩
  subst ev1 ev2
  have lx := hx2.length
  have ly := hy2.length
  have le1 : l.length ≤ la.length := by
    by_cases h : l.length = 0
    · omega
    · have z := h1 (l.length - 1) l[l.length - 1] (List.getElem?_eq_getElem (by omega))
      have := (List.getElem?_eq_some_iff.mp z).1
      omega
  have le2 : l.length ≤ lb.length := by
    by_cases h : l.length = 0
    · omega
    · have z := h2 (l.length - 1) l[l.length - 1] (List.getElem?_eq_getElem (by omega))
      have := (List.getElem?_eq_some_iff.mp z).1
      omega
  -- one turn, whichever the kind
  have turn : ∀ (D : Addr) (i : Nat) (H' F' : Hp) (acc : List V) (u1 u2 : V) (T : Addr) (hlt : i < l.length), H1 D = none → Gr F1 H1 F' H' → F' D = none → H' D = some (.lst acc) → AllV F' acc ((l.take i).map g) → xs[i]? = some u1 → ys[i]? = some u2 → H' T = none →
      ∀ (QQ : Hp → Prop), (∀ H2, (∃ F2 acc2, Gr F1 H1 F2 H2 ∧ F2 D = none ∧ H2 D = some (.lst acc2) ∧ AllV F2 acc2 ((l.take (i + 1)).map g)) → QQ H2) →
      ∃ x, x ∈ l ∧ tA (ρe x) (g x) (((L2.wipe σ vs).set j1 (some u1)).set j2 (some u2)) (upd H' T (.tup [u1, u2])) (fun z H3 => ∃ acc', H3 D = some (.lst acc') ∧ acc'.length < sizeLine ∧ QQ (upd H3 D (.lst (acc' ++ [z])))) := by
    intro D i H' F' acc u1 u2 T hlt hD G fD hDl hall e1' e2' hT QQ hQ
    have ha : l[i]? = some l[i] := List.getElem?_eq_getElem hlt
    obtain ⟨w1, hw1, hA1⟩ := hx2.get (i := i) (h1 i _ ha)
    obtain ⟨w2, hw2, hA2⟩ := hy2.get (i := i) (h2 i _ ha)
    rw [e1'] at hw1
    rw [e2'] at hw2
    have hw1 : u1 = w1 := by simpa using hw1
    have hw2 : u2 = w2 := by simpa using hw2
    subst hw1 hw2
    have gT : Gr F' H' F' (upd H' T (.tup [u1, u2])) := .newH G.i hT
    have hDT : D ≠ T := fun z => by rw [← z, hDl] at hT; cases hT
    have GT := G.trans gT
    refine ⟨l[i], List.getElem_mem hlt, H0, F', ((((S.gr g1).gr GT).wipe vs).set ((e1 l[i]).mono G.f hA1)).set ((e2 l[i]).mono G.f hA2), fun z H3 F3 g3 hz3 => ?_⟩
    have d2 : upd H' T (.tup [u1, u2]) D = some (.lst acc) := by rw [upd_ne hDT]; exact hDl
    have f3 : F3 D = none := g3.n D _ d2 fD
    have d3 : H3 D = some (.lst acc) := g3.h D _ d2
    have G3 := GT.trans g3
    refine ⟨acc, d3, ?_, hQ _ ⟨F3, acc ++ [z], ⟨G3.f, fun b o q => ?_, fun b o q => ?_, G3.n⟩, f3, upd_same, ?_⟩⟩
    · rw [hall.length, List.length_map, List.length_take]
      omega
    · rw [upd_ne (ne_of_none q hD)]
      exact G3.h b o q
    · rw [upd_ne (ne_of_none q f3)]
      exact G3.i b o q
    · rw [List.take_add_one, ha, List.map_append]
      exact (hall.mono g3.f).snoc hz3
  cases q with
  | true =>
    have fx : F1 a1 = some (.lst xs) := fx
    have fy : F1 a2 = some (.lst ys) := fy
    refine ⟨a1, a2, xs, ys, rfl, .inl ⟨SqL.of (g1.i a1 _ fx), SqL.of (g1.i a2 _ fy), fun D hD => ?_⟩⟩
    let St : Nat → Hp → Prop := fun i H' => ∃ F' acc, Gr F1 H1 F' H' ∧ F' D = none ∧ H' D = some (.lst acc) ∧ AllV F' acc ((l.take i).map g)
    refine ⟨fun i m H' => m = l.length - i ∧ i ≤ l.length ∧ St i H', ⟨l.length, by simp, Nat.zero_le _, F1, [], .newH g1.i hD, g1.i.none hD, upd_same, by simp [AllV]⟩, ?_⟩
    rintro i m H' ⟨rfl, hi', F', acc, G, fD, hDl, hall⟩
    have qx : SqL X.K H' a1 xs := SqL.of (G.i a1 _ (G.f a1 _ fx))
    have qy : SqL X.K H' a2 ys := SqL.of (G.i a2 _ (G.f a2 _ fy))
    by_cases hlt : i < l.length
    · have ha : l[i]? = some l[i] := List.getElem?_eq_getElem hlt
      obtain ⟨u1, hu1, hA1⟩ := hx2.get (i := i) (h1 i _ ha)
      obtain ⟨u2, hu2, hA2⟩ := hy2.get (i := i) (h2 i _ ha)
      refine .inr ⟨⟨xs, ys, u1, u2, qx, qy, hu1, hu2⟩, St (i + 1), fun H2 p => ⟨l.length - (i + 1), by omega, rfl, hlt, p⟩, fun v H2 yl => ?_⟩
      obtain ⟨T, w1, w2, rfl, hT, rfl, f1, f2⟩ := yl
      have e1' : u1 = w1 := by have z := f1 xs qx; rw [hu1] at z; simpa using z
      have e2' : u2 = w2 := by have z := f2 ys qy; rw [hu2] at z; simpa using z
      subst e1' e2'
      refine ⟨T, [u1, u2], rfl, SqT.of upd_same, rfl, u1, [u2], rfl, u2, [], rfl, rfl, ?_, ?_⟩
      · rw [wipe_setG hj2, wipe_setG hj1]
        have idem := wipe_setG (τ := L2.wipe σ vs) (x := some u1) hj1
        exact (wipe_setG (τ := L2.wipe σ vs) (x := some u1) hj1).symm.trans (wipe_set hj1)
      · show if true = true then _ else _
        rw [if_pos rfl]
        obtain ⟨x, hx, H0', F2, S2, k2⟩ := turn D i H' F' acc u1 u2 T hlt hD G fD hDl hall hu1 hu2 hT (St (i + 1)) (fun H2 h => h)
        exact ⟨x, hx, H0', F2, S2, fun z H3 F3 g3 hz3 => k2 z H3 F3 g3 hz3⟩
    · have e : i = l.length := by omega
      subst e
      refine .inl ⟨⟨xs, ys, qx, qy, by omega⟩, ?_⟩
      rw [List.take_length] at hall
      exact k D acc H' F' (g1.trans G) (g1.h.none hD) fD hDl hall
  | false =>
    have fx : F1 a1 = some (.tup xs) := fx
    have fy : F1 a2 = some (.tup ys) := fy
    refine ⟨a1, a2, xs, ys, rfl, .inr ⟨SqT.of (g1.i a1 _ fx), SqT.of (g1.i a2 _ fy), fun D hD => ?_⟩⟩
    let St : Nat → Hp → Prop := fun i H' => ∃ F' acc, Gr F1 H1 F' H' ∧ F' D = none ∧ H' D = some (.lst acc) ∧ AllV F' acc ((l.take i).map g)
    refine ⟨fun i m H' => m = l.length - i ∧ i ≤ l.length ∧ St i H', ⟨l.length, by simp, Nat.zero_le _, F1, [], .newH g1.i hD, g1.i.none hD, upd_same, by simp [AllV]⟩, ?_⟩
    rintro i m H' ⟨rfl, hi', F', acc, G, fD, hDl, hall⟩
    have qx : SqT X.K H' a1 xs := SqT.of (G.i a1 _ (G.f a1 _ fx))
    have qy : SqT X.K H' a2 ys := SqT.of (G.i a2 _ (G.f a2 _ fy))
    by_cases hlt : i < l.length
    · have ha : l[i]? = some l[i] := List.getElem?_eq_getElem hlt
      obtain ⟨u1, hu1, hA1⟩ := hx2.get (i := i) (h1 i _ ha)
      obtain ⟨u2, hu2, hA2⟩ := hy2.get (i := i) (h2 i _ ha)
      refine .inr ⟨⟨xs, ys, u1, u2, qx, qy, hu1, hu2⟩, St (i + 1), fun H2 p => ⟨l.length - (i + 1), by omega, rfl, hlt, p⟩, fun v H2 yl => ?_⟩
      obtain ⟨T, w1, w2, rfl, hT, rfl, f1, f2⟩ := yl
      have e1' : u1 = w1 := by have z := f1 xs qx; rw [hu1] at z; simpa using z
      have e2' : u2 = w2 := by have z := f2 ys qy; rw [hu2] at z; simpa using z
      subst e1' e2'
      refine ⟨T, [u1, u2], rfl, SqT.of upd_same, rfl, u1, [u2], rfl, u2, [], rfl, rfl, ?_, ?_⟩
      · rw [wipe_setG hj2, wipe_setG hj1]
        have idem := wipe_setG (τ := L2.wipe σ vs) (x := some u1) hj1
        exact (wipe_setG (τ := L2.wipe σ vs) (x := some u1) hj1).symm.trans (wipe_set hj1)
      · show if true = true then _ else _
        rw [if_pos rfl]
        obtain ⟨x, hx, H0', F2, S2, k2⟩ := turn D i H' F' acc u1 u2 T hlt hD G fD hDl hall hu1 hu2 hT (St (i + 1)) (fun H2 h => h)
        exact ⟨x, hx, H0', F2, S2, fun z H3 F3 g3 hz3 => k2 z H3 F3 g3 hz3⟩
    · have e : i = l.length := by omega
      subst e
      refine .inl ⟨⟨xs, ys, qx, qy, by omega⟩, ?_⟩
      rw [List.take_length] at hall
      exact k D acc H' F' (g1.trans G) (g1.h.none hD) fD hDl hall
theorem en_lcZ2 {own : List (Str × Nat)} (j1 j2 : Nat) {x1 x2 : Str} {px1 px2 p1 p2 tp : Pos} {kk : Nat} {q : Bool} {la lb : List As} {l : List α} {e1 e2 : α → As} {g : α → As} (hc : X.calm = true) (hN : X.N.Nodup) (hm : X.mg "zip" = none) (hi : EAs X [a, b] ρ [sq q la, sq q lb])
    (h1 : ∀ (i : Nat) (x : α), l[i]? = some x → la[i]? = some (e1 x)) (h2 : ∀ (i : Nat) (x : α), l[i]? = some x → lb[i]? = some (e2 x)) (hl : la.length = l.length ∨ lb.length = l.length) (hz : l.length < sizeLine) (ok : BlkOk X.N X.env.scope scope own)
    (hg : ∀ (s : Shared) (H : Hp) (C : Addr) (cl : List (Str × Addr)) (fp : List Addr), PG (X.blk s H scope (compEnvC scope cl C X.env) fp) (.Tuple [.Name x1 px1, .Name x2 px2] kk tp) (gTup X.K 2 (gCons (gName j1) (gCons (gName j2) gNil))))
    (he : ∀ (s : Shared) (H : Hp) (C : Addr) (cl : List (Str × Addr)) (fp : List Addr), ∀ x ∈ l, EA (X.blk s H scope (compEnvC scope cl C X.env) fp) elt (((wipeE ρ (own.map (·.2))).set j1 (.fr (e1 x))).set j2 (.fr (e2 x))) (g x))
    (hj1 : j1 ∈ own.map (·.2) := by decide) (hj2 : j2 ∈ own.map (·.2) := by decide) (hgz : Gl X "zip" := by rfl)
    (hs : starEach [a, b] X.env = (false, eval a X.env) :: starEach [b] X.env := by rfl) (hpl : (backTo p2 (starEach [b] X.env)).any (·.1) = false := by rfl) (hfo : ∀ z, foldedSetIterable (.Call (.Name "zip" p1) [a, b] [] p2) X.env z = pure z := by intro _; rfl) :
    EN X (.ListComp elt [⟨.Tuple [.Name x1 px1, .Name x2 px2] kk tp, .Call (.Name "zip" p1) [a, b] [] p2, [], 0⟩] scope pos) ρ (l.map g) :=
  pe_imp (pe_lc (own := own) (tt := fun _ H Q => Q true H) (te := teZ ρ (own.map (·.2)) j1 j2 l e1 e2 g) hc hN (RZ.pi_zipA hgz hm hi hs hpl) ok hg (fun s H C cl fp => ⟨fun pins s1 σ H1 Q I q => pts_nil.run pins s1 σ H1 Q I q⟩) (fun s H C cl fp => ⟨fun pins s1 σ H1 Q I ⟨x, hx, q⟩ => (he s H C cl fp x hx).run pins s1 σ H1 Q I q⟩) hfo) fun σ H Q h => tlc_zip2 h1 h2 hl hz hj1 hj2 h
theorem sa_setLcZ2 {own : List (Str × Nat)} (i j1 j2 : Nat) {y : Str} {py spos : Pos} {Nx : List En → Prop} {W : Wn} {x1 x2 : Str} {px1 px2 p1 p2 tp : Pos} {kk : Nat} {q : Bool} {la lb : List As} {l : List α} {e1 e2 : α → As} {g : α → As} (hc : X.calm = true) (hN : X.N.Nodup) (hm : X.mg "zip" = none) (hi : EAs X [a, b] ρ [sq q la, sq q lb])
    (h1 : ∀ (i : Nat) (x : α), l[i]? = some x → la[i]? = some (e1 x)) (h2 : ∀ (i : Nat) (x : α), l[i]? = some x → lb[i]? = some (e2 x)) (hl : la.length = l.length ∨ lb.length = l.length) (hz : l.length < sizeLine) (ok : BlkOk X.N X.env.scope scope own)
    (hg : ∀ (s : Shared) (H : Hp) (C : Addr) (cl : List (Str × Addr)) (fp : List Addr), PG (X.blk s H scope (compEnvC scope cl C X.env) fp) (.Tuple [.Name x1 px1, .Name x2 px2] kk tp) (gTup X.K 2 (gCons (gName j1) (gCons (gName j2) gNil))))
    (he : ∀ (s : Shared) (H : Hp) (C : Addr) (cl : List (Str × Addr)) (fp : List Addr), ∀ x ∈ l, EA (X.blk s H scope (compEnvC scope cl C X.env) fp) elt (((wipeE ρ (own.map (·.2))).set j1 (.fr (e1 x))).set j2 (.fr (e2 x))) (g x))
    (k : Nx (ρ.set i (.own (l.map g)))) (hy : X.N[i]? = some y := by rfl) (hyl : X.env.scope.names.lookup y = some .local := by rfl)
    (hsw : swapsWith (.ListComp elt [⟨.Tuple [.Name x1 px1, .Name x2 px2] kk tp, .Call (.Name "zip" p1) [a, b] [] p2, [], 0⟩] scope pos) (some (.Name y py)) spos.line X.env = pure true := by exact sw_true rfl rfl rfl (by decide +kernel)) (hj1 : j1 ∈ own.map (·.2) := by decide) (hj2 : j2 ∈ own.map (·.2) := by decide) (hgz : Gl X "zip" := by rfl)
    (hs : starEach [a, b] X.env = (false, eval a X.env) :: starEach [b] X.env := by rfl) (hpl : (backTo p2 (starEach [b] X.env)).any (·.1) = false := by rfl) (hfo : ∀ z, foldedSetIterable (.Call (.Name "zip" p1) [a, b] [] p2) X.env z = pure z := by intro _; rfl) :
    SA X (.Assign [.Name y py] (.ListComp elt [⟨.Tuple [.Name x1 px1, .Name x2 px2] kk tp, .Call (.Name "zip" p1) [a, b] [] p2, [], 0⟩] scope pos) spos) ρ Nx W :=
  ps_imp (ps_setLc (own := own) (i := i) (tt := fun _ H Q => Q true H) (te := teZ ρ (own.map (·.2)) j1 j2 l e1 e2 g) hc hN hy hyl hsw (RZ.pi_zipA hgz hm hi hs hpl) ok hg (fun s H C cl fp => ⟨fun pins s1 σ H1 Q I q => pts_nil.run pins s1 σ H1 Q I q⟩) (fun s H C cl fp => ⟨fun pins s1 σ H1 Q I ⟨x, hx, q⟩ => (he s H C cl fp x hx).run pins s1 σ H1 Q I q⟩) hfo) fun D σ H ⟨F0, H0, F, g0, S, q, _⟩ => tlc_zip2 h1 h2 hl hz hj1 hj2 ⟨H0, F, S, fun p' xs H' F' g' n1 n2 hp hv => q _ _ H' F' k (g0.trans g') ((S.gr g').setN (g0.h.none n1) n2 hp hv (S.newAt n1 _))⟩
end
end Lk

set_option Elab.async false
set_option linter.all false
set_option maxRecDepth 100000
set_option maxHeartbeats 4000000
namespace Lk
open PySem PySem.Calls L2 PySem.Spec PyProof.Rows
/-! ### lists within a list that are changed -/
/-- what held in Fs, which has grown -/
def atA (Fs : Hp) (A : As) : As := ⟨fun F v => Ex Fs F ∧ A.p Fs v, fun e h => ⟨h.1.trans e, h.2⟩⟩
def atE (Fs : Hp) : En → En
  | .fr A => .fr (atA Fs A)
  | e => e
theorem at_imp {Fs : Hp} {A : As} : ∀ F v, (atA Fs A).p F v → A.p F v := fun F v h => A.mono h.1 h.2
/-- a list of lists of its own, all new since Fs, no two the same -/
def dlA (Fs : Hp) (cs : List (List V)) : As := ⟨fun F v => ∃ (a : Addr) (as : List Addr), v = .ref a ∧ F a = some (.lst (as.map V.ref)) ∧ Fs a = none ∧ a ∉ as ∧ as.Nodup ∧ as.length = cs.length ∧ ∀ (k : Nat) (b : Addr) (c : List V), as[k]? = some b → cs[k]? = some c → F b = some (.lst c) ∧ Fs b = none,
  fun e ⟨a, as, h1, h2, h3, h4, h5, h6, h7⟩ => ⟨a, as, h1, e a _ h2, h3, h4, h5, h6, fun k b c z1 z2 => let ⟨x, y⟩ := h7 k b c z1 z2; ⟨e b _ x, y⟩⟩⟩
theorem dl_all {F : Hp} : ∀ {as : List Addr} {cs : List (List V)}, as.length = cs.length → (∀ (k : Nat) (b : Addr) (c : List V), as[k]? = some b → cs[k]? = some c → F b = some (.lst c)) → AllV F (as.map V.ref) (cs.map fun c => lstA (c.map sc))
  | [], [], _, _ => trivial
  | b :: as, c :: cs, h, h7 => ⟨⟨b, c, rfl, h7 0 b c rfl rfl, AllV.of_scs⟩, dl_all (by simpa using h) fun k b' c' z1 z2 => h7 (k + 1) b' c' (by simpa using z1) (by simpa using z2)⟩
  | [], _ :: _, h, _ => by simp at h
  | _ :: _, [], h, _ => by simp at h
theorem dl_imp {Fs : Hp} {cs : List (List V)} : ∀ F v, (dlA Fs cs).p F v → (lstA (cs.map fun c => lstA (c.map sc))).p F v := fun F v ⟨a, as, h1, h2, h3, h4, h5, h6, h7⟩ => ⟨a, _, h1, h2, dl_all h6 fun k b c z1 z2 => (h7 k b c z1 z2).1⟩
section
variable {α : Type} {X : Cx} {ρ : List En}
def tEn (ρe : α → List En) (l : List α) (g : α → List V) : TE := fun σ H Q => ∃ a, a ∈ l ∧ tN (ρe a) ((g a).map sc) σ H Q
theorem tlc_new {σ : L2.St} {H : Hp} {Q : VK} {l : List α} {enc : α → As} {g : α → List V} {vs : List Nat} {j i0 : Nat} {Fs : Hp} {B0 : As} (h0 : ρ[i0]? = some (.fr (atA Fs B0))) (hj : j ∈ vs) (hz : l.length < sizeLine) (h : tA ρ (dlA Fs (l.map g)) σ H Q) :
    tLc (iS ρ (l.map enc)) (gName j) (fun _ H Q => Q true H) (tEn (fun a => (wipeE ρ vs).set j (.fr (enc a))) l g) vs σ H Q := by
  obtain ⟨H0, F, S, k⟩ := h
  obtain ⟨_, _, hFs, _⟩ := S.fr i0 _ h0
  refine ⟨H0, F, S, fun J So xs H1 F1 g1 h2 hJ hS D hD => ?_⟩
  have hlen : xs.length = l.length := by rw [h2.length, List.length_map]
  let St : Nat → Hp → Prop := fun i H' => ∃ (F' : Hp) (as : List Addr), Gr F1 H1 F' H' ∧ F' D = none ∧ H' D = some (.lst (as.map V.ref)) ∧ as.Nodup ∧ as.length = i ∧ ∀ (k : Nat) (b : Addr), as[k]? = some b → ∃ a, l[k]? = some a ∧ F' b = some (.lst (g a)) ∧ F1 b = none
  refine it_walk (xs := xs) hJ St ⟨F1, [], .newH g1.i hD, g1.i.none hD, upd_same, List.nodup_nil, rfl, fun k b z => by simp at z⟩ (fun i H' _ L => ?_) (fun i x H' hx L => ?_) (fun H' L => ?_)
  · obtain ⟨F', as, G, _⟩ := L
    exact hS H' (G.f.trans G.i)
  · have hi : i < l.length := by
      have z := (List.getElem?_eq_some_iff.mp hx).1
      omega
    have ha : l[i]? = some l[i] := List.getElem?_eq_getElem hi
    obtain ⟨u, hu, hA⟩ := h2.get (i := i) (A := enc l[i]) (by rw [List.getElem?_map, ha]; rfl)
    rw [hx] at hu
    have e : x = u := by simpa using hu
    subst e
    obtain ⟨F', as, G, fD, hDl, nd, hl, hb⟩ := L
    have S1 := (((S.gr g1).gr G).wipe vs).set (i := j) ((enc l[i]).mono G.f hA)
    refine ⟨wipe_set hj, ?_⟩
    show if true = true then _ else _
    rw [if_pos rfl]
    refine ⟨l[i], List.getElem_mem hi, H0, F', S1, fun p ys H3 F3 g3 hn fp hp hys => ?_⟩
    have ey : ys = g l[i] := AllV.scs hys
    subst ey
    have G3 := G.trans g3
    have d3 : H3 D = some (.lst (as.map V.ref)) := g3.h D _ hDl
    have f3 : F3 D = none := g3.n D _ hDl fD
    have np : p ≠ D := fun z => by rw [z, hDl] at hn; cases hn
    have G4 : Gr F1 H1 (upd F3 p (.lst (g l[i]))) H3 := G3.take (by
      cases e : H1 p with
      | none => rfl
      | some o => rw [G.h p o e] at hn; cases hn) fp hp
    refine ⟨as.map V.ref, d3, by rw [List.length_map, hl]; omega, upd F3 p (.lst (g l[i])), as ++ [p], ⟨G4.f, fun b o q => ?_, fun b o q => ?_, G4.n⟩, by rw [upd_ne (Ne.symm np)]; exact f3, by rw [upd_same, List.map_append]; rfl, ?_, by rw [List.length_append, hl]; rfl, fun k b z => ?_⟩
    · rw [upd_ne (ne_of_none q hD)]
      exact G4.h b o q
    · have nb : b ≠ D := fun z => by
        rw [z, upd_ne (Ne.symm np), f3] at q
        cases q
      rw [upd_ne nb]
      exact G4.i b o q
    · rw [List.nodup_append]
      refine ⟨nd, by simp, fun b hb1 c hc1 => ?_⟩
      rw [List.mem_singleton.mp hc1]
      intro z
      obtain ⟨k, hk⟩ := List.getElem?_of_mem hb1
      obtain ⟨a, _, e1, _⟩ := hb k b hk
      have e2 := g3.f b _ e1
      rw [z, fp] at e2
      cases e2
    · by_cases hk : k < as.length
      · rw [List.getElem?_append_left hk] at z
        obtain ⟨a, e0, e1, e2⟩ := hb k b z
        have nb : b ≠ p := fun y => by
          have e3 := g3.f b _ e1
          rw [y, fp] at e3
          cases e3
        exact ⟨a, e0, by rw [upd_ne nb]; exact g3.f b _ e1, e2⟩
      · rw [List.getElem?_append_right (by omega)] at z
        have k0 : k - as.length = 0 := by
          have := (List.getElem?_eq_some_iff.mp z).1
          simp at this
          omega
        rw [k0] at z
        have z : p = b := by simpa using z
        subst z
        have ki : k = i := by omega
        subst ki
        refine ⟨l[k], ha, upd_same, ?_⟩
        cases e : F1 p with
        | none => rfl
        | some o =>
          have e2 := G3.f p o e
          rw [fp] at e2
          cases e2
  · rw [hlen] at L
    obtain ⟨F', as, G, fD, hDl, nd, hl, hb⟩ := L
    have F1s : Ex Fs F1 := hFs.trans g1.f
    have dn : F1 D = none := g1.i.none hD
    have gg : Gr F H (upd F' D (.lst (as.map V.ref))) H' := (g1.trans G).take (g1.h.none hD) fD hDl
    refine k _ H' _ gg ⟨D, as, rfl, upd_same, F1s.none dn, fun z => ?_, nd, by rw [hl, List.length_map], fun m b c z1 z2 => ?_⟩
    · obtain ⟨m, hm⟩ := List.getElem?_of_mem z
      obtain ⟨a, _, e1, _⟩ := hb m D hm
      rw [fD] at e1
      cases e1
    · obtain ⟨a, e0, e1, e2⟩ := hb m b z1
      rw [List.getElem?_map, e0] at z2
      have z2 : g a = c := by simpa using z2
      subst z2
      have nb : b ≠ D := fun y => by rw [y, fD] at e1; cases e1
      exact ⟨by rw [upd_ne nb]; exact e1, F1s.none e2⟩
/-- y = [list(x) for x in ..] and the like -/
theorem sa_setLcNew {it elt : Expr} {scope : Scope} {pos spos : Pos} {Nx : List En → Prop} {W : Wn} {own : List (Str × Nat)} (i j i0 : Nat) {x y : Str} {px py : Pos} {l : List α} {enc : α → As} {g : α → List V} {Fs : Hp} {B0 : As} (h0 : ρ[i0]? = some (.fr (atA Fs B0))) (hc : X.calm = true) (hN : X.N.Nodup) (hi : ES X (.Name x px) it ρ (l.map enc)) (hz : l.length < sizeLine) (ok : BlkOk X.N X.env.scope scope own)
    (hg : ∀ (s : Shared) (H : Hp) (C : Addr) (cl : List (Str × Addr)) (fp : List Addr), PG (X.blk s H scope (compEnvC scope cl C X.env) fp) (.Name x px) (gName j))
    (he : ∀ (s : Shared) (H : Hp) (C : Addr) (cl : List (Str × Addr)) (fp : List Addr), ∀ a ∈ l, EN (X.blk s H scope (compEnvC scope cl C X.env) fp) elt ((wipeE ρ (own.map (·.2))).set j (.fr (enc a))) ((g a).map sc))
    (k : Nx (ρ.set i (.fr (dlA Fs (l.map g))))) (hy : X.N[i]? = some y := by rfl) (hyl : X.env.scope.names.lookup y = some .local := by rfl)
    (hsw : swapsWith (.ListComp elt [⟨.Name x px, it, [], 0⟩] scope pos) (some (.Name y py)) spos.line X.env = pure true := by exact sw_true rfl rfl rfl (by decide +kernel))
    (hj : j ∈ own.map (·.2) := by decide) (hs : ∀ z, foldedSetIterable it X.env z = pure z := by intro _; rfl) :
    SA X (.Assign [.Name y py] (.ListComp elt [⟨.Name x px, it, [], 0⟩] scope pos) spos) ρ Nx W :=
  ps_imp (ps_setLc (own := own) (i := i) (tt := fun _ H Q => Q true H) (te := tEn (fun a => (wipeE ρ (own.map (·.2))).set j (.fr (enc a))) l g) hc hN hy hyl hsw hi ok hg (fun s H C cl fp => ⟨fun pins s1 σ H1 Q I q => pts_nil.run pins s1 σ H1 Q I q⟩) (fun s H C cl fp => ⟨fun pins s1 σ H1 Q I ⟨x, hx, q⟩ => (he s H C cl fp x hx).run pins s1 σ H1 Q I q⟩) hs) fun D σ H ⟨F0, H0, F, g0, S, q, _⟩ => tlc_new h0 hj hz ⟨H0, F, S, fun v H' F' g' hv => q _ _ H' F' k (g0.trans g') ((S.gr g').set hv)⟩
end
end Lk

set_option Elab.async false
set_option linter.all false
set_option maxRecDepth 100000
set_option maxHeartbeats 4000000
namespace Lk
open PySem PySem.Calls L2 PySem.Spec PyProof.Rows
/-- untouched where a list that is new since Fs changes -/
def Thw (Fs : Hp) (e : En) : Prop := e = .no ∨ ∃ A, e = .fr A ∧ (NoLst A ∨ ∃ B, A = atA Fs B)
theorem sat_thaw {Fs F0 H0 F H : Hp} {σ : L2.St} {ρ : List En} {i : Nat} {p : Addr} {ys zs : List V} {A0 A' : As} (x0 : Ex F0 Fs) (g : Gr F0 H0 F H) (S : Sat H0 F σ H ρ) (hi : ρ[i]? = some (.fr A0)) (hp : F p = some (.lst ys)) (fp : Fs p = none)
    (oth : ∀ j e, j ≠ i → ρ[j]? = some e → Thw Fs e) (hv : ∃ v, σ[i]? = some (some v) ∧ A'.p (upd F p (.lst zs)) v) :
    Gr F0 H0 (upd F p (.lst zs)) (upd H p (.lst zs)) ∧ Sat H0 (upd F p (.lst zs)) σ (upd H p (.lst zs)) (ρ.set i (.fr A')) := by
  have f0 : F0 p = none := x0.none fp
  have h0 : H0 p = none := by
    cases e : H0 p with
    | none => rfl
    | some o =>
      have z := g.n p o e f0
      rw [hp] at z
      cases z
  have nF0 : ∀ a o, F0 a = some o → a ≠ p := fun a o e z => by rw [z, f0] at e; cases e
  have nH0 : ∀ a o, H0 a = some o → a ≠ p := fun a o e z => by rw [z, h0] at e; cases e
  have li : i < ρ.length := (List.getElem?_eq_some_iff.mp hi).1
  have exF : Ex (upd F p (.lst zs)) (upd H p (.lst zs)) := fun a o e => by
    by_cases hb : a = p
    · rw [hb, upd_same] at e ⊢
      exact e
    · rw [upd_ne hb] at e ⊢
      exact S.ex a o e
  have nm : ∀ {j : Nat} {y : En}, (ρ.set i (.fr A'))[j]? = some y → ¬ y.Mn := fun {j y} e m => by
    by_cases hj : i = j
    · subst hj
      rw [List.getElem?_set_self li] at e
      have e : En.fr A' = y := by simpa using e
      rw [← e] at m
      exact m
    · rw [List.getElem?_set_ne hj] at e
      rcases oth j _ (Ne.symm hj) e with z | ⟨A2, z, _⟩
      · rw [z] at m; exact m
      · rw [z] at m; exact m
  refine ⟨⟨fun a o e => ?_, fun a o e => ?_, exF, fun a o e1 e2 => ?_⟩, ⟨exF, fun j A e => ?_, fun j m e => (nm e True.intro).elim, fun j k m n q e1 e2 m1 m2 s1 s2 => (nm e1 m1).elim, by rw [List.length_set]; exact S.len, fun j B e => (nm e True.intro).elim⟩⟩
  · rw [upd_ne (nF0 a o e)]
    exact g.f a o e
  · rw [upd_ne (nH0 a o e)]
    exact g.h a o e
  · rw [upd_ne (nH0 a o e1)]
    exact g.n a o e1 e2
  · by_cases hj : i = j
    · subst hj
      rw [List.getElem?_set_self li] at e
      have e : A' = A := by simpa using e
      subst e
      exact hv
    · rw [List.getElem?_set_ne hj] at e
      obtain ⟨v, h1, h2⟩ := S.fr j A e
      refine ⟨v, h1, ?_⟩
      rcases oth j _ (Ne.symm hj) e with z | ⟨A2, z, h⟩
      · cases z
      · have z : A = A2 := by simpa using z
        subst z
        rcases h with h | ⟨B, rfl⟩
        · refine h F _ v (fun a o e n => ?_) h2
          have na : a ≠ p := fun z => by
            rw [z, hp] at e
            exact n ys (by simpa using e.symm)
          rw [upd_ne na]
          exact e
        · refine ⟨fun a o e => ?_, h2.2⟩
          have na : a ≠ p := fun z => by rw [z, fp] at e; cases e
          rw [upd_ne na]
          exact h2.1 a o e
/-- what is known since Fs -/
def sAF (Fs : Hp) (ρ : List En) (Nx : List En → Prop) (W : Wn) : TS := fun D σ H => ∃ F0 H0 F, Ex F0 Fs ∧ Gr F0 H0 F H ∧ Sat H0 F σ H ρ ∧
  (∀ ρ' σ' H' F', Nx ρ' → Gr F0 H0 F' H' → Sat H0 F' σ' H' ρ' → D.nx σ' H') ∧ (∀ v H' F', Gr F0 H0 F' H' → W.R.p F' v → D.rt v H') ∧
  (∀ ρ' σ' H' F', W.B ρ' → Gr F0 H0 F' H' → Sat H0 F' σ' H' ρ' → D.bk σ' H') ∧ (∀ ρ' σ' H' F', W.C ρ' → Gr F0 H0 F' H' → Sat H0 F' σ' H' ρ' → D.ct σ' H') ∧
  (∀ cls d ρ' σ' H' F', W.er ρ' F' cls d → Gr F0 H0 F' H' → Sat H0 F' σ' H' ρ' → W.wx cls d σ' H')
section
variable {X : Cx} {ρ ρ1 ρ2 : List En} {Nx : List En → Prop} {W : Wn} {st : Stmt} {sts : List Stmt} {Fs : Hp}
theorem ba_mark (no : ρ.any En.mnB = false) (h : ∀ Fs, PSs X sts (sAF Fs (ρ.map (atE Fs)) Nx W)) : BA X sts ρ Nx W := by
  refine ⟨fun pins s σ H D I ⟨F0, H0, F, g, S, q⟩ => ?_⟩
  have nm : ∀ {i : Nat} {y : En}, (ρ.map (atE F))[i]? = some y → ¬ y.Mn := fun {i y} e m => by
    rw [List.getElem?_map] at e
    cases z : ρ[i]? with
    | none => rw [z] at e; cases e
    | some x =>
      rw [z] at e
      have e : atE F x = y := by simpa using e
      cases x with
      | no => rw [← e] at m; exact m
      | own l => exact no_mn no z True.intro
      | ow B => exact no_mn no z True.intro
      | fr B => rw [← e] at m; exact m
  refine (h F).run pins s σ H D I ⟨F0, H0, F, g.f, g, ⟨S.ex, fun i A e => ?_, fun i l e => (nm e True.intro).elim, fun i j l m p e _ m1 => (nm e m1).elim, by rw [List.length_map]; exact S.len, fun i B e => (nm e True.intro).elim⟩, q⟩
  rw [List.getElem?_map] at e
  cases z : ρ[i]? with
  | none => rw [z] at e; cases e
  | some x =>
    rw [z] at e
    cases x with
    | no => cases e
    | own l => exact (no_mn no z True.intro).elim
    | ow B => exact (no_mn no z True.intro).elim
    | fr B =>
      have e : atA F B = A := by simpa [atE] using e
      subst e
      obtain ⟨v, h1, h2⟩ := S.fr i B z
      exact ⟨v, h1, Ex.refl F, h2⟩
theorem cut_out (h : BA X sts ρ Nx W) : PSs X sts (sAF Fs ρ Nx W) := pss_imp h fun D σ H ⟨F0, H0, F, _, g, S, q⟩ => ⟨F0, H0, F, g, S, q⟩
theorem cut_le (h : PSs X sts (sAF Fs ρ1 Nx W)) (le : Le ρ1 ρ) : PSs X sts (sAF Fs ρ Nx W) := pss_imp h fun D σ H ⟨F0, H0, F, x0, g, S, q⟩ => ⟨F0, H0, F, x0, g, S.le le, q⟩
theorem cut_cons (h1 : SA X st ρ (fun ρ' => ρ' = ρ2) { R := W.R }) (h2 : PSs X sts (sAF Fs ρ2 Nx W)) : PSs X (st :: sts) (sAF Fs ρ Nx W) :=
  pss_imp (pss_cons h1 h2) fun D σ H ⟨F0, H0, F, x0, g, S, q1, q2, q3, q4, q5⟩ => ⟨F0, H0, F, g, S, fun ρ' σ' H' F' e g' S' => ⟨F0, H0, F', x0, g', by rw [← e]; exact S', q1, q2, q3, q4, q5⟩, q2, fun _ _ _ _ z => z.elim, fun _ _ _ _ z => z.elim, fun _ _ _ _ _ _ z => z.elim⟩
/-- x[k].append(e) -/
theorem cut_app {call : Expr} {pos : Pos} (i : Nat) {k : Nat} {cs : List (List V)} {c : List V} {w : V} (hr : ρ[i]? = some (.fr (dlA Fs cs))) (oth : ∀ j e, j ≠ i → ρ[j]? = some e → Thw Fs e) (hk : cs[k]? = some c) (hz : c.length < sizeLine)
    (hb : PE X call (tBM X.K "list" rAppend (tOp (rIxL X.K) (tVar i) (tA ρ (int (k : Int)))) (tCons (tA ρ (sc w)) tNil))) (next : PSs X sts (sAF Fs (ρ.set i (.fr (dlA Fs (cs.set k (c ++ [w]))))) Nx W)) (hsw : swapsWith call none pos.line X.env = pure false := by rfl) : PSs X (.Expr call pos :: sts) (sAF Fs ρ Nx W) := by
  refine pss_imp (pss_cons (ps_expr hb hsw) next) fun D σ H ⟨F0, H0, F, x0, g, S, q⟩ => ?_
  obtain ⟨v, e1, a, as, ev, h1, h2, h3, h4, h5, h6⟩ := S.fr i _ hr
  subst ev
  refine ⟨_, e1, H0, F, S, fun y H1 F1 g1 hy => ?_⟩
  have hy : y = .int (k : Int) := hy
  subst hy
  have lk : k < cs.length := (List.getElem?_eq_some_iff.mp hk).1
  obtain ⟨b, hb1⟩ : ∃ b, as[k]? = some b := ⟨_, List.getElem?_eq_getElem (by omega)⟩
  obtain ⟨hF, hFs⟩ := h6 k b c hb1 hk
  refine ⟨a, _, (k : Int), .ref b, rfl, rfl, SqL.of (g1.h a _ (S.ex a _ h1)), atI_nat (by rw [List.getElem?_map, hb1]; rfl), .inl ⟨rfl, c, SqL.of (g1.h b _ (S.ex b _ hF))⟩, H0, F1, S.gr g1, fun u H2 F2 g2 hu => ?_⟩
  have hu : u = w := hu
  subst hu
  have G := g1.trans g2
  have hF2 : F2 b = some (.lst c) := G.f b _ hF
  have ab : a ≠ b := fun z => h3 (by rw [z]; exact List.mem_of_getElem? hb1)
  have q3 : ∀ (m : Nat) (b' : Addr) (c' : List V), as[m]? = some b' → (cs.set k (c ++ [u]))[m]? = some c' → (upd F2 b (.lst (c ++ [u]))) b' = some (.lst c') ∧ Fs b' = none := fun m b' c' z1 z2 => by
    by_cases hm : k = m
    · subst hm
      rw [List.getElem?_set_self lk] at z2
      have z2 : c ++ [u] = c' := by simpa using z2
      subst z2
      rw [hb1] at z1
      have z1 : b = b' := by simpa using z1
      subst z1
      exact ⟨upd_same, hFs⟩
    · rw [List.getElem?_set_ne hm] at z2
      obtain ⟨y1, y2⟩ := h6 m b' c' z1 z2
      have nb : b' ≠ b := fun z => by
        subst z
        exact hm ((List.getElem?_inj (by omega : k < as.length) h4).mp (hb1.trans z1.symm))
      exact ⟨by rw [upd_ne nb]; exact G.f b' _ y1, y2⟩
  obtain ⟨G3, S3⟩ := sat_thaw (A' := dlA Fs (cs.set k (c ++ [u]))) (zs := c ++ [u]) x0 (g.trans G) (S.gr G) hr hF2 hFs oth ⟨_, e1, a, as, rfl, by rw [upd_ne ab]; exact G.f a _ h1, h2, h3, h4, by rw [List.length_set]; exact h5, q3⟩
  exact ⟨b, c, u, rfl, rfl, S.ex.trans G.h b _ hF, hz, F0, H0, _, x0, G3, S3, q⟩
/-- x[k].insert(z, e) -/
theorem cut_ins {call : Expr} {pos : Pos} (i : Nat) {k z : Nat} {cs : List (List V)} {c : List V} {w : V} (hr : ρ[i]? = some (.fr (dlA Fs cs))) (oth : ∀ j e, j ≠ i → ρ[j]? = some e → Thw Fs e) (hk : cs[k]? = some c) (hz : c.length < sizeLine) (hz2 : z < 2 ^ 62)
    (hb : PE X call (tBM X.K "list" rIns (tOp (rIxL X.K) (tVar i) (tA ρ (int (k : Int)))) (tCons (tA ρ (int (z : Int))) (tCons (tA ρ (sc w)) tNil)))) (next : PSs X sts (sAF Fs (ρ.set i (.fr (dlA Fs (cs.set k (c.take z ++ [w] ++ c.drop z))))) Nx W)) (hsw : swapsWith call none pos.line X.env = pure false := by rfl) : PSs X (.Expr call pos :: sts) (sAF Fs ρ Nx W) := by
  refine pss_imp (pss_cons (ps_expr hb hsw) next) fun D σ H ⟨F0, H0, F, x0, g, S, q⟩ => ?_
  obtain ⟨v, e1, a, as, ev, h1, h2, h3, h4, h5, h6⟩ := S.fr i _ hr
  subst ev
  refine ⟨_, e1, H0, F, S, fun y H1 F1 g1 hy => ?_⟩
  have hy : y = .int (k : Int) := hy
  subst hy
  have lk : k < cs.length := (List.getElem?_eq_some_iff.mp hk).1
  obtain ⟨b, hb1⟩ : ∃ b, as[k]? = some b := ⟨_, List.getElem?_eq_getElem (by omega)⟩
  obtain ⟨hF, hFs⟩ := h6 k b c hb1 hk
  refine ⟨a, _, (k : Int), .ref b, rfl, rfl, SqL.of (g1.h a _ (S.ex a _ h1)), atI_nat (by rw [List.getElem?_map, hb1]; rfl), .inl ⟨rfl, c, SqL.of (g1.h b _ (S.ex b _ hF))⟩, H0, F1, S.gr g1, fun y0 Ha Fa ga hy0 => ⟨H0, Fa, (S.gr g1).gr ga, fun u H2 F2 g2' hu => ?_⟩⟩
  have hy0 : y0 = .int (z : Int) := hy0
  subst hy0
  have hu : u = w := hu
  subst hu
  have g2 := ga.trans g2'
  have G := g1.trans g2
  have hF2 : F2 b = some (.lst c) := G.f b _ hF
  have ab : a ≠ b := fun z => h3 (by rw [z]; exact List.mem_of_getElem? hb1)
  have q3 : ∀ (m : Nat) (b' : Addr) (c' : List V), as[m]? = some b' → (cs.set k (c.take z ++ [u] ++ c.drop z))[m]? = some c' → (upd F2 b (.lst (c.take z ++ [u] ++ c.drop z))) b' = some (.lst c') ∧ Fs b' = none := fun m b' c' z1 z2 => by
    by_cases hm : k = m
    · subst hm
      rw [List.getElem?_set_self lk] at z2
      have z2 : c.take z ++ [u] ++ c.drop z = c' := by simpa using z2
      subst z2
      rw [hb1] at z1
      have z1 : b = b' := by simpa using z1
      subst z1
      exact ⟨upd_same, hFs⟩
    · rw [List.getElem?_set_ne hm] at z2
      obtain ⟨y1, y2⟩ := h6 m b' c' z1 z2
      have nb : b' ≠ b := fun z => by
        subst z
        exact hm ((List.getElem?_inj (by omega : k < as.length) h4).mp (hb1.trans z1.symm))
      exact ⟨by rw [upd_ne nb]; exact G.f b' _ y1, y2⟩
  obtain ⟨G3, S3⟩ := sat_thaw (A' := dlA Fs (cs.set k (c.take z ++ [u] ++ c.drop z))) (zs := c.take z ++ [u] ++ c.drop z) x0 (g.trans G) (S.gr G) hr hF2 hFs oth ⟨_, e1, a, as, rfl, by rw [upd_ne ab]; exact G.f a _ h1, h2, h3, h4, by rw [List.length_set]; exact h5, q3⟩
  refine ⟨b, c, (z : Int), u, rfl, rfl, S.ex.trans G.h b _ hF, hz, by omega, by omega, ?_⟩
  rw [Int.toNat_natCast]
  exact ⟨F0, H0, _, x0, G3, S3, q⟩
/-- x.append(e), e a new list -/
theorem cut_appO {call : Expr} {pos : Pos} (i : Nat) {cs : List (List V)} {c : List V} (hr : ρ[i]? = some (.fr (dlA Fs cs))) (oth : ∀ j e, j ≠ i → ρ[j]? = some e → Thw Fs e) (hz : cs.length < sizeLine)
    (hb : PE X call (tBM X.K "list" rAppend (tVar i) (tCons (tN ρ (c.map sc)) tNil))) (hF0 : ∃ (i0 : Nat) (B0 : As), ρ[i0]? = some (En.fr (atA Fs B0))) (next : PSs X sts (sAF Fs (ρ.set i (.fr (dlA Fs (cs ++ [c])))) Nx W)) (hsw : swapsWith call none pos.line X.env = pure false := by rfl) : PSs X (.Expr call pos :: sts) (sAF Fs ρ Nx W) := by
  refine pss_imp (pss_cons (ps_expr hb hsw) next) fun D σ H ⟨F0, H0, F, x0, g, S, q⟩ => ?_
  obtain ⟨i0, B0, hi0⟩ := hF0
  obtain ⟨_, _, hFs0, _⟩ := S.fr i0 _ hi0
  obtain ⟨v, e1, a, as, ev, h1, h2, h3, h4, h5, h6⟩ := S.fr i _ hr
  subst ev
  refine ⟨_, e1, .inl ⟨rfl, _, SqL.of (S.ex a _ h1)⟩, H0, F, S, fun b xs H1 F1 g1 hn fb hb1 hx => ?_⟩
  have ex : xs = c := AllV.scs hx
  subst ex
  have g2 : Gr F H (upd F1 b (.lst xs)) H1 := g1.take hn fb hb1
  have nb : ∀ (y : Addr) o, F y = some o → y ≠ b := fun y o e z => by
    have := g1.f y o e
    rw [z, fb] at this
    cases this
  have na := nb a _ h1
  have fsb : Fs b = none := (hFs0.trans g1.f).none fb
  have hF2 : (upd F1 b (.lst xs)) a = some (.lst (as.map V.ref)) := by rw [upd_ne na]; exact g1.f a _ h1
  have inas : ∀ y, y ∈ as → ∃ o, F y = some o := fun y hy => by
    obtain ⟨m, hm⟩ := List.getElem?_of_mem hy
    have lm : m < cs.length := by have := (List.getElem?_eq_some_iff.mp hm).1; omega
    exact ⟨_, (h6 m y _ hm (List.getElem?_eq_getElem lm)).1⟩
  have q1 : a ∉ as ++ [b] := fun z => by
    rcases List.mem_append.mp z with z | z
    · exact h3 z
    · exact na (List.mem_singleton.mp z)
  have q2 : (as ++ [b]).Nodup := by
    rw [List.nodup_append]
    refine ⟨h4, by simp, fun y hy w hw => ?_⟩
    rw [List.mem_singleton.mp hw]
    obtain ⟨o, ho⟩ := inas y hy
    exact nb y o ho
  have q3 : ∀ (m : Nat) (b' : Addr) (c' : List V), (as ++ [b])[m]? = some b' → (cs ++ [xs])[m]? = some c' → (upd (upd F1 b (.lst xs)) a (.lst (as.map V.ref ++ [.ref b]))) b' = some (.lst c') ∧ Fs b' = none := fun m b' c' z1 z2 => by
    by_cases hm : m < as.length
    · rw [List.getElem?_append_left hm] at z1
      rw [List.getElem?_append_left (by omega)] at z2
      obtain ⟨y1, y2⟩ := h6 m b' c' z1 z2
      have n1 : b' ≠ a := fun z => h3 (by rw [← z]; exact List.mem_of_getElem? z1)
      exact ⟨by rw [upd_ne n1, upd_ne (nb b' _ y1)]; exact g1.f b' _ y1, y2⟩
    · have k0 : m = as.length := by
        have := (List.getElem?_eq_some_iff.mp z1).1
        rw [List.length_append, List.length_singleton] at this
        omega
      subst k0
      rw [List.getElem?_append_right (by omega)] at z1
      rw [h5, List.getElem?_append_right (by omega)] at z2
      have z1 : b = b' := by simpa using z1
      have z2 : xs = c' := by simpa using z2
      subst z1 z2
      exact ⟨by rw [upd_ne (Ne.symm na), upd_same], fsb⟩
  obtain ⟨G3, S3⟩ := sat_thaw (A' := dlA Fs (cs ++ [xs])) (zs := as.map V.ref ++ [.ref b]) x0 (g.trans g2) (S.gr g2) hr hF2 h2 oth ⟨_, e1, a, as ++ [b], rfl, by rw [upd_same, List.map_append]; rfl, h2, q1, q2, by rw [List.length_append, List.length_append, h5]; rfl, q3⟩
  exact ⟨a, as.map V.ref, .ref b, rfl, rfl, g1.h a _ (S.ex a _ h1), by rw [List.length_map, h5]; exact hz, F0, H0, _, x0, G3, S3, q⟩
/-- x[k].append(e), x.append(e), x[k].insert(z, e), as expressions -/
theorem pe_appIx (i : Nat) {x : Str} {px spos apos cpos : Pos} {ix e : Expr} {k : Nat} {w : V} (hk : EW X ix ρ (int (k : Int))) (he : EA X e ρ (sc w)) (hN : X.N[i]? = some x := by rfl) (hv : Vis X.env.scope x := by first | exact Or.inl rfl | exact Or.inr (Or.inl rfl) | exact Or.inr (Or.inr rfl)) (hd : (x == ("__debug__" : Str)) = false := by decide) (hcd : (x == ("__classdict__" : Str)) = false := by decide)
    (hp : PlainIx ix := by exact fun _ _ => rfl) (hbase : attributeBase (.Subscript (.Name x px) ix spos) "append" X.env (eval (.Subscript (.Name x px) ix spos) X.env) = eval (.Subscript (.Name x px) ix spos) X.env := by rfl)
    (hfew : ((backTo cpos (starEach [e] X.env)).all (fun x => !x.1) && (backToKw cpos (keywordEach [] X.env)).all (fun x => x.1.isSome) && decide ([e].length + ([] : List Keyword).length + (if ([] : List Keyword).isEmpty then 0 else 1) < 30)) = true := by rfl)
    (hline : (apos.endLine == cpos.line) = true := by rfl) (hs : starEach [e] X.env = (false, eval e X.env) :: starEach [] X.env := by rfl) (hplain : (backTo cpos (starEach [] X.env)).any (·.1) = false := by rfl) :
    PE X (.Call (.Attribute (.Subscript (.Name x px) ix spos) "append" apos) [e] [] cpos) (tBM X.K "list" rAppend (tOp (rIxL X.K) (tVar i) (tA ρ (int (k : Int)))) (tCons (tA ρ (sc w)) tNil)) :=
  pe_bm PySem.F.plainAttrs_list PySem.F.slot_list_append PySem.F.type_list_append mt_append (pe_ix ix_list (pe_var hN hv hd hcd) (sc_w hk) hp) (pa_cons he pa_nil hs) hbase hfew hline hs hplain
theorem pe_insIx (i : Nat) {x : Str} {px spos apos cpos : Pos} {ix e f : Expr} {k z : Nat} {w : V} (hk : EW X ix ρ (int (k : Int))) (he : EA X e ρ (int (z : Int))) (hf : EA X f ρ (sc w)) (hN : X.N[i]? = some x := by rfl) (hv : Vis X.env.scope x := by first | exact Or.inl rfl | exact Or.inr (Or.inl rfl) | exact Or.inr (Or.inr rfl)) (hd : (x == ("__debug__" : Str)) = false := by decide) (hcd : (x == ("__classdict__" : Str)) = false := by decide)
    (hp : PlainIx ix := by exact fun _ _ => rfl) (hbase : attributeBase (.Subscript (.Name x px) ix spos) "insert" X.env (eval (.Subscript (.Name x px) ix spos) X.env) = eval (.Subscript (.Name x px) ix spos) X.env := by rfl)
    (hfew : ((backTo cpos (starEach [e, f] X.env)).all (fun x => !x.1) && (backToKw cpos (keywordEach [] X.env)).all (fun x => x.1.isSome) && decide ([e, f].length + ([] : List Keyword).length + (if ([] : List Keyword).isEmpty then 0 else 1) < 30)) = true := by rfl)
    (hline : (apos.endLine == cpos.line) = true := by rfl) (hs : starEach [e, f] X.env = (false, eval e X.env) :: starEach [f] X.env := by rfl) (hs2 : starEach [f] X.env = (false, eval f X.env) :: starEach [] X.env := by rfl) (hplain : (backTo cpos (starEach [f] X.env)).any (·.1) = false := by rfl) :
    PE X (.Call (.Attribute (.Subscript (.Name x px) ix spos) "insert" apos) [e, f] [] cpos) (tBM X.K "list" rIns (tOp (rIxL X.K) (tVar i) (tA ρ (int (k : Int)))) (tCons (tA ρ (int (z : Int))) (tCons (tA ρ (sc w)) tNil))) :=
  pe_bm PySem.F.plainAttrs_list PySem.F.slot_list_insert PySem.F.type_list_insert mt_insert (pe_ix ix_list (pe_var hN hv hd hcd) (sc_w hk) hp) (pa_cons he (pa_cons hf pa_nil hs2) hs) hbase hfew hline hs hplain
theorem pe_appN (i : Nat) {x : Str} {px apos cpos : Pos} {e : Expr} {l : List As} (he : EN X e ρ l) (hN : X.N[i]? = some x := by rfl) (hv : Vis X.env.scope x := by first | exact Or.inl rfl | exact Or.inr (Or.inl rfl) | exact Or.inr (Or.inr rfl)) (hd : (x == ("__debug__" : Str)) = false := by decide) (hcd : (x == ("__classdict__" : Str)) = false := by decide)
    (hbase : attributeBase (.Name x px) "append" X.env (eval (.Name x px) X.env) = eval (.Name x px) X.env := by rfl)
    (hfew : ((backTo cpos (starEach [e] X.env)).all (fun x => !x.1) && (backToKw cpos (keywordEach [] X.env)).all (fun x => x.1.isSome) && decide ([e].length + ([] : List Keyword).length + (if ([] : List Keyword).isEmpty then 0 else 1) < 30)) = true := by rfl)
    (hline : (apos.endLine == cpos.line) = true := by rfl) (hs : starEach [e] X.env = (false, eval e X.env) :: starEach [] X.env := by rfl) (hplain : (backTo cpos (starEach [] X.env)).any (·.1) = false := by rfl) :
    PE X (.Call (.Attribute (.Name x px) "append" apos) [e] [] cpos) (tBM X.K "list" rAppend (tVar i) (tCons (tN ρ l) tNil)) :=
  pe_bm PySem.F.plainAttrs_list PySem.F.slot_list_append PySem.F.type_list_append mt_append (pe_var hN hv hd hcd) (pa_cons he pa_nil hs) hbase hfew hline hs hplain
end
/-! ### the other slots -/
inductive ThA (Fs : Hp) : List En → Prop
  | nil : ThA Fs []
  | no {ρ : List En} : ThA Fs ρ → ThA Fs (.no :: ρ)
  | at {A : As} {ρ : List En} : ThA Fs ρ → ThA Fs (.fr (atA Fs A) :: ρ)
  | nl {A : As} {ρ : List En} : NoLst A → ThA Fs ρ → ThA Fs (.fr A :: ρ)
inductive ThX (Fs : Hp) : Nat → List En → Prop
  | here {e : En} {ρ : List En} : ThA Fs ρ → ThX Fs 0 (e :: ρ)
  | no {i : Nat} {ρ : List En} : ThX Fs i ρ → ThX Fs (i + 1) (.no :: ρ)
  | at {i : Nat} {A : As} {ρ : List En} : ThX Fs i ρ → ThX Fs (i + 1) (.fr (atA Fs A) :: ρ)
  | nl {i : Nat} {A : As} {ρ : List En} : NoLst A → ThX Fs i ρ → ThX Fs (i + 1) (.fr A :: ρ)
theorem ThA.all {Fs : Hp} {ρ : List En} (h : ThA Fs ρ) : ∀ (j : Nat) (e : En), ρ[j]? = some e → Thw Fs e := by
  induction h with
  | nil => intro j e z; simp at z
  | no _ ih =>
    intro j e z
    cases j with
    | zero => exact .inl (by simpa using z.symm)
    | succ j => exact ih j e (by simpa using z)
  | «at» _ ih =>
    intro j e z
    cases j with
    | zero => exact .inr ⟨_, by simpa using z.symm, .inr ⟨_, rfl⟩⟩
    | succ j => exact ih j e (by simpa using z)
  | nl n _ ih =>
    intro j e z
    cases j with
    | zero => exact .inr ⟨_, by simpa using z.symm, .inl n⟩
    | succ j => exact ih j e (by simpa using z)
theorem ThX.oth {Fs : Hp} {i : Nat} {ρ : List En} (h : ThX Fs i ρ) : ∀ (j : Nat) (e : En), j ≠ i → ρ[j]? = some e → Thw Fs e := by
  induction h with
  | here h =>
    intro j e n z
    cases j with
    | zero => exact absurd rfl n
    | succ j => exact h.all j e (by simpa using z)
  | no _ ih =>
    intro j e n z
    cases j with
    | zero => exact .inl (by simpa using z.symm)
    | succ j => exact ih j e (by omega) (by simpa using z)
  | «at» _ ih =>
    intro j e n z
    cases j with
    | zero => exact .inr ⟨_, by simpa using z.symm, .inr ⟨_, rfl⟩⟩
    | succ j => exact ih j e (by omega) (by simpa using z)
  | nl nn _ ih =>
    intro j e n z
    cases j with
    | zero => exact .inr ⟨_, by simpa using z.symm, .inl nn⟩
    | succ j => exact ih j e (by omega) (by simpa using z)
end Lk

set_option Elab.async false
set_option linter.all false
set_option maxRecDepth 100000
set_option maxHeartbeats 4000000
namespace Lk
open PySem PySem.Calls L2 PySem.Spec PyProof.Rows
/-! ### defs that give a list of one's own -/
/-- a list that is new since Fs -/
def lstN (Fs : Hp) (l : List As) : As := ⟨fun F v => ∃ (p : Addr) (xs : List V), v = .ref p ∧ F p = some (.lst xs) ∧ Fs p = none ∧ AllV F xs l, fun e ⟨p, xs, h1, h2, h3, h4⟩ => ⟨p, xs, h1, e p _ h2, h3, h4.mono e⟩⟩
def spXN {ι : Type} (pre : ι → Prop) (l : ι → List As) (A : ι → List As) : Sp := fun vs H Q _ => ∃ i, pre i ∧ ∃ F, Ex F H ∧ AllV F vs (l i) ∧ ∀ v H' F', Gr F H F' H' → (lstN F (A i)).p F' v → Q v H'
theorem sat_at {H0 F H : Hp} {σ : L2.St} {ρ : List En} (no : ρ.any En.mnB = false) (S : Sat H0 F σ H ρ) : Sat H0 F σ H (ρ.map (atE F)) := by
  have nm : ∀ {i : Nat} {y : En}, (ρ.map (atE F))[i]? = some y → ¬ y.Mn := fun {i y} e m => by
    rw [List.getElem?_map] at e
    cases z : ρ[i]? with
    | none => rw [z] at e; cases e
    | some x =>
      rw [z] at e
      have e : atE F x = y := by simpa using e
      cases x with
      | no => rw [← e] at m; exact m
      | own l => exact no_mn no z True.intro
      | ow B => exact no_mn no z True.intro
      | fr B => rw [← e] at m; exact m
  refine ⟨S.ex, fun i A e => ?_, fun i l e => (nm e True.intro).elim, fun i j l m p e _ m1 => (nm e m1).elim, by rw [List.length_map]; exact S.len, fun i B e => (nm e True.intro).elim⟩
  rw [List.getElem?_map] at e
  cases z : ρ[i]? with
  | none => rw [z] at e; cases e
  | some x =>
    rw [z] at e
    cases x with
    | no => cases e
    | own l => exact (no_mn no z True.intro).elim
    | ow B => exact (no_mn no z True.intro).elim
    | fr B =>
      have e : atA F B = A := by simpa [atE] using e
      subst e
      obtain ⟨v, h1, h2⟩ := S.fr i B z
      exact ⟨v, h1, Ex.refl F, h2⟩
theorem entry_no {N : List Str} {l : List As} : (entry N l).any En.mnB = false := by
  unfold entry
  rw [List.any_append, Bool.or_eq_false_iff, List.any_eq_false, List.any_eq_false]
  refine ⟨fun x h => ?_, fun x h => ?_⟩
  · obtain ⟨A, _, rfl⟩ := List.mem_map.mp h
    exact Bool.false_ne_true
  · rw [(List.mem_replicate.mp h).2]
    exact Bool.false_ne_true
theorem fn_okN {P : Program} {w : World} {K : PySem.W.Frag} {mg : Str → Option Value} {base : Heap} {x qual : Str} {st : Stmt} {f : Addr} {fd : FuncData} {N ps : List Str} {k : Nat} {ι : Type} {pre : ι → Prop} {l : ι → List As} {A : ι → List As} (F : Fun K x qual st f fd) (S : FnScope N ps (defScope st)) (hl : ∀ i, pre i → (l i).length = ps.length)
    (hb : ∀ (i : ι) (Fs : Hp) (cdv : Value) (B : Around) (outer : List Env) (s : Shared) (H : Hp) (E : XK), pre i → Room k (B.deeper (PyProof.Rows.envOfC qual (defScope st) s.heap.objs.size f cdv)) →
      BA (cxOf CX0 P w K mg base N qual (defScope st) f cdv B outer s H E).nox (defBody st) ((entry N (l i)).map (atE Fs)) (fun _ => False) { R := lstN Fs (A i) }) : FnOk P w K mg base CX0 (k + 1) f fd ps (spXN pre l A) := by
  refine F.ok S (fun vs H Q E h => ?_) (fun cdv B outer s H vs Q E hr h => ?_)
  · obtain ⟨i, hp, F, e, hv, _⟩ := h
    rw [hv.length, hl i hp]
  · obtain ⟨i, hp, F, e, hv, q⟩ := h
    exact ⟨_, hb i F cdv B outer s H E hp hr, F, H, F, .refl e, sat_at entry_no (sat_start (ps := ps) e hv), fun _ _ _ _ z => z.elim, fun v H' F' g' hv => q v H' F' g' hv, fun _ _ _ _ z => z.elim, fun _ _ _ _ z => z.elim, fun _ _ _ _ _ _ z => z.elim⟩
section
variable {X : Cx} {e o : Expr} {es : List Expr} {ρ : List En} {l la : List As} {pos apos p1 : Pos} {Nx : List En → Prop} {W : Wn} {Fs : Hp}
/-- return a new list -/
theorem sa_retNew (he : EN X e ρ l) (hR : W.R = lstN Fs l) (hF : ∃ (i0 : Nat) (B0 : As), ρ[i0]? = some (En.fr (atA Fs B0))) : SA X (.Return (some e) pos) ρ Nx W :=
  ps_imp (ps_ret he) fun D σ H ⟨F0, H0, F, g, S, q1, q2, _⟩ => by
    obtain ⟨i0, B0, hi0⟩ := hF
    obtain ⟨_, _, hFs, _⟩ := S.fr i0 _ hi0
    refine ⟨H0, F, S, fun p xs H' F' g' n1 n2 hp hx => q2 _ H' (upd F' p (.lst xs)) (g.trans (g'.take n1 n2 hp)) ?_⟩
    rw [hR]
    exact ⟨p, xs, rfl, upd_same, (hFs.trans g'.f).none n2, hx.mono (Ex.new n2)⟩
theorem gr_new {F H F1 H1 F' H' : Hp} {p : Addr} {xs : List V} (g1 : Gr F H F1 H1) (g : Gr F1 H1 F' H') (hp : F' p = some (.lst xs)) (fp : F1 p = none) : Gr F H (cutF F' p) H' ∧ H p = none ∧ H' p = some (.lst xs) ∧ ∀ a o, F' a = some o → (∀ ys, o ≠ .lst ys) → cutF F' p a = some o := by
  have h1 : H1 p = none := by
    cases e : H1 p with
    | none => rfl
    | some o =>
      have z := g.n p o e fp
      rw [hp] at z
      cases z
  have G := g1.trans g
  have nF : ∀ a o, F a = some o → a ≠ p := fun a o e z => by
    have := g1.f a o e
    rw [z, fp] at this
    cases this
  refine ⟨⟨fun a o e => ?_, G.h, fun a o e => ?_, fun a o e1 e2 => ?_⟩, g1.h.none h1, g.i p _ hp, fun a o e n => ?_⟩
  · unfold cutF
    rw [if_neg (nF a o e)]
    exact G.f a o e
  · unfold cutF at e
    by_cases hb : a = p
    · rw [if_pos hb] at e; cases e
    · rw [if_neg hb] at e
      exact G.i a o e
  · unfold cutF
    by_cases hb : a = p
    · rw [if_pos hb]
    · rw [if_neg hb]
      exact G.n a o e1 e2
  · unfold cutF
    by_cases hb : a = p
    · rw [hb, hp] at e
      exact absurd (by simpa using e.symm) (n xs)
    · rw [if_neg hb]
      exact e
theorem cutF_same {F : Hp} {p : Addr} : cutF F p p = none := if_pos rfl
variable {k : Nat} {ι : Type} {pre : ι → Prop} {li : ι → List As} {A : ι → List As} {ps : List Str} {C : Addr} {m x : Str} {fs : List (Str × As)}
theorem en_call (D : Df X.prog X.w X.K X.mg X.base k x ps (spXN pre li A)) (hr : Room k X.A) (i : ι) (hp : pre i) (hA : A i = l) (nl : ∀ B ∈ l, NoLst B) (ha : EAs X (e :: es) ρ (li i)) (hg : Gl X x := by rfl)
    (hdb : (x == ("__debug__" : Str)) = false := by decide) (he : starEach (e :: es) X.env = (false, eval e X.env) :: starEach es X.env := by rfl) (hpl : (backTo pos (starEach es X.env)).any (·.1) = false := by rfl) : EN X (.Call (.Name x p1) (e :: es) [] pos) ρ l := by
  subst hA
  obtain ⟨f, fd, G, hm, hk, hb⟩ := D.ex
  refine pe_imp (pe_call G hr hg hm hk hb .nil pass0 ha (hdb := hdb) (he := he) (hpl := hpl)) fun σ H Q ⟨H0, F, S, q⟩ => ⟨H0, F, S, fun vs H1 F1 g1 h1 => ?_⟩
  show spXN pre li A (vs ++ []) H1 Q E0
  rw [List.append_nil]
  refine ⟨i, hp, F1, g1.i, h1, fun v H' F' g ⟨p, xs, ev, z1, z2, z3⟩ => ?_⟩
  subst ev
  obtain ⟨G2, n1, n2, n3⟩ := gr_new g1 g z1 z2
  exact q p xs H' _ G2 n1 cutF_same n2 (nl_all n3 nl z3)
theorem en_meth {pl : Sem Bool} (D : Mf X.prog X.w X.K X.mg X.base k C m ps (spXN pre li A)) (hr : Room k X.A) (hC : Cls X.K C) (i : ι) (hp : pre i) (hA : A i = l) (nl : ∀ B ∈ l, NoLst B) (ho : EA X o ρ (insA C fs)) (hm : fs.lookup m = none) (ha : EAs X (e :: es) ρ la) (hl : li i = insA C fs :: la)
    (he : starEach (e :: es) X.env = (false, eval e X.env) :: starEach es X.env := by rfl) (hpl : (backTo pos (starEach es X.env)).any (·.1) = false := by rfl)
    (hev : eval (.Call (.Attribute o m apos) (e :: es) [] pos) X.env = (do
      let ov ← eval o X.env
      standAt apos.atName
      let (f, first) ← holding [ov] (getMethod ov m pl)
      callWith pos f first (backTo pos (starEach (e :: es) X.env)) (backToKw pos (keywordEach [] X.env))) := by rfl) : EN X (.Call (.Attribute o m apos) (e :: es) [] pos) ρ l := by
  subst hA
  obtain ⟨f, fd, G, hM, hb⟩ := D.ex
  refine pe_imp (pe_meth ho hC hM G hr hb .nil pass0 ha he hpl hev) fun σ H Q ⟨H0, F, S, q⟩ => ⟨H0, F, S, fun v H1 F1 g1 ⟨p, dx, vs, ev, h1, h2⟩ => ⟨p, dx, _, ev, g1.i p _ h1, zip_nolook h2 hm, H0, F1, S.gr g1, fun us H2 F2 g2 hu => ?_⟩⟩
  show spXN pre li A (v :: (us ++ [])) H2 Q E0
  rw [List.append_nil]
  refine ⟨i, hp, F2, g2.i, ?_, fun v H' F' g ⟨p, xs, ev, z1, z2, z3⟩ => ?_⟩
  · rw [hl]
    exact ⟨(insA C fs).mono g2.f ⟨p, dx, vs, ev, h1, h2⟩, hu⟩
  · subst ev
    obtain ⟨G2, n1, n2, n3⟩ := gr_new (g1.trans g2) g z1 z2
    exact q p xs H' _ G2 n1 cutF_same n2 (nl_all n3 nl z3)
theorem en_prop (D : Pf X.prog X.w X.K X.mg X.base k C m (spXN pre li A)) (hr : Room (k + 1) X.A) (hC : Cls X.K C) (i : ι) (hp : pre i) (hA : A i = l) (nl : ∀ B ∈ l, NoLst B) (ho : EA X o ρ (insA C fs)) (hl : li i = [insA C fs])
    (hab : attributeBase o m X.env (eval o X.env) = eval o X.env := by rfl) : EN X (.Attribute o m pos) ρ l := by
  subst hA
  obtain ⟨p, g, fd, G, hP, hb⟩ := D.ex
  refine pe_imp (pe_prop ho hC hP G hr hb .nil pass0 hab) fun σ H Q ⟨H0, F, S, q⟩ => ⟨H0, F, S, fun v H1 F1 g1 ⟨p, dx, vs, ev, h1, h2⟩ => ⟨p, dx, _, ev, g1.i p _ h1, i, hp, F1, g1.i, ?_, fun v H' F' g ⟨p, xs, ev, z1, z2, z3⟩ => ?_⟩⟩
  · rw [hl]
    exact ⟨⟨p, dx, vs, rfl, h1, h2⟩, trivial⟩
  · subst ev
    obtain ⟨G2, n1, n2, n3⟩ := gr_new g1 g z1 z2
    exact q p xs H' _ G2 n1 cutF_same n2 (nl_all n3 nl z3)
end
end Lk

set_option Elab.async false
set_option linter.all false
set_option maxRecDepth 100000
set_option maxHeartbeats 4000000
namespace Lk
open PySem PySem.Calls L2 PySem.Spec PyProof.Rows
/-! ### constructors whose objects hold none of the lists that were there -/
def spMkL {ι : Type} (C : Addr) (pre : ι → Prop) (l : ι → List As) (A : ι → As) : Sp := fun vs H Q _ => ∃ i, pre i ∧ ∃ (H1 F : Hp) (p dx : Addr) (as : List V), vs = .ref p :: as ∧ H = upd (upd H1 dx (.own p)) p (.ins C dx []) ∧ H1 p = none ∧ H1 dx = none ∧ dx ≠ p ∧ Ex F H1 ∧ AllV F as (l i) ∧
  ∀ H' F' F2, Gr F H1 F' H' → Ex F2 F' → (∀ a xs, H1 a = some (.lst xs) → F2 a = none) → (A i).p F2 (.ref p) → Q .non H'
/-- the answer stands apart from the lists that were there -/
def tAL (ρ : List En) (A : As) : TE := fun σ H Q => ∃ H0 F, Sat H0 F σ H ρ ∧ ∀ v H' F' F2, Gr F H F' H' → Ex F2 F' → (∀ a xs, H a = some (.lst xs) → F2 a = none) → A.p F2 v → Q v H'
abbrev EAL (X : Cx) (e : Expr) (ρ : List En) (A : As) : Prop := PE X e (tAL ρ A)
section
variable {X : Cx} {e : Expr} {es : List Expr} {ρ : List En} {A : As} {l : List As} {pos p1 : Pos} {k : Nat} {ι : Type} {pre : ι → Prop} {li : ι → List As} {AA : ι → As} {ps : List Str} {C : Addr} {x : Str}
theorem eal_ea (h : EAL X e ρ A) : EA X e ρ A := pe_imp h fun σ H Q ⟨H0, F, S, q⟩ => ⟨H0, F, S, fun v H' F' F2 g x2 _ hv => q v H' F' g (A.mono x2 hv)⟩
theorem eal_bor (i : Nat) (hi : ρ[i]? = some (.own l)) (h : EAL X e (ρ.set i (.fr (lstA l))) A) : EAL X e ρ A :=
  pe_imp h fun σ H Q ⟨H0, F, S, q⟩ => by
    obtain ⟨p, xs, h1, h2, h3, T⟩ := sat_bor S hi
    refine ⟨H0, _, T, fun v H' F' F2 g x2 hn hv => ?_⟩
    obtain ⟨g2, _⟩ := gr_bor h1 h3 g
    refine q v H' _ F2 g2 (fun a o e => ?_) hn hv
    have ne : a ≠ p := fun z => by rw [z, hn p xs h3] at e; cases e
    unfold cutF
    rw [if_neg ne]
    exact x2 a o e
theorem make_endL {i : ι} {F H1 H : Hp} {σ : L2.St} {Q : VK} {as : List V} (hp : pre i) (e : Ex F H1) (ha : AllV F as (li i)) (q : ∀ v H' F' F2, Gr F H1 F' H' → Ex F2 F' → (∀ a xs, H1 a = some (.lst xs) → F2 a = none) → (AA i).p F2 v → Q v H') :
    ∀ x dx, H1 x = none → H1 dx = none → dx ≠ x → spMkL C pre li AA (.ref x :: (as ++ [])) (upd (upd H1 dx (.own x)) x (.ins C dx [])) (fun v H2 => v = .non ∧ Q (.ref x) H2) E0 := fun x dx hx hdx hne =>
  ⟨i, hp, H1, F, x, dx, as, by rw [List.append_nil], rfl, hx, hdx, hne, e, ha, fun H' F' F2 g x2 hn hA => ⟨rfl, q _ H' F' F2 g x2 hn hA⟩⟩
theorem ea_makeL (D : Mk1 X.prog X.w X.K X.mg X.base k C x ps (spMkL C pre li AA)) (hr : Room (k + 1) X.A) (i : ι) (hp : pre i) (hA : AA i = A) (ha : EAs X (e :: es) ρ (li i)) (hg : Gl X x := by rfl)
    (hdb : (x == ("__debug__" : Str)) = false := by decide) (he : starEach (e :: es) X.env = (false, eval e X.env) :: starEach es X.env := by rfl) (hpl : (backTo pos (starEach es X.env)).any (·.1) = false := by rfl) : EAL X (.Call (.Name x p1) (e :: es) [] pos) ρ A := by
  subst hA
  obtain ⟨f, fd, G, hM, hb, hm⟩ := D.ex
  exact pe_imp (pe_make hM G hr hg hm hb .nil pass0 ha hdb he hpl) fun σ H Q ⟨H0, F, S, q⟩ => ⟨H0, F, S, fun us H1 F1 g1 hu => make_endL (H := H) (σ := σ) hp g1.i hu fun v H' F' F2 g x2 hn hv => q v H' F' F2 (g1.trans g) x2 (fun a xs z => hn a xs (g1.h a _ z)) hv⟩
end
end Lk

set_option Elab.async false
set_option linter.all false
set_option maxRecDepth 100000
set_option maxHeartbeats 4000000
namespace Lk
open PySem PySem.Calls L2 PySem.Spec PyProof.Rows
section
variable {X : Cx} {e : Expr} {es : List Expr} {ρ : List En} {A : As} {l : List As} {pos p1 : Pos} {Nx : List En → Prop} {W : Wn}
theorem pe_clr (i : Nat) {x : Str} {px apos cpos : Pos} (hN : X.N[i]? = some x := by rfl) (hv : Vis X.env.scope x := by first | exact Or.inl rfl | exact Or.inr (Or.inl rfl) | exact Or.inr (Or.inr rfl)) (hd : (x == ("__debug__" : Str)) = false := by decide) (hcd : (x == ("__classdict__" : Str)) = false := by decide)
    (hbase : attributeBase (.Name x px) "clear" X.env (eval (.Name x px) X.env) = eval (.Name x px) X.env := by rfl) (hline : (apos.endLine == cpos.line) = true := by rfl) :
    PE X (.Call (.Attribute (.Name x px) "clear" apos) [] [] cpos) (tBM0 X.K "list" rClear (tVar i)) :=
  pe_bm0 PySem.F.plainAttrs_list PySem.F.slot_list_clear PySem.F.type_list_clear mt_clear (pe_var hN hv hd hcd) hbase hline
/-- x.clear() -/
theorem sa_clr (i : Nat) (hr : ρ[i]? = some (En.own l)) (hb : PE X e (tBM0 X.K "list" rClear (tVar i))) (k : Nx (ρ.set i (.own []))) (hsw : swapsWith e none pos.line X.env = pure false := by rfl) : SA X (.Expr e pos) ρ Nx W := by
  refine ps_imp (ps_expr hb hsw) fun D σ H ⟨F0, H0, F, g, S, q, _⟩ => ?_
  obtain ⟨p, xs, e1, h2, h3, h4, h5⟩ := S.own i l hr
  refine ⟨_, e1, .inl ⟨rfl, _, SqL.of h4⟩, p, xs, rfl, rfl, h4, ?_⟩
  obtain ⟨g3, S3⟩ := sat_wr (ys := []) (m := []) g S hr e1 trivial
  exact q _ σ _ F k g3 S3
theorem ty_lst {K : PySem.W.Frag} : ∀ F H v, Ex F H → (lstA l).p F v → TyOf K H v (.type "list") := fun F H v e ⟨a, xs, ev, h1, _⟩ => by
  subst ev
  exact .lst (e a _ h1)
theorem kit_lst_lst {K : PySem.W.Frag} : PySem.W.kitOne K (.type "list") (.type "list") = some true := kit_ty (by decide +kernel)
theorem bo_list2 : bootBuiltins ("list" : Str) = some (.type "list") := by decide +kernel
theorem bo_tup2 : bootBuiltins ("tuple" : Str) = some (.type "tuple") := by decide +kernel
end
/-- where one argument is one of many -/
theorem spX_ex {ι τ : Type} {pre : ι → Prop} {l : ι → List As} {A : ι → As} {pre' : τ → Prop} {l' : τ → List As} {A' : τ → As} (h : ∀ t, pre' t → ∀ F vs, AllV F vs (l' t) → ∃ i, pre i ∧ AllV F vs (l i) ∧ ∀ F v, (A i).p F v → (A' t).p F v) : ∀ vs H Q E, spX pre' l' A' vs H Q E → spX pre l A vs H Q E := fun vs H Q E ⟨t, ht, F, e, hv, q⟩ => by
  obtain ⟨i, hi, hv2, hA⟩ := h t ht F vs hv
  exact ⟨i, hi, F, e, hv2, fun v H' F' g hv' => q v H' F' g (hA F' v hv')⟩
end Lk

set_option Elab.async false
set_option linter.all false
set_option maxRecDepth 100000
set_option maxHeartbeats 4000000
/-! dicts whose keys are numbers, texts, None and tuples of such, side by side: the level below the layer -/
namespace Nk
open PySem PySem.Calls
/-- v is the key k -/
def At (h : Heap) (k : NestedKey) (v : Value) : Prop := NestedIs h k v ∧ k.depth ≤ 8
theorem At.inj {h : Heap} {k l : NestedKey} {v : Value} (a : At h k v) (b : At h l v) : k = l := NestedIs.inj _ _ _ a.1 b.1
theorem At.keep {h h' : Heap} {k : NestedKey} {v : Value} {d : Addr} {o : Obj} {es ep} (a : At h k v) (ho : h.get? d = some o) (hd : o.data = .dict es ep) (sb : Heap.SameBut d h h') : At h' k v :=
  ⟨NestedIs.at (fun b ob vs n e1 e2 => (sb.2 b fun z => by rw [z, ho] at e1; cases e1; rw [hd] at e2; cases e2).trans e1) k _ a.1, a.2⟩
abbrev Row := NestedKey × Value × Value
def ent (w : World) (x : Row) : DictEntry := ⟨x.1.hash w, x.2.1, x.2.2⟩
/-- at d stands a dict with these rows -/
structure Is (w : World) (h : Heap) (d : Addr) (es : Array DictEntry) (ep : Nat) (xs : List Row) : Prop where
  ob : ∃ o, h.get? d = some o ∧ o.ExactDict ∧ o.data = .dict es ep
  es : es.toList = xs.map (ent w)
  ks : ∀ x ∈ xs, At h x.1 x.2.1
  nd : (xs.map (·.1)).Nodup
/-- where the key stands -/
def spot (xs : List Row) (k : NestedKey) (i : Nat) : Bool := match xs[i]? with
  | some x => decide (x.1 = k)
  | none => false
theorem spot_lt {xs : List Row} {k : NestedKey} {i : Nat} (h : spot xs k i = true) : ∃ x, xs[i]? = some x ∧ x.1 = k := by
  unfold spot at h
  cases e : xs[i]? with
  | none => rw [e] at h; cases h
  | some x => rw [e] at h; exact ⟨x, rfl, of_decide_eq_true h⟩
theorem spot_one {xs : List Row} {k : NestedKey} (nd : (xs.map (·.1)).Nodup) {i j : Nat} (hi : spot xs k i = true) (hj : spot xs k j = true) : i = j := by
  obtain ⟨x, e1, e2⟩ := spot_lt hi
  obtain ⟨y, e3, e4⟩ := spot_lt hj
  have a : (xs.map (·.1))[i]? = some k := by rw [List.getElem?_map, e1, ← e2]; rfl
  have b : (xs.map (·.1))[j]? = some k := by rw [List.getElem?_map, e3, ← e4]; rfl
  exact (List.getElem?_inj (List.getElem?_eq_some_iff.mp a).1 nd).mp (a.trans b.symm)
/-- the index of the key, by the list -/
theorem spot_idx (xs : List Row) (k : NestedKey) : (List.range xs.length).find? (spot xs k) = xs.findIdx? fun x => decide (x.1 = k) := by
  cases h : xs.findIdx? fun x => decide (x.1 = k) with
  | none =>
    rw [List.find?_eq_none]
    intro i _ hs
    obtain ⟨x, e1, e2⟩ := spot_lt hs
    have z := List.findIdx?_eq_none_iff.mp h x (List.mem_of_getElem? e1)
    rw [decide_eq_true e2] at z
    cases z
  | some i =>
    obtain ⟨hl, hp, hb⟩ := List.findIdx?_eq_some_iff_getElem.mp h
    have si : spot xs k i = true := by
      unfold spot
      rw [List.getElem?_eq_getElem hl]
      exact hp
    rw [List.find?_range_eq_some]
    refine ⟨si, List.mem_range.mpr hl, fun j hj => ?_⟩
    have hj' : j < xs.length := Nat.lt_trans hj hl
    have q := hb j hj
    unfold spot
    rw [List.getElem?_eq_getElem hj']
    simpa using q
section
variable {P : Program} {w : World} {A : Around} {E : Value → Shared → Prop} {s : Shared} {d b : Addr} {es : Array DictEntry} {ep : Nat} {xs : List Row} {k : NestedKey}
theorem Is.row {h : Heap} (I : Is w h d es ep xs) (j : Nat) : es[j]? = (xs[j]?).map (ent w) := by
  rw [← Array.getElem?_toList, I.es, List.getElem?_map]
theorem Is.size {h : Heap} (I : Is w h d es ep xs) : es.size = xs.length := by
  rw [← Array.length_toList, I.es, List.length_map]
theorem tell (ka : At s.heap k (.ref b)) {vs : List Value} (hv : ∀ v ∈ vs, ∃ l, At s.heap l v) {Q : Bool → Shared → Prop} (q : Q false s) : wpAny (model P w) A (tableMayTell (.ref b) vs) Q E s := by
  unfold tableMayTell
  by_cases he : vs.isEmpty = true
  · rw [if_pos he]
    exact wpAny_pure q
  · rw [if_neg he]
    refine wpAny_bind (quiet_key k _ 8 s ka.1 ka.2 A E _ ?_)
    simp only [Bool.not_true, Bool.false_eq_true, if_false]
    refine wpAny_bind (wpAny_forIn_list _ (fun rs c s1 => s1 = s ∧ c = (none, ()) ∧ ∀ v ∈ rs, ∃ l, At s.heap l v) _ ?_ ?_ _ _ ⟨rfl, rfl, hv⟩)
    · rintro v rs c s1 ⟨rfl, rfl, hr⟩
      obtain ⟨l, hl⟩ := hr v (List.mem_cons_self ..)
      refine wpAny_bind (quiet_key l _ 8 s1 hl.1 hl.2 A E _ ?_)
      simp only [Bool.not_true, Bool.false_eq_true, if_false]
      exact wpAny_pure ⟨rfl, rfl, fun u hu => hr u (List.mem_cons_of_mem _ hu)⟩
    · rintro c s1 ⟨rfl, rfl, _⟩
      exact wpAny_pure q
/-- a tuple is looked for -/
theorem find (hu : A.units + 8 < cLine) (ka : At s.heap k (.ref b)) (I : Is w s.heap d es ep xs) {Q : Option Nat → Shared → Prop} (q : Q (xs.findIdx? fun x => decide (x.1 = k)) s) : wpAny (model P w) A (dictFind d (.ref b) (k.hash w)) Q E s := by
  obtain ⟨o, ho, _, hd⟩ := I.ob
  have hes := I.row
  have hsz := I.size
  rw [← spot_idx, ← hsz] at q
  -- the places of this hash
  let hit : Nat → Bool := fun i => (es[i]?.map (·.hash)) == some (k.hash w)
  have hs_hit : ∀ i, spot xs k i = true → hit i = true := fun i h => by
    obtain ⟨x, e1, e2⟩ := spot_lt h
    show ((es[i]?.map (·.hash)) == some (k.hash w)) = true
    rw [hes i, e1, ← e2]
    simp [ent]
  have hfind : (List.range es.size).find? (spot xs k) = ((List.range es.size).filter hit).find? (spot xs k) := by
    rw [List.find?_filter]
    congr 1
    funext i
    cases c : spot xs k i with
    | false => simp
    | true => simp [hs_hit i c]
  rw [hfind] at q
  have rows : ∀ e ∈ es, ∃ x ∈ xs, e = ent w x := fun e h => by
    have h2 : e ∈ xs.map (ent w) := I.es ▸ Array.mem_toList_iff.mpr h
    obtain ⟨x, h3, h4⟩ := List.mem_map.mp h2
    exact ⟨x, h3, h4.symm⟩
  have same : ¬ (es.any fun e => e.key == Value.ref b && e.hash != k.hash w) = true := by
    rw [← Array.any_toList, List.any_eq_true]
    rintro ⟨e, h1, h2⟩
    obtain ⟨x, h3, rfl⟩ := rows e (Array.mem_toList_iff.mp h1)
    simp only [ent, Bool.and_eq_true, beq_iff_eq, bne_iff_ne, ne_eq] at h2
    have a := I.ks x h3
    rw [h2.1] at a
    exact h2.2 (by rw [a.inj ka])
  have keys : ∀ v ∈ ((List.range es.size).filter hit).filterMap (fun i => es[i]?.map (·.key)), ∃ l, At s.heap l v := fun v h => by
    obtain ⟨i, _, h2⟩ := List.mem_filterMap.mp h
    rw [hes i] at h2
    cases e : xs[i]? with
    | none => rw [e] at h2; cases h2
    | some x =>
      rw [e] at h2
      have h2 : x.2.1 = v := by simpa [ent] using h2
      exact ⟨x.1, h2 ▸ I.ks x (List.mem_of_getElem? e)⟩
  have pdef : placesWithHash es.size (fun i => es[i]?.map (·.hash)) (k.hash w) = (List.range es.size).filter hit := rfl
  unfold dictFind
  try with_reducible refine wpAny_holding ?_
  refine wpAny_bind (wpAny_dictEntries ho hd ?_)
  dsimp only
  rw [pdef]
  have nd : ((List.range es.size).filter hit).Nodup := List.Pairwise.filter _ List.nodup_range
  generalize hpl : (List.range es.size).filter hit = pl at q keys nd ⊢
  have inpl : ∀ i ∈ pl, i < es.size := fun i h => by
    rw [← hpl] at h
    exact List.mem_range.mp (List.mem_filter.mp h).1
  generalize hst : pl.filterMap (fun i => es[i]?.map (·.key)) = st at keys ⊢
  rw [if_neg (show ¬ ((Value.ref b :: st).all carriedByValue) = true by simp [carriedByValue]), if_neg same]
  by_cases hone : (st == [Value.ref b]) = true <;> (first | rw [if_pos hone] | rw [if_neg hone]) <;> (first | refine wpAny_bind (wpAny_pure ?_) | refine wpAny_bind (tell ka keys ?_)) <;> (
    rw [if_neg (by simp)]
    refine wpAny_bind (wpAny_forIn_list _ (fun rs c s1 => s1 = s ∧ ∃ pre, c = (none, pre.find? (spot xs k)) ∧ pl = pre ++ rs) _ ?_ ?_ _ _ ⟨rfl, [], rfl, rfl⟩)
    · rintro i rs c s1 ⟨rfl, pre, rfl, hp⟩
      have hi : i ∈ pl := by rw [hp]; simp
      have hlt := inpl i hi
      obtain ⟨x, hx⟩ : ∃ x, xs[i]? = some x := ⟨_, List.getElem?_eq_getElem (by rw [← hsz]; exact hlt)⟩
      have hex : es[i]? = some (ent w x) := by rw [hes i, hx]; rfl
      have ax := I.ks x (List.mem_of_getElem? hx)
      have hsp : spot xs k i = decide (x.1 = k) := by unfold spot; rw [hx]
      have dx := ax.2
      have dk := ka.2
      have hnext : pl = (pre ++ [i]) ++ rs := by rw [hp]; simp
      have hprei : i ∉ pre := fun z => by
        rw [hp] at nd
        exact (List.nodup_append.mp nd).2.2 i z i (List.mem_cons_self ..) rfl
      rw [hex]
      dsimp only
      by_cases hh : ((ent w x).hash == k.hash w) = true
      · rw [if_pos hh]
        refine wpAny_bind (wpAny_dictEpoch ho hd (wpAny_bind (eqAt_key x.1 k A s1 _ _ ax.1 ka.1 (by omega) _ _ _ _ ?_)))
        rw [← NestedKey.decide_eq]
        refine wpAny_bind (wpAny_dictEpoch ho hd ?_)
        rw [if_neg (show ¬ (ep != ep) = true by simp)]
        by_cases hk : x.1 = k
        · rw [decide_eq_true hk]
          have hpre : pre.find? (spot xs k) = none := by
            rw [List.find?_eq_none]
            intro j hj hc
            exact hprei (spot_one I.nd hc (hsp.trans (decide_eq_true hk)) ▸ hj)
          have hsome : pl.find? (spot xs k) = some i := by
            rw [hp, List.find?_append, hpre]
            simp [List.find?_cons, hsp, hk]
          rw [hpre]
          first | rw [if_pos rfl] | skip
          simp only [Option.isSome_none, Bool.false_eq_true, if_false]
          first | refine wpAny_bind (wpAny_pure ?_) | skip
          refine wpAny_bind (wpAny_rule ?_)
          rw [hsome] at q
          split
          · exact wpAny_pure (wpAny_pure q)
          · exact wpAny_pure ⟨rfl, pre ++ [i], by rw [List.find?_append, hpre]; simp [List.find?_cons, hsp, hk], hnext⟩
        · rw [decide_eq_false hk]
          simp only [Bool.false_eq_true, if_false]
          refine wpAny_bind (wpAny_rule ?_)
          first | rw [if_neg (by simp)] | skip
          have step : (pre ++ [i]).find? (spot xs k) = pre.find? (spot xs k) := by
            rw [List.find?_append]
            simp [List.find?_cons, hsp, hk]
          first
            | exact wpAny_pure ⟨rfl, pre ++ [i], by rw [step], hnext⟩
            | exact wpAny_bind (wpAny_pure (wpAny_pure ⟨rfl, pre ++ [i], by rw [step], hnext⟩))
      · rw [if_neg hh]
        have hk : ¬ x.1 = k := fun z => hh (by rw [show (ent w x).hash = x.1.hash w from rfl, z]; simp)
        refine wpAny_pure ⟨rfl, pre ++ [i], ?_, hnext⟩
        rw [List.find?_append]
        simp [List.find?_cons, hsp, hk]
    · rintro c s1 ⟨rfl, pre, rfl, hp⟩
      rw [List.append_nil] at hp
      rw [hp] at q
      exact wpAny_pure q)
theorem findIdx?_same {α : Type} {f g : α → Bool} : ∀ {l : List α}, (∀ a ∈ l, f a = g a) → l.findIdx? f = l.findIdx? g
  | [], _ => rfl
  | a :: l, h => by
    rw [List.findIdx?_cons, List.findIdx?_cons, h a (List.mem_cons_self ..), findIdx?_same fun b hb => h b (List.mem_cons_of_mem _ hb)]
/-- what stands under the key -/
def val (xs : List Row) (k : NestedKey) : Option Value := (xs.find? fun x => decide (x.1 = k)).map (·.2.2)
/-- in its place, or at the end -/
def put (xs : List Row) (k : NestedKey) (u v : Value) : List Row := match xs.findIdx? fun x => decide (x.1 = k) with
  | some i => xs.modify i fun x => (x.1, x.2.1, v)
  | none => xs ++ [(k, u, v)]
theorem val_idx (xs : List Row) (k : NestedKey) : val xs k = match xs.findIdx? fun x => decide (x.1 = k) with
  | some i => (xs[i]?).map (·.2.2)
  | none => none := by
  unfold val
  induction xs with
  | nil => rfl
  | cons x xs ih =>
    rw [List.find?_cons, List.findIdx?_cons]
    cases c : decide (x.1 = k) with
    | true => rfl
    | false =>
      show Option.map (·.2.2) (xs.find? _) = _
      rw [ih]
      cases e : xs.findIdx? fun x => decide (x.1 = k) with
      | none => rfl
      | some i => rfl
/-- all keys are texts, and a text is looked for: the first that is it -/
theorem find_str {x : Str} {t : Tok} (hk : k = .text x) (I : Is w s.heap d es ep xs) (ht : ∀ r ∈ xs, ∃ y, r.1 = .text y) {Q : Option Nat → Shared → Prop} (q : Q (xs.findIdx? fun x => decide (x.1 = k)) s) : wpAny (model P w) A (dictFind d (.str x t) (k.hash w)) Q E s := by
  obtain ⟨o, ho, _, hd⟩ := I.ob
  have rows : ∀ e ∈ es, ∃ r ∈ xs, e = ent w r := fun e h => by
    have h2 : e ∈ xs.map (ent w) := I.es ▸ Array.mem_toList_iff.mpr h
    obtain ⟨r, h3, h4⟩ := List.mem_map.mp h2
    exact ⟨r, h3, h4.symm⟩
  have txs : ∀ r ∈ xs, ∃ y u, r.1 = .text y ∧ r.2.1 = .str y u := fun r hr => by
    obtain ⟨y, hy⟩ := ht r hr
    have a := (I.ks r hr).1
    rw [hy] at a
    generalize r.2.1 = v at a
    cases a with
    | text _ u => exact ⟨y, u, hy, rfl⟩
  have all : (es.all fun e => isExactStrKey e.key) = true := by
    rw [Array.all_eq_true_iff_forall_mem]
    intro e he
    obtain ⟨r, hr, rfl⟩ := rows e he
    obtain ⟨y, u, _, h2⟩ := txs r hr
    show isExactStrKey r.2.1 = true
    rw [h2]
    rfl
  have idx : (es.findIdx? fun e => e.key.isStr x) = xs.findIdx? fun r => decide (r.1 = k) := by
    have e1 : (es.findIdx? fun e => e.key.isStr x) = es.toList.findIdx? fun e => e.key.isStr x := by
      obtain ⟨l⟩ := es
      simp
    rw [e1, I.es, List.findIdx?_map]
    refine findIdx?_same fun r hr => ?_
    obtain ⟨y, u, h1, h2⟩ := txs r hr
    show (r.2.1).isStr x = decide (r.1 = k)
    rw [h1, h2, hk]
    by_cases e : y = x
    · rw [e]; simp [Value.isStr]
    · have ne : ¬ NestedKey.text y = NestedKey.text x := fun z => e (by simpa using z)
      rw [decide_eq_false ne]
      simp [Value.isStr, e]
  unfold dictFind
  try with_reducible refine wpAny_holding ?_
  refine wpAny_bind (wpAny_dictEntries ho hd ?_)
  dsimp only
  rw [if_pos all]
  unfold foundByValue
  rw [idx]
  cases f : xs.findIdx? fun r => decide (r.1 = k) with
  | none =>
    rw [f] at q
    first
    | exact wpAny_bind (wpAny_pure (wpAny_pure q))
    | exact wpAny_pure q
  | some i =>
    rw [f] at q
    obtain ⟨hl, hp, _⟩ := List.findIdx?_eq_some_iff_getElem.mp f
    have hx : xs[i]? = some xs[i] := List.getElem?_eq_getElem hl
    obtain ⟨y, u, h1, h2⟩ := txs _ (List.getElem_mem hl)
    have hy : y = x := by
      have z : xs[i].1 = k := by simpa using hp
      rw [h1, hk] at z
      simpa using z
    have hex : es[i]? = some (ent w xs[i]) := by rw [I.row i, hx]; rfl
    simp only [hex]
    have hkey : (ent w xs[i]).key = .str x u := by show xs[i].2.1 = _; rw [h2, hy]
    rw [hkey]
    first
    | refine wpAny_bind (wpAny_bind (wpAny_dictEpoch ho hd (wpAny_bind (wpAny_eqBool_str (wpAny_bind (wpAny_dictEpoch ho hd ?_))))))
    | refine wpAny_bind (wpAny_dictEpoch ho hd (wpAny_bind (wpAny_eqBool_str (wpAny_bind (wpAny_dictEpoch ho hd ?_)))))
    rw [if_neg (show ¬ (ep != ep) = true by simp)]
    simp only [decide_true, beq_self_eq_true, if_true]
    first
    | exact wpAny_bind (wpAny_rule (wpAny_pure (wpAny_pure q)))
    | exact wpAny_bind (wpAny_rule (wpAny_pure q))
/-- how a key may be looked for among others -/
def Fd (l : List NestedKey) (k : NestedKey) : Prop := (∃ ks, k = .tup ks) ∨ ((∃ x, k = .text x) ∧ ∀ j ∈ l, ∃ y, j = .text y)
theorem find_k {u : Value} (hu : A.units + 8 < cLine) (ka : At s.heap k u) (I : Is w s.heap d es ep xs) (fd : Fd (xs.map (·.1)) k) {Q : Option Nat → Shared → Prop} (q : Q (xs.findIdx? fun x => decide (x.1 = k)) s) : wpAny (model P w) A (dictFind d u (k.hash w)) Q E s := by
  rcases fd with ⟨ks, rfl⟩ | ⟨⟨x, rfl⟩, hall⟩
  · obtain ⟨ka1, ka2⟩ := ka
    cases ka1 with
    | tup h1 h2 h3 h4 => exact find hu ⟨.tup h1 h2 h3 h4, ka2⟩ I q
  · obtain ⟨ka1, ka2⟩ := ka
    cases ka1 with
    | text _ t => exact find_str rfl I (fun r hr => hall r.1 (List.mem_map.mpr ⟨r, hr, rfl⟩)) q
theorem get {u : Value} (hu : A.units + 8 < cLine) (ka : At s.heap k u) (I : Is w s.heap d es ep xs) (fd : Fd (xs.map (·.1)) k) {Q : Option Value → Shared → Prop} (q : Q (val xs k) { s with toks := s.toks + k.draws }) : wpAny (model P w) A (dictGet d u) Q E s := by
  obtain ⟨o, ho, _, hd⟩ := I.ob
  have I2 : Is w ({ s with toks := s.toks + k.draws } : Shared).heap d es ep xs := I
  have d1 := ka.2
  rw [val_idx] at q
  unfold dictGet
  try with_reducible refine wpAny_holding ?_
  refine wpAny_bind (pyHash_key k _ A s _ ka.1 (by omega) (wpAny_bind (find_k hu (s := { s with toks := s.toks + k.draws }) ka I2 fd ?_)))
  cases e : xs.findIdx? fun x => decide (x.1 = k) with
  | none =>
    rw [e] at q
    exact wpAny_pure q
  | some i =>
    rw [e] at q
    have q : Q ((xs[i]?).map (·.2.2)) { s with toks := s.toks + k.draws } := q
    refine wpAny_bind (wpAny_dictEntries (s := { s with toks := s.toks + k.draws }) ho hd ?_)
    rw [I.row i]
    cases f : xs[i]? with
    | none => rw [f] at q; exact wpAny_pure q
    | some x => rw [f] at q; exact wpAny_pure q
theorem mod_keys (v : Value) : ∀ (xs : List Row) (i : Nat), (xs.modify i fun x => (x.1, x.2.1, v)).map (·.1) = xs.map (·.1)
  | [], i => by simp
  | x :: xs, 0 => by simp
  | x :: xs, i + 1 => by simp [mod_keys v xs i]
theorem mod_ent (w : World) (v : Value) : ∀ (xs : List Row) (i : Nat), (xs.map (ent w)).modify i (fun e => { e with val := v }) = (xs.modify i fun x => (x.1, x.2.1, v)).map (ent w)
  | [], i => by simp
  | x :: xs, 0 => by simp [ent]
  | x :: xs, i + 1 => by simp [mod_ent w v xs i]
theorem mod_mem (v : Value) {y : Row} : ∀ {xs : List Row} {i : Nat}, y ∈ xs.modify i (fun x => (x.1, x.2.1, v)) → ∃ x ∈ xs, x.1 = y.1 ∧ x.2.1 = y.2.1
  | [], i, h => by simp at h
  | x :: xs, 0, h => by
    rcases List.mem_cons.mp (by simpa using h : y ∈ (x.1, x.2.1, v) :: xs) with rfl | h
    · exact ⟨x, List.mem_cons_self .., rfl, rfl⟩
    · exact ⟨y, List.mem_cons_of_mem _ h, rfl, rfl⟩
  | x :: xs, i + 1, h => by
    rcases List.mem_cons.mp (by simpa using h : y ∈ x :: xs.modify i (fun x => (x.1, x.2.1, v))) with rfl | h
    · exact ⟨y, List.mem_cons_self .., rfl, rfl⟩
    · obtain ⟨z, h1, h2⟩ := mod_mem v h
      exact ⟨z, List.mem_cons_of_mem _ h1, h2⟩
/-- the dict behind a store -/
def Put (P : Program) (w : World) (d : Addr) (xs' : List Row) (n : Nat) (s : Shared) (Q : Unit → Shared → Prop) : Prop := ∀ h' es' ep', Is w h' d es' ep' xs' → Heap.SameBut d s.heap h' → Q () { s with heap := h', toks := s.toks + n }
theorem set_at {u v : Value} (ka : At s.heap k u) (I : Is w s.heap d es ep xs) (hz : xs.length ≤ sizeLine) {Q : Unit → Shared → Prop} (q : Put P w d (put xs k u v) k.draws s Q)
    (fnd : ∀ {Q2 : Option Nat → Shared → Prop}, Q2 (xs.findIdx? fun x => decide (x.1 = k)) { s with toks := s.toks + k.draws } → wpAny (model P w) A (dictFind d u (k.hash w)) Q2 E { s with toks := s.toks + k.draws }) (hu : A.units + 8 < cLine) : wpAny (model P w) A (dictSet d u v) Q E s := by
  obtain ⟨o, ho, hx, hd⟩ := I.ob
  have d1 := ka.2
  unfold dictSet
  try with_reducible refine wpAny_holding ?_
  refine wpAny_bind (pyHash_key k _ A s _ ka.1 (by omega) ?_)
  unfold dictSetHashed
  try with_reducible refine wpAny_holding ?_
  refine wpAny_bind (fnd ?_)
  unfold Put put at q
  cases e : xs.findIdx? fun x => decide (x.1 = k) with
  | none =>
    rw [e] at q
    have nk : ∀ x ∈ xs, x.1 ≠ k := fun x hm z => by
      have y := List.findIdx?_eq_none_iff.mp e x hm
      rw [decide_eq_true z] at y
      cases y
    refine wpAny_bind (wpAny_rule (wpAny_updateDictKeys (hz := by have e := I.size; omega) (s := { s with toks := s.toks + k.draws }) ho hd (q _ _ (ep + 1) ⟨⟨_, Heap.get?_update_self _ ho (Obj.isFreed_of_dict (Obj.data_mapDictKeys hd _)), hx.mapDictKeys _, Obj.data_mapDictKeys hd _⟩, ?_, ?_, ?_⟩ (Heap.SameBut.update ..))))
    · simp [I.es, ent]
    · intro x hm
      rcases List.mem_append.mp hm with hm | hm
      · exact (I.ks x hm).keep ho hd (Heap.SameBut.update ..)
      · obtain rfl := List.mem_singleton.mp hm
        exact ka.keep ho hd (Heap.SameBut.update ..)
    · rw [List.map_append, List.nodup_append]
      refine ⟨I.nd, by simp, fun x hm y hy z => ?_⟩
      have hy : y = k := by simpa using hy
      obtain ⟨r, h1, h2⟩ := List.mem_map.mp hm
      exact nk r h1 (h2.trans (z.trans hy))
  | some i =>
    rw [e] at q
    refine wpAny_bind (wpAny_rule (wpAny_bind (wpAny_updateDict (s := { s with toks := s.toks + k.draws }) ho hd (wpAny_point (q _ _ ep ⟨⟨_, Heap.get?_update_self _ ho (Obj.isFreed_of_dict (Obj.data_mapDict hd _)), hx.mapDict _, Obj.data_mapDict hd _⟩, ?_, ?_, ?_⟩ (Heap.SameBut.update ..))))))
    · have z := mod_ent w v xs i
      rw [← I.es] at z
      obtain ⟨l⟩ := es
      simpa using z
    · intro y hm
      obtain ⟨x, h1, h2, h3⟩ := mod_mem v hm
      rw [← h2, ← h3]
      exact (I.ks x h1).keep ho hd (Heap.SameBut.update ..)
    · show ((xs.modify i fun x => (x.1, x.2.1, v)).map (·.1)).Nodup
      rw [mod_keys]
      exact I.nd
theorem set_k {u v : Value} (hu : A.units + 8 < cLine) (ka : At s.heap k u) (I : Is w s.heap d es ep xs) (fd : Fd (xs.map (·.1)) k) (hz : xs.length ≤ sizeLine) {Q : Unit → Shared → Prop} (q : Put P w d (put xs k u v) k.draws s Q) : wpAny (model P w) A (dictSet d u v) Q E s :=
  set_at ka I hz q (fun q2 => find_k hu (s := { s with toks := s.toks + k.draws }) ka I fd q2) hu
/-- anything into an empty dict -/
theorem find_none {u : Value} (ns : ∀ x t, u ≠ .str x t) (ka : At s.heap k u) (I : Is w s.heap d es ep []) {Q : Option Nat → Shared → Prop} (q : Q none s) : wpAny (model P w) A (dictFind d u (k.hash w)) Q E s := by
  obtain ⟨o, ho, _, hd⟩ := I.ob
  have he : es = #[] := by
    have z := I.es
    obtain ⟨l⟩ := es
    simpa using z
  subst he
  unfold dictFind
  try with_reducible refine wpAny_holding ?_
  refine wpAny_bind (wpAny_dictEntries ho hd ?_)
  have pe : placesWithHash (#[] : Array DictEntry).size (fun i => (#[] : Array DictEntry)[i]?.map (·.hash)) (k.hash w) = [] := rfl
  cases u with
  | str x t => exact (ns x t rfl).elim
  | ref a =>
    dsimp only
    rw [pe]
    simp only [List.filterMap_nil, carriedByValue, List.all_cons, List.all_nil, Bool.and_true, Bool.false_eq_true, if_false]
    simp only [tableMayTell]
    simp
    exact wpAny_pure q
  | _ =>
    dsimp only
    rw [pe]
    simp [carriedByValue, dictWalkPlain]
    exact wpAny_pure q
theorem set_first {u v : Value} (hu : A.units + 8 < cLine) (ns : ∀ x t, u ≠ .str x t) (ka : At s.heap k u) (I : Is w s.heap d es ep []) {Q : Unit → Shared → Prop} (q : Put P w d [(k, u, v)] k.draws s Q) : wpAny (model P w) A (dictSet d u v) Q E s :=
  set_at ka I (Nat.zero_le _) q (fun q2 => find_none (s := { s with toks := s.toks + k.draws }) ns ka I q2) hu
end
end Nk

set_option Elab.async false
set_option linter.all false
set_option maxRecDepth 100000
set_option maxHeartbeats 4000000
/-! d[k], k in d, d[k] = v of such dicts -/
namespace Nk
open PySem PySem.Calls
section
variable {P : Program} {w : World} {A : Around} {E : Value → Shared → Prop} {s : Shared} {d b : Addr} {es : Array DictEntry} {ep : Nat} {xs : List Row} {k : NestedKey} {u : Value}
theorem Is.ty {s : Shared} (I : Is w s.heap d es ep xs) : s.TypeIs (.ref d) "dict" := let ⟨o, ho, hx, _⟩ := I.ob; ⟨o, ho, hx.1⟩
theorem item {v : Value} (hu : A.units + 9 < cLine) (ka : At s.heap k u) (I : Is w s.heap d es ep xs) (fd : Fd (xs.map (·.1)) k) (hv : val xs k = some v) {Q : Value → Shared → Prop} (q : Q v { s with toks := s.toks + k.draws }) : wpAny (model P w) A (getItem (.ref d) u) Q E s := by
  have u1 : A.in1.units + 8 < cLine := by show A.units + 1 + 8 < cLine; omega
  unfold getItem
  try with_reducible refine wpAny_holding ?_
  refine wpAny_bind (wpAny_sequenceKey I.ty (by decide) (wpAny_bind (wpAny_callSpecial?_slot (name := Str.ofString "__getitem__") I.ty slot_dict_getitem (wpAny_call_entry slot_dict_getitem I.ty entry_dict_getitem ?_ (args_dict_getitem _ _)))))
  refine wpAny_bind (m := dictGet d u) (get u1 ka I fd ?_)
  rw [hv]
  exact wpAny_pure ⟨v, rfl, wpAny_pure q⟩
theorem has (hu : A.units + 9 < cLine) (ka : At s.heap k u) (hd : (d == sysModules) = false) (I : Is w s.heap d es ep xs) (fd : Fd (xs.map (·.1)) k) {Q : Bool → Shared → Prop} (q : Q (val xs k).isSome { s with toks := s.toks + k.draws }) : wpAny (model P w) A (contains (.ref d) u) Q E s := by
  have u1 : A.in1.units + 8 < cLine := by show A.units + 1 + 8 < cLine; omega
  refine wpAny_contains_slot I.ty F.slot_dict_contains (wpAny_call_entry F.slot_dict_contains I.ty F.entry_dict_contains ?_ (F.args_dict_contains_2 _ _))
  refine wpAny_bind (m := dictGet d u) (get u1 ka I fd ?_)
  cases e : val xs k with
  | some v =>
    rw [e] at q
    exact wpAny_pure ⟨_, rfl, wpAny_truthy_bool q⟩
  | none =>
    rw [e] at q
    exact wpAny_bind (m := Builtin.Dict.pendingKey? d u) (wpAny_pendingKey_other hd (wpAny_pure ⟨_, rfl, wpAny_truthy_bool q⟩))
theorem isIn (hu : A.units + 9 < cLine) (ka : At s.heap k u) (hd : (d == sysModules) = false) (I : Is w s.heap d es ep xs) (fd : Fd (xs.map (·.1)) k) {Q : Value → Shared → Prop} (q : Q (.bool (val xs k).isSome) { s with toks := s.toks + k.draws }) : wpAny (model P w) A (compareOp .In u (.ref d)) Q E s :=
  show wpAny _ _ (do return .bool (← contains (.ref d) u)) Q E s from wpAny_bind (has hu ka hd I fd (wpAny_pure q))
theorem notIn (hu : A.units + 9 < cLine) (ka : At s.heap k u) (hd : (d == sysModules) = false) (I : Is w s.heap d es ep xs) (fd : Fd (xs.map (·.1)) k) {Q : Value → Shared → Prop} (q : Q (.bool (!(val xs k).isSome)) { s with toks := s.toks + k.draws }) : wpAny (model P w) A (compareOp .NotIn u (.ref d)) Q E s :=
  show wpAny _ _ (do return .bool (!(← contains (.ref d) u))) Q E s from wpAny_bind (has hu ka hd I fd (wpAny_pure q))
theorem store {v : Value} (hu : A.units + 9 < cLine) (ka : At s.heap k u) (I : Is w s.heap d es ep xs) (fd : Fd (xs.map (·.1)) k) (hz : xs.length ≤ sizeLine) {Q : Unit → Shared → Prop} (q : Put P w d (put xs k u v) k.draws s Q) : wpAny (model P w) A (setItem (.ref d) u v) Q E s := by
  have u1 : A.in1.units + 8 < cLine := by show A.units + 1 + 8 < cLine; omega
  unfold setItem
  try with_reducible refine wpAny_holding ?_
  refine wpAny_bind (wpAny_sequenceKey I.ty (by decide) (wpAny_bind (wpAny_callSpecial?_slot (name := Str.ofString "__setitem__") I.ty slot_dict_setitem (wpAny_call_entry slot_dict_setitem I.ty entry_dict_setitem ?_ (args_dict_setitem _ _ _)))))
  refine wpAny_bind (m := Builtin.Dict.notOrdered "__setitem__" ⟨[.ref d, u, v], []⟩) (wpAny_notOrdered_dict I.ty ?_)
  refine wpAny_bind (m := dictSet d u v) (set_k u1 ka I fd hz fun h' es' ep' I' sb => wpAny_pure ⟨.none, rfl, wpAny_pure (q h' es' ep' I' sb)⟩)
end
end Nk
namespace Lk
open PySem PySem.Calls L2 PySem.Spec PyProof.Rows
/-! ### keys -/
mutual
def NkA (F : Hp) : NestedKey → V → Prop
  | .none, v => v = .non
  | .num i, v => v = .int i
  | .text x, v => v = .str x
  | .tup ks, v => ∃ a xs, v = .ref a ∧ F a = some (.tup xs) ∧ NkAll F ks xs
def NkAll (F : Hp) : List NestedKey → List V → Prop
  | [], [] => True
  | k :: ks, v :: vs => NkA F k v ∧ NkAll F ks vs
  | [], _ :: _ => False
  | _ :: _, [] => False
end
mutual
theorem NkA.mono {F F' : Hp} (e : Ex F F') : ∀ (k : NestedKey) (v : V), NkA F k v → NkA F' k v
  | .none, v, h => h
  | .num i, v, h => h
  | .text x, v, h => h
  | .tup ks, v, h => by
    unfold NkA at h ⊢
    obtain ⟨a, xs, h1, h2, h3⟩ := h
    exact ⟨a, xs, h1, e a _ h2, NkAll.mono e ks xs h3⟩
theorem NkAll.mono {F F' : Hp} (e : Ex F F') : ∀ (ks : List NestedKey) (vs : List V), NkAll F ks vs → NkAll F' ks vs
  | [], [], h => h
  | k :: ks, v :: vs, h => by
    unfold NkAll at h ⊢
    exact ⟨NkA.mono e k v h.1, NkAll.mono e ks vs h.2⟩
  | [], _ :: _, h => h.elim
  | _ :: _, [], h => h.elim
end
def nkA (k : NestedKey) : As := ⟨fun F v => NkA F k v ∧ k.depth ≤ 8, fun e h => ⟨h.1.mono e, h.2⟩⟩
section
variable {P : Program} {w : World} {H : Hp} {h : Heap}
mutual
theorem nk_is (ok : HOk P w H h) : ∀ (k : NestedKey) (v : V) (u : Value), NkA H k v → RelV v u → NestedIs h k u
  | .none, v, u, a, r => by
    obtain rfl : v = .non := a
    cases r
    exact .none
  | .num i, v, u, a, r => by
    obtain rfl : v = .int i := a
    obtain ⟨t, rfl⟩ := r
    exact .int i t
  | .text x, v, u, a, r => by
    obtain rfl : v = .str x := a
    obtain ⟨t, rfl⟩ := r
    exact .text x t
  | .tup ks, v, u, a, r => by
    unfold NkA at a
    obtain ⟨b, xs, rfl, h2, h3⟩ := a
    cases r
    obtain ⟨_, its, rv, o, h4, h5, n, h6⟩ := (show ObjOk P w H h b (.tup xs) from ok b _ h2)
    exact .tup h4 h5 h6 (by simpa using nk_all ok ks xs its h3 rv)
theorem nk_all (ok : HOk P w H h) : ∀ (ks : List NestedKey) (vs : List V) (us : List Value), NkAll H ks vs → Vals vs us → NestedAll h ks us
  | [], [], _, _, r => by
    cases r
    exact .nil
  | k :: ks, v :: vs, _, a, r => by
    cases r with
    | cons r1 r2 =>
      unfold NkAll at a
      exact .cons (nk_is ok k v _ a.1 r1) (nk_all ok ks vs _ a.2 r2)
  | [], _ :: _, _, a, _ => a.elim
  | _ :: _, [], _, a, _ => a.elim
end
theorem nk_at (ok : HOk P w H h) {k : NestedKey} {v : V} {u : Value} (a : (nkA k).p H v) (r : RelV v u) : Nk.At h k u := ⟨nk_is ok k v u a.1 r, a.2⟩
end
/-! ### the object -/
def ndO (a : Addr) (es : Array DictEntry) (ep : Nat) : HO := .ext fun h => ∃ o, h.get? a = some o ∧ o.ExactDict ∧ o.data = .dict es ep
/-- one row: the key, what is said of the value -/
def RowA (F : Hp) (x : NestedKey × As) (r : Nk.Row) : Prop := r.1 = x.1 ∧ ∃ y z, RelV y r.2.1 ∧ RelV z r.2.2 ∧ (nkA x.1).p F y ∧ x.2.p F z
def RowsA (F : Hp) : List (NestedKey × As) → List Nk.Row → Prop
  | [], [] => True
  | x :: l, r :: rs => RowA F x r ∧ RowsA F l rs
  | [], _ :: _ => False
  | _ :: _, [] => False
theorem RowA.mono {F F' : Hp} (e : Ex F F') {x : NestedKey × As} {r : Nk.Row} (h : RowA F x r) : RowA F' x r := by
  obtain ⟨h0, y, z, h1, h2, h3, h4⟩ := h
  exact ⟨h0, y, z, h1, h2, (nkA x.1).mono e h3, x.2.mono e h4⟩
theorem RowsA.mono {F F' : Hp} (e : Ex F F') : ∀ {l : List (NestedKey × As)} {rs : List Nk.Row}, RowsA F l rs → RowsA F' l rs
  | [], [], h => h
  | _ :: _, _ :: _, h => ⟨h.1.mono e, RowsA.mono e h.2⟩
  | [], _ :: _, h => h.elim
  | _ :: _, [], h => h.elim
theorem RowsA.len {F : Hp} : ∀ {l : List (NestedKey × As)} {rs : List Nk.Row}, RowsA F l rs → l.length = rs.length
  | [], [], _ => rfl
  | _ :: _, _ :: _, h => congrArg (· + 1) (RowsA.len h.2)
  | [], _ :: _, h => h.elim
  | _ :: _, [], h => h.elim
theorem RowsA.keys {F : Hp} : ∀ {l : List (NestedKey × As)} {rs : List Nk.Row}, RowsA F l rs → rs.map (·.1) = l.map (·.1)
  | [], [], _ => rfl
  | _ :: _, _ :: _, h => by rw [List.map_cons, List.map_cons, RowsA.keys h.2, h.1.1]
  | [], _ :: _, h => h.elim
  | _ :: _, [], h => h.elim
/-- what a dict with these rows is -/
structure NdP (w : World) (l : List (NestedKey × As)) (F : Hp) (a : Addr) (o : HO) : Prop where
  sys : (a == sysModules) = false
  ex : ∃ es ep rs, o = ndO a es ep ∧ es.toList = rs.map (Nk.ent w) ∧ (l.map (·.1)).Nodup ∧ RowsA F l rs
def ndOb (w : World) (l : List (NestedKey × As)) : Ob := ⟨fun F a o => NdP w l F a o, fun e h => ⟨h.sys, let ⟨es, ep, rs, h1, h2, h3, h4⟩ := h.ex; ⟨es, ep, rs, h1, h2, h3, h4.mono e⟩⟩⟩
def ndA (w : World) (l : List (NestedKey × As)) : As := ⟨fun F v => ∃ a o, v = .ref a ∧ F a = some o ∧ NdP w l F a o, fun e ⟨a, o, h1, h2, h3⟩ => ⟨a, o, h1, e a _ h2, (ndOb w l).mono e h3⟩⟩
theorem nd_is {P : Program} {w : World} {H F : Hp} {h : Heap} (ok : HOk P w H h) (e : Ex F H) {l : List (NestedKey × As)} {a : Addr} {o : HO} (ha : H a = some o) (n : NdP w l F a o) : ∃ es ep rs, o = ndO a es ep ∧ Nk.Is w h a es ep rs ∧ RowsA F l rs := by
  obtain ⟨es, ep, rs, rfl, h1, h2, h3⟩ := n.ex
  obtain ⟨⟨ob, q1, q2, q3⟩, _⟩ := (show ObjOk P w H h a (ndO a es ep) from ok a _ ha)
  refine ⟨es, ep, rs, rfl, ⟨⟨ob, q1, q2, q3⟩, h1, ?_, by rw [h3.keys]; exact h2⟩, h3⟩
  have h4 := h3.mono e
  clear h1 h2 h3 n q1 q2 q3
  induction l generalizing rs with
  | nil =>
    cases rs with
    | nil => intro x hx; simp at hx
    | cons _ _ => exact h4.elim
  | cons x l ih =>
    cases rs with
    | nil => exact h4.elim
    | cons r rs =>
      intro y hy
      rcases List.mem_cons.mp hy with rfl | hy
      · obtain ⟨e0, v, z, r1, _, k1, _⟩ := h4.1
        rw [e0]
        exact nk_at ok k1 r1
      · exact ih rs h4.2 y hy
/-- a look-up by keys -/
def lookN {α : Type} (l : List (NestedKey × α)) (k : NestedKey) : Option α := (l.find? fun x => decide (x.1 = k)).map (·.2)
theorem rows_val {F : Hp} {k : NestedKey} : ∀ {l : List (NestedKey × As)} {rs : List Nk.Row}, RowsA F l rs → (lookN l k = none ∧ Nk.val rs k = none) ∨ ∃ A u z, lookN l k = some A ∧ Nk.val rs k = some u ∧ RelV z u ∧ A.p F z
  | [], [], _ => .inl ⟨rfl, rfl⟩
  | x :: l, r :: rs, h => by
    obtain ⟨e0, y, z, r1, r2, k1, k2⟩ := h.1
    unfold lookN Nk.val
    rw [List.find?_cons, List.find?_cons, e0]
    cases c : decide (x.1 = k) with
    | true => exact .inr ⟨x.2, r.2.2, z, rfl, rfl, r2, k2⟩
    | false => exact rows_val h.2
  | [], _ :: _, h => h.elim
  | _ :: _, [], h => h.elim
def putN {α : Type} (l : List (NestedKey × α)) (k : NestedKey) (a : α) : List (NestedKey × α) := match l.findIdx? fun x => decide (x.1 = k) with
  | some i => l.modify i fun x => (x.1, a)
  | none => l ++ [(k, a)]
theorem rows_snoc {F : Hp} {x : NestedKey × As} {r : Nk.Row} : ∀ {l : List (NestedKey × As)} {rs : List Nk.Row}, RowsA F l rs → RowA F x r → RowsA F (l ++ [x]) (rs ++ [r])
  | [], [], _, h => ⟨h, trivial⟩
  | _ :: _, _ :: _, h, k => ⟨h.1, rows_snoc h.2 k⟩
  | [], _ :: _, h, _ => h.elim
  | _ :: _, [], h, _ => h.elim
theorem rows_idx {F : Hp} {k : NestedKey} : ∀ {l : List (NestedKey × As)} {rs : List Nk.Row}, RowsA F l rs → (rs.findIdx? fun x => decide (x.1 = k)) = l.findIdx? fun x => decide (x.1 = k)
  | [], [], _ => rfl
  | x :: l, r :: rs, h => by rw [List.findIdx?_cons, List.findIdx?_cons, h.1.1, rows_idx h.2]
  | [], _ :: _, h => h.elim
  | _ :: _, [], h => h.elim
theorem rows_mod {F : Hp} {A : As} {u : Value} {z : V} (r : RelV z u) (a : A.p F z) : ∀ {l : List (NestedKey × As)} {rs : List Nk.Row} (i : Nat), RowsA F l rs → RowsA F (l.modify i fun x => (x.1, A)) (rs.modify i fun x => (x.1, x.2.1, u))
  | [], [], i, h => by simpa using h
  | x :: l, y :: rs, 0, h => by
    obtain ⟨e0, v, z', r1, r2, k1, k2⟩ := h.1
    exact ⟨⟨e0, v, z, r1, r, k1, a⟩, h.2⟩
  | x :: l, y :: rs, i + 1, h => ⟨h.1, rows_mod r a i h.2⟩
  | [], _ :: _, _, h => h.elim
  | _ :: _, [], _, h => h.elim
theorem rows_put {F : Hp} {k : NestedKey} {A : As} {y z : V} {u v : Value} {l : List (NestedKey × As)} {rs : List Nk.Row} (h : RowsA F l rs) (r1 : RelV y u) (k1 : (nkA k).p F y) (r2 : RelV z v) (a : A.p F z) : RowsA F (putN l k A) (Nk.put rs k u v) := by
  unfold putN Nk.put
  rw [rows_idx h]
  cases l.findIdx? fun x => decide (x.1 = k) with
  | none => exact rows_snoc h ⟨rfl, y, z, r1, r2, k1, a⟩
  | some i => exact rows_mod r2 a i h
theorem putN_len {α : Type} (l : List (NestedKey × α)) (k : NestedKey) (a : α) : (putN l k a).length ≤ l.length + 1 := by
  unfold putN
  split
  · rw [List.length_modify]; omega
  · rw [List.length_append]; exact Nat.le_refl _
theorem nd_new {P : Program} {w : World} {H : Hp} {h : Heap} (b : sysModules < h.objs.size) : ObjOk P w H (h.push { cls := .type "dict", data := .dict #[] }) h.objs.size (ndO h.objs.size #[] 0) :=
  ⟨⟨_, Heap.get?_push_size _ rfl, ⟨rfl, rfl, rfl⟩, rfl⟩, ⟨_, Heap.get?_push_size _ rfl⟩, fun h1 h2 ⟨o, e, q⟩ k => ⟨o, k o e, q⟩⟩
end Lk

set_option Elab.async false
set_option linter.all false
set_option maxRecDepth 100000
set_option maxHeartbeats 4000000
namespace Lk
open PySem PySem.Calls L2 PySem.Spec PyProof.Rows
theorem fdT {l : List NestedKey} {ks : List NestedKey} : Nk.Fd l (.tup ks) := .inl ⟨ks, rfl⟩
theorem fdS {l : List NestedKey} {x : Str} (h : ∀ j ∈ l, ∃ y, j = .text y) : Nk.Fd l (.text x) := .inr ⟨⟨x, rfl⟩, h⟩
section
variable {X : Cx} {o e i value : Expr} {td ty tv : TE} {pos pos' : Pos}
/-- {} -/
def tNNew (w : World) : TE := fun _ H Q => ∀ p ob, H p = none → (∀ F, NdP w [] F p ob) → Q (.ref p) (upd H p ob)
theorem pe_nnew : PE X (.Dict [] [] pos) (tNNew X.w) := ⟨fun pins s σ H Q I h => by
  have hb : (s.heap.objs.size == sysModules) = false := beq_eq_false_iff_ne.mpr (Ne.symm (Nat.ne_of_lt I.big))
  exact wpAny_Dict_empty ⟨.ref s.heap.objs.size, _, I.laid (a := s.heap.objs.size) (o := ndO s.heap.objs.size #[] 0) (t' := s.toks) (fun _ _ q => Heap.get?_push_of_some _ q) (Nat.le_refl _) (nd_new I.big), rfl,
    h _ _ (I.hok.fresh (Nat.le_refl _)) fun F => ⟨hb, #[], 0, [], rfl, rfl, List.nodup_nil, trivial⟩⟩⟩
/-- d[k] = v -/
def sNPut (w : World) (td ty tv : TE) : TS := fun D σ H => tv σ H fun v H1 => td σ H1 fun x H2 => ty σ H2 fun y H3 => ∃ a F l ky A o, x = .ref a ∧ H3 a = some o ∧ Ex F H3 ∧ NdP w l F a o ∧ (nkA ky).p F y ∧ Nk.Fd (l.map (·.1)) ky ∧ A.p F v ∧ l.length < sizeLine ∧
  ∀ o', NdP w (putN l ky A) F a o' → D.nx σ (upd H3 a o')
theorem ps_nput (hu : X.A.units + 9 < cLine) (ho : PE X o td) (hi : PE X i ty) (hv : PE X value tv) (hs : swapsWith value (some (.Subscript o i pos')) pos.line X.env = pure false) :
    PS X (.Assign [.Subscript o i pos'] value pos) (sNPut X.w td ty tv) := by
  refine ⟨fun pins s σ H D I h => ?_⟩
  refine wpAny_Assign_Subscript (thn (hv.run pins s σ H _ I h) fun r s1 ⟨v, H1, I1, rv, q1⟩ => thn (ho.run pins s1 σ H1 _ I1 q1) fun u s2 ⟨x, H2, I2, rx, q2⟩ => thn (hi.run pins s2 σ H2 _ I2 q2) fun iv s3 ⟨y, H3, I3, ry, a, F, l, ky, A, o, ex, ha, xF, nd, kA, fd, vA, hz, q3⟩ => ?_) hs
  subst ex
  obtain rfl : u = Value.ref a := rx
  obtain ⟨es, ep, rs, rfl, is, rows⟩ := nd_is I3.hok xF ha nd
  refine Nk.store hu (nk_at I3.hok ((nkA _).mono xF kA) ry) is (by rw [rows.keys]; exact fd) (by rw [← rows.len]; omega) fun h' es' ep' is' sb => ?_
  have rows' := rows_put rows ry kA rv vA
  obtain ⟨ob, w1, w2, w3⟩ := is'.ob
  refine ⟨σ, _, d_write I3 (by rw [ha]; exact True.intro) sb ⟨ob, w1⟩ ?_, q3 (ndO a es' ep') ⟨nd.sys, es', ep', _, rfl, is'.es, by rw [← rows'.keys]; exact is'.nd, rows'⟩⟩
  exact ⟨⟨ob, w1, w2, w3⟩, ⟨ob, w1⟩, fun h1 h2 ⟨o, e, q⟩ k => ⟨o, k o e, q⟩⟩
/-- d[k] -/
def tNGet (w : World) (td ty : TE) : TE := fun σ H Q => td σ H fun x H1 => ty σ H1 fun y H2 => ∃ a F l ky A o, x = .ref a ∧ H2 a = some o ∧ Ex F H2 ∧ NdP w l F a o ∧ (nkA ky).p F y ∧ Nk.Fd (l.map (·.1)) ky ∧ lookN l ky = some A ∧ ∀ z, A.p F z → Q z H2
theorem pe_nget (hu : X.A.units + 9 < cLine) (ho : PE X o td) (hi : PE X i ty) (hs : NoSl i) : PE X (.Subscript o i pos) (tNGet X.w td ty) := by
  refine ⟨fun pins s σ H Q I h => ?_⟩
  refine subD_of PySem.F.slot_dict_getitem.lookup hs (thn (ho.run pins s σ H _ I h) fun u s1 ⟨x, H1, I1, rx, q1⟩ => thn (hi.run pins s1 σ H1 _ I1 q1) fun iv s2 ⟨y, H2, I2, ry, a, F, l, ky, A, o, ex, ha, xF, nd, kA, fd, hl, q2⟩ => ?_)
  subst ex
  obtain rfl : u = Value.ref a := rx
  obtain ⟨es, ep, rs, rfl, is, rows⟩ := nd_is I2.hok xF ha nd
  refine ⟨is.ty, ?_⟩
  rcases rows_val (k := ky) rows with ⟨z, _⟩ | ⟨B, u, z, h1, h2, h3, h4⟩
  · rw [hl] at z; cases z
  · rw [hl] at h1
    obtain rfl : A = B := by simpa using h1
    exact Nk.item hu (nk_at I2.hok ((nkA _).mono xF kA) ry) is (by rw [rows.keys]; exact fd) h2 ⟨z, H2, I2.tok _, h3, q2 z h4⟩
/-- k in d, k not in d -/
def tNIn (w : World) (ng : Bool) (ty td : TE) : TE := fun σ H Q => ty σ H fun y H1 => td σ H1 fun x H2 => ∃ a F l ky o, x = .ref a ∧ H2 a = some o ∧ Ex F H2 ∧ NdP w l F a o ∧ (nkA ky).p F y ∧ Nk.Fd (l.map (·.1)) ky ∧ Q (.bl (ng ^^ (lookN l ky).isSome)) H2
theorem pc_nin (hu : X.A.units + 9 < cLine) (hi : PE X i ty) (ho : PE X o td) : PC X .In i o (tNIn X.w false ty td) := by
  refine ⟨fun pins s σ H Q I h => ?_⟩
  refine thn (hi.run pins s σ H _ I h) fun iv s1 ⟨y, H1, I1, ry, q1⟩ => thn (ho.run pins s1 σ H1 _ I1 q1) fun u s2 ⟨x, H2, I2, rx, a, F, l, ky, o, ex, ha, xF, nd, kA, fd, q2⟩ => ?_
  subst ex
  obtain rfl : u = Value.ref a := rx
  obtain ⟨es, ep, rs, rfl, is, rows⟩ := nd_is I2.hok xF ha nd
  have e : (Nk.val rs ky).isSome = (lookN l ky).isSome := by
    rcases rows_val (k := ky) rows with ⟨z1, z2⟩ | ⟨B, u, z, h1, h2, _⟩
    · rw [z1, z2]; rfl
    · rw [h1, h2]; rfl
  refine Nk.isIn hu (nk_at I2.hok ((nkA _).mono xF kA) ry) nd.sys is (by rw [rows.keys]; exact fd) ⟨.bl _, H2, I2.tok _, rfl, ?_⟩
  rw [e]
  simpa using q2
theorem pc_nnotin (hu : X.A.units + 9 < cLine) (hi : PE X i ty) (ho : PE X o td) : PC X .NotIn i o (tNIn X.w true ty td) := by
  refine ⟨fun pins s σ H Q I h => ?_⟩
  refine thn (hi.run pins s σ H _ I h) fun iv s1 ⟨y, H1, I1, ry, q1⟩ => thn (ho.run pins s1 σ H1 _ I1 q1) fun u s2 ⟨x, H2, I2, rx, a, F, l, ky, o, ex, ha, xF, nd, kA, fd, q2⟩ => ?_
  subst ex
  obtain rfl : u = Value.ref a := rx
  obtain ⟨es, ep, rs, rfl, is, rows⟩ := nd_is I2.hok xF ha nd
  have e : (Nk.val rs ky).isSome = (lookN l ky).isSome := by
    rcases rows_val (k := ky) rows with ⟨z1, z2⟩ | ⟨B, u, z, h1, h2, _⟩
    · rw [z1, z2]; rfl
    · rw [h1, h2]; rfl
  refine Nk.notIn hu (nk_at I2.hok ((nkA _).mono xF kA) ry) nd.sys is (by rw [rows.keys]; exact fd) ⟨.bl _, H2, I2.tok _, rfl, ?_⟩
  rw [e]
  simpa using q2
end
section
variable {X : Cx} {o i value : Expr} {sts : List Stmt} {ρ : List En} {A : As} {l : List (NestedKey × As)} {ky : NestedKey} {k : Nat} {pos pos' : Pos} {Nx : List En → Prop} {W : Wn}
theorem un9 (hr : Room k X.A) : X.A.units + 9 < cLine := by have := hr.un; omega
/-- reading a dict that stays -/
theorem ea_getN (hr : Room k X.A) (ho : EA X o ρ (ndA X.w l)) (hi : EA X i ρ (nkA ky)) (fd : Nk.Fd (l.map (·.1)) ky) (hl : lookN l ky = some A) (hs : NoSl i := by exact fun _ _ => rfl) : EA X (.Subscript o i pos) ρ A :=
  pe_imp (pe_nget (un9 hr) ho hi hs) fun σ H Q ⟨H0, F, S, q⟩ => ⟨H0, F, S, fun v H1 F1 g1 ⟨a, ob, ev, h1, h2⟩ => ⟨H0, F1, S.gr g1, fun y H2 F2 g2 hy =>
    ⟨a, F2, l, ky, A, ob, ev, g2.h a _ (g1.i a _ h1), g2.i, (ndOb X.w l).mono g2.f h2, hy, fd, hl, fun z hz => q z H2 F2 (g1.trans g2) hz⟩⟩⟩
theorem et_inN (hr : Room k X.A) (hi : EA X i ρ (nkA ky)) (ho : EA X o ρ (ndA X.w l)) (fd : Nk.Fd (l.map (·.1)) ky) (hm : behindInMarks .In o = false) : ET X (.Compare i [.In] [o] pos) ρ (lookN l ky).isSome :=
  pt_imp (pt_cmp (pc_nin (un9 hr) hi ho) hm) fun σ H Q ⟨H0, F, S, q⟩ => ⟨H0, F, S, fun y H1 F1 g1 hy => ⟨H0, F1, S.gr g1, fun v H2 F2 g2 ⟨a, ob, ev, h1, h2⟩ =>
    ⟨a, F2, l, ky, ob, ev, g2.i a _ h1, g2.i, h2, (nkA _).mono g2.f hy, fd, _, rfl, by simpa using q H2 F2 (g1.trans g2)⟩⟩⟩
theorem et_notinN (hr : Room k X.A) (hi : EA X i ρ (nkA ky)) (ho : EA X o ρ (ndA X.w l)) (fd : Nk.Fd (l.map (·.1)) ky) (hm : behindInMarks .NotIn o = false) : ET X (.Compare i [.NotIn] [o] pos) ρ (!(lookN l ky).isSome) :=
  pt_imp (pt_cmp (pc_nnotin (un9 hr) hi ho) hm) fun σ H Q ⟨H0, F, S, q⟩ => ⟨H0, F, S, fun y H1 F1 g1 hy => ⟨H0, F1, S.gr g1, fun v H2 F2 g2 ⟨a, ob, ev, h1, h2⟩ =>
    ⟨a, F2, l, ky, ob, ev, g2.i a _ h1, g2.i, h2, (nkA _).mono g2.f hy, fd, _, rfl, by simpa using q H2 F2 (g1.trans g2)⟩⟩⟩
/-- a dict of one's own: made, written -/
theorem sa_newD (i : Nat) {x : Str} {px p0 : Pos} (hN : X.N.Nodup) (k : Nx (ρ.set i (.ow (ndOb X.w [])))) (hi : X.N[i]? = some x := by rfl) (hx : Loc X.env.scope x := by first | exact .inl rfl | exact .inr rfl) (hs : swapsWith (.Dict [] [] p0) (some (.Name x px)) pos.line X.env = pure false := by rfl)
    (hf : X.fn x = true ∨ X.env.scope.names.lookup x = some .local := by first | exact .inl rfl | exact .inr rfl | assumption) : SA X (.Assign [.Name x px] (.Dict [] [] p0) pos) ρ Nx W :=
  ps_imp (ps_set hN hi hx pe_nnew hs hf) fun D σ H ⟨F0, H0, F, g, S, q, _⟩ p ob hp nd =>
    q _ _ _ F k (g.trans (.newH S.ex hp)) ((S.gr (.newH S.ex hp)).setM (g.h.none hp) (S.ex.none hp) upd_same (.inr ⟨_, rfl, nd F⟩) (S.newAt hp _))
theorem pe_own (i : Nat) {x : Str} {px : Pos} (hN : X.N[i]? = some x := by rfl) (hv : Vis X.env.scope x := by first | exact Or.inl rfl | exact Or.inr (Or.inl rfl) | exact Or.inr (Or.inr rfl)) (hd : (x == ("__debug__" : Str)) = false := by decide) (hcd : (x == ("__classdict__" : Str)) = false := by decide) : PE X (.Name x px) (tVar i) := pe_var hN hv hd hcd
theorem sa_putD (j : Nat) (hr : Room k X.A) (hj : ρ[j]? = some (.ow (ndOb X.w l))) (hv : EA X value ρ A) (ho : PE X o (tVar j)) (hi : EA X i ρ (nkA ky)) (fd : Nk.Fd (l.map (·.1)) ky) (hz : l.length < sizeLine) (kk : Nx (ρ.set j (.ow (ndOb X.w (putN l ky A)))))
    (hs : swapsWith value (some (.Subscript o i pos')) pos.line X.env = pure false := by rfl) : SA X (.Assign [.Subscript o i pos'] value pos) ρ Nx W := by
  refine ps_imp (ps_nput (un9 hr) ho hi hv hs) fun D σ H ⟨F0, H0, F, g, S, q, _⟩ => ⟨H0, F, S, fun v H1 F1 g1 hv1 => ?_⟩
  have S1 := S.gr g1
  obtain ⟨p, ob, h1, h2, h3, h4, h5⟩ := S1.ow j _ hj
  refine ⟨_, h1, H0, F1, S1, fun y H2 F2 g2 hy => ?_⟩
  have S2 := S1.gr g2
  obtain ⟨p', ob', h1', h2', h3', h4', h5'⟩ := S2.ow j _ hj
  obtain rfl : p' = p := by
    rw [h1] at h1'
    simpa using h1'.symm
  refine ⟨p', F2, l, ky, A, ob', rfl, h4', S2.ex, h5', hy, fd, A.mono g2.f hv1, hz, fun o' nd => ?_⟩
  obtain ⟨g3, S3⟩ := sat_wrM ((g.trans g1).trans g2) S2 hj True.intro h1' (.inr ⟨ndOb X.w (putN l ky A), rfl, nd⟩)
  exact q _ σ _ F2 kk g3 S3
/-- .. let go -/
theorem sat_freeW {H0 F0 F H : Hp} {σ : L2.St} {i : Nat} {B : Ob} (hB : ∀ F p o, F p = some o → B.p F p o → A.p F (.ref p)) (g : Gr F0 H0 F H) (S : Sat H0 F σ H ρ) (hi : ρ[i]? = some (En.ow B)) : ∃ F', Gr F0 H0 F' H ∧ Sat H0 F' σ H (ρ.set i (.fr A)) := by
  obtain ⟨p, ob, h1, h2, h3, h4, h5⟩ := S.ow i B hi
  have g' : Gr F0 H0 (upd F p ob) H := g.take h3 h2 h4
  have hi' : i < ρ.length := (List.getElem?_eq_some_iff.mp hi).1
  have at_ : ∀ {j : Nat} {y : En}, (ρ.set i (.fr A))[j]? = some y → y.Mn → i ≠ j ∧ ρ[j]? = some y := fun {j y} e m => by
    by_cases hj : i = j
    · subst hj
      rw [List.getElem?_set_self hi'] at e
      have e : En.fr A = y := by simpa using e
      rw [← e] at m
      exact m.elim
    · rw [List.getElem?_set_ne hj] at e
      exact ⟨hj, e⟩
  refine ⟨upd F p ob, g', ⟨g'.i, fun j C e => ?_, fun j m e => ?_, fun j k y z q e1 e2 m1 m2 q1 q2 => ?_, by rw [List.length_set]; exact S.len, fun j C e => ?_⟩⟩
  · by_cases hj : i = j
    · subst hj
      rw [List.getElem?_set_self hi'] at e
      obtain rfl : A = C := by simpa using e
      exact ⟨_, h1, hB _ p ob upd_same (B.mono (Ex.new h2) h5)⟩
    · rw [List.getElem?_set_ne hj] at e
      obtain ⟨v, e1, e2⟩ := S.fr j C e
      exact ⟨v, e1, C.mono (Ex.new h2) e2⟩
  · obtain ⟨hj, e⟩ := at_ e True.intro
    obtain ⟨q, ys, e1, e2, e3, e4, e5⟩ := S.own j m e
    have nq : q ≠ p := fun z => hj (S.sep i j _ _ p hi e True.intro True.intro h1 (z ▸ e1))
    exact ⟨q, ys, e1, by rw [upd_ne nq]; exact e2, e3, e4, e5.mono (Ex.new h2)⟩
  · obtain ⟨n1, e1⟩ := at_ e1 m1
    obtain ⟨n2, e2⟩ := at_ e2 m2
    exact S.sep j k y z q e1 e2 m1 m2 q1 q2
  · obtain ⟨hj, e⟩ := at_ e True.intro
    obtain ⟨q, ys, e1, e2, e3, e4, e5⟩ := S.ow j C e
    have nq : q ≠ p := fun z => hj (S.sep i j _ _ p hi e True.intro True.intro h1 (z ▸ e1))
    exact ⟨q, ys, e1, by rw [upd_ne nq]; exact e2, e3, e4, C.mono (Ex.new h2) e5⟩
theorem ba_freeD {i : Nat} (hi : ρ[i]? = some (En.ow (ndOb X.w l))) (h : BA X sts (ρ.set i (.fr (ndA X.w l))) Nx W) : BA X sts ρ Nx W := by
  refine ⟨fun pins s σ H D I ⟨F0, H0, F, g, S, q⟩ => ?_⟩
  obtain ⟨F', g', T⟩ := sat_freeW (A := ndA X.w l) (fun F p o e n => ⟨p, o, rfl, e, n⟩) g S hi
  exact h.run pins s σ H D I ⟨F0, H0, F', g', T, q⟩
/-- keys, by what is said of their parts -/
theorem nk_non {F : Hp} {v : V} (h : non.p F v) : (nkA .none).p F v := ⟨h, by decide⟩
theorem nk_int {F : Hp} {i : Int} {v : V} (h : (int i).p F v) : (nkA (.num i)).p F v := ⟨h, Nat.zero_le _⟩
theorem nk_str {F : Hp} {s : Str} {v : V} (h : (str s).p F v) : (nkA (.text s)).p F v := ⟨h, Nat.zero_le _⟩
theorem nk_allV {F : Hp} : ∀ {ks : List NestedKey} {vs : List V}, AllV F vs (ks.map nkA) → NkAll F ks vs
  | [], [], _ => trivial
  | k :: ks, v :: vs, h => ⟨h.1.1, nk_allV h.2⟩
  | [], _ :: _, h => h.elim
  | _ :: _, [], h => h.elim
theorem nk_tup {F : Hp} {ks : List NestedKey} {v : V} (hd : NestedKey.depthAll ks ≤ 7) (h : (tupA (ks.map nkA)).p F v) : (nkA (.tup ks)).p F v := by
  obtain ⟨a, xs, e, h1, h2⟩ := h
  refine ⟨?_, ?_⟩
  · unfold NkA
    exact ⟨a, xs, e, h1, nk_allV h2⟩
  · simp only [NestedKey.depth]
    omega
end
end Lk

set_option Elab.async false
set_option linter.all false
set_option maxRecDepth 100000
set_option maxHeartbeats 4000000
namespace Lk
open PySem PySem.Calls L2 PySem.Spec PyProof.Rows NdefX
section
variable {X : Cx} {e a : Expr} {es : List Expr} {ρ : List En} {pos p1 p2 : Pos} {m : Str} {j k : Nat}
/-! ### f'..{t!r}', t a tuple of texts -/
def tReprT (K : PySem.W.Frag) (te : TE) : TE := fun σ H Q => te σ H fun x H1 => ∃ (b : Addr) (l : List Str), x = .ref b ∧ SqT K H1 b (l.map V.str) ∧ (∀ y ∈ l, ∀ c ∈ y.cps.toList, c < 16 ^ 8) ∧ fmtCost l + 7 ≤ sizeLine ∧ ∀ z : Str, z.length ≤ fmtCost l + 7 → Q (.str z) H1
theorem pe_reprT {te : TE} (hr : Room k X.A) (he : PE X e te) : PE X (.FormattedValue e 114 none pos) (tReprT X.K te) := by
  refine ⟨fun pins s σ H Q I h => ?_⟩
  refine wpAny_FormattedValue_repr (thn (he.run pins s σ H _ I h) fun v s1 ⟨x, H1, I1, r1, b, l, ex, ht, hc, hz, q⟩ => ?_)
  subst ex
  cases r1
  obtain ⟨its, rv, ⟨o, ho, hcl, n, hd⟩, _⟩ := I1.tuple ht
  have z1 := fmt_piled l hc
  have z2 := fmt_text (l.map reprText)
  have hu := hr.units
  refine wpAny_pyReprObj_slot (by omega) ⟨o, ho, hcl⟩ F.slot_tuple_repr (fmt_tuple_repr (ts := l.map reprText) ho hcl hd (repr_all rv fun y hy => ?_) (by omega) fun t u tk ht => ⟨t, u, rfl, ?_⟩)
  · have z3 := StrLaws.reprText_len y (hc y hy)
    have z4 := fmtCost_mem hy
    omega
  · exact wpAny_formatField_str ⟨.str t, H1, I1.tok _, ⟨u, rfl⟩, q t (by omega)⟩ ⟨.str t, H1, (I1.tok _).tok _, ⟨_, rfl⟩, q t (by omega)⟩ (by omega)
theorem ea_fsT {l : List Str} (hr : Room k X.A) (he : EA X e ρ (tupA (l.map str))) (hc : ∀ y ∈ l, ∀ c ∈ y.cps.toList, c < 16 ^ 8) (hl : fmtCost l ≤ 10000000) (hm : m.length ≤ 100000) : EA X (.JoinedStr [.Constant (.str m) j p1, .FormattedValue e 114 none p2] pos) ρ anyS :=
  pe_imp (pe_joined (.cons (ea_str (ρ := ρ) (s := m)) (.cons (pe_reprT hr he) .nil))) fun σ H Q ⟨H0, F, S, q⟩ => ⟨H0, F, S, fun v H1 F1 g1 h1 => by
    have h1 : v = .str m := h1
    subst h1
    refine ⟨m, rfl, ?_, H0, F1, S.gr g1, fun v H2 F2 g2 h2 => ?_⟩
    · show (Str.empty ++ m).length ≤ sizeLine
      rw [app_len, sizeLine_eq]
      have : Str.empty.length = 0 := rfl
      omega
    · obtain ⟨b, rfl, hb⟩ := strs_at h2
      refine ⟨b, l, rfl, SqT.of (g2.i b _ hb), hc, by rw [sizeLine_eq]; omega, fun z hz => ⟨z, rfl, ?_, q _ H2 F2 (g1.trans g2) ⟨_, trivial, rfl⟩⟩⟩
      rw [app_len, app_len, sizeLine_eq]
      have : Str.empty.length = 0 := rfl
      omega⟩
/-! ### xs.count(True) -/
def isT (v : Value) : Bool := match v with
  | .bool b => b
  | _ => false
theorem bls_eq : ∀ {us : List Value} {bs : List Bool}, Vals (bs.map V.bl) us → us = bs.map Value.bool
  | _, [], .nil => rfl
  | _, b :: bs, .cons r t => by
    obtain rfl := r
    rw [bls_eq t]
    rfl
theorem cnt_bls : ∀ bs : List Bool, (bs.map Value.bool).countP isT = bs.count true
  | [] => rfl
  | b :: bs => by
    rw [List.map_cons, List.countP_cons, List.count_cons, cnt_bls bs]
    cases b <;> rfl
def rCntB (K : PySem.W.Frag) : V → List V → Hp → VK → Prop := fun x xs H Q => ∃ (p : Addr) (bs : List Bool), x = .ref p ∧ xs = [.bl true] ∧ SqL K H p (bs.map V.bl) ∧ Q (.int (bs.count true : Nat)) H
theorem mt_cntB : MtR X "list.count" (rCntB X.K) := by
  intro pins s σ H x xs v us Q I rx rxs h
  obtain ⟨p, bs, rfl, rfl, hs, q⟩ := h
  cases rx
  obtain ⟨u, rfl, ru⟩ := rxs.one
  obtain rfl : u = .bool true := ru
  obtain ⟨its, rv, ⟨⟨cls, dd, data, sl⟩, n, ho, hc, hdn, hd⟩, hlen⟩ := I.list hs
  simp only at hc hd
  subst hc hd
  obtain rfl := bls_eq rv
  refine call_meets PySem.F.slot_list_count ⟨_, ho, rfl⟩ PySem.F.entry_list_count (PySem.F.args_list_count_2 _ _)
    (SeqAt.list_countAt p (bs.map Value.bool).toArray n dd sl (.bool true) isT) ⟨ho, fun y hy => ?_, ?_⟩
  · obtain ⟨b, _, rfl⟩ := List.mem_map.mp (by simpa using hy : y ∈ bs.map Value.bool)
    refine SeqAt.EqAt.cast (b := b == true) ?_ (by cases b <;> rfl)
    exact SeqAt.EqAt.bool_bool b true
  · refine ⟨.int (bs.count true : Nat), H, I.tok _, ⟨s.toks, ?_⟩, q⟩
    show Value.int ((((bs.map Value.bool).toArray.toList.countP isT : Nat)) : Int) s.toks = Value.int ((bs.count true : Nat) : Int) s.toks
    rw [List.toList_toArray, cnt_bls]
theorem ea_cntB {bs : List Bool} {apos cpos : Pos} {jj} (ho : EL X a ρ (bs.map bl)) (hbase : attributeBase a "count" X.env (eval a X.env) = eval a X.env := by rfl)
    (hfew : ((backTo cpos (starEach [Expr.Constant (.bool true) jj p1] X.env)).all (fun x => !x.1) && (backToKw cpos (keywordEach [] X.env)).all (fun x => x.1.isSome) && decide ([Expr.Constant (.bool true) jj p1].length + ([] : List Keyword).length + (if ([] : List Keyword).isEmpty then 0 else 1) < 30)) = true := by rfl)
    (hline : (apos.endLine == cpos.line) = true := by rfl) (hs : starEach [Expr.Constant (.bool true) jj p1] X.env = (false, eval (.Constant (.bool true) jj p1) X.env) :: starEach [] X.env := by rfl) (hplain : (backTo cpos (starEach [] X.env)).any (·.1) = false := by rfl) :
    EA X (.Call (.Attribute a "count" apos) [.Constant (.bool true) jj p1] [] cpos) ρ (nat (bs.count true)) :=
  pe_imp (pe_bm PySem.F.plainAttrs_list PySem.F.slot_list_count PySem.F.type_list_count mt_cntB ho (pa_cons (ea_bl (ρ := ρ)) pa_nil hs) hbase hfew hline hs hplain) fun σ H Q ⟨H0, F, S, q⟩ => ⟨H0, F, S, fun p xs H1 F1 g1 h1 h2 => ⟨.inl ⟨rfl, _, SqL.of h1⟩, H0, F1, S.gr g1, fun v H2 F2 g2 hv => by
    have hv : v = .bl true := hv
    subst hv
    have e : xs = bs.map V.bl := AllV.scs (F := F1) (by rw [List.map_map]; exact h2)
    subst e
    exact ⟨p, bs, rfl, rfl, SqL.of (g2.h p _ h1), q _ H2 F2 (g1.trans g2) rfl⟩⟩⟩
/-! ### two side by side, for == -/
theorem dpPair {K : PySem.W.Frag} {A B : As} {d e : PyData} (h1 : Dat K A d) (h2 : Dat K B e) : Dat K (tupA [A, B]) (.tuple [d, e]) := fun H v ⟨a, xs, ev, z1, z2⟩ => by
  subst ev
  match xs, z2 with
  | [x, y], ⟨k1, k2, _⟩ => exact .tup (SqT.of z1) (.cons (h1 _ _ k1) (.cons (h2 _ _ k2) .nil))
theorem enc_two {K : PySem.W.Frag} {α β : Type} [DecidableEq α] [DecidableEq β] {n : Nat} {f : α → As} {g : β → As} {ok1 : α → Prop} {ok2 : β → Prop} (h1 : Enc K n f ok1) (h2 : Enc K n g ok2) : Enc K (n + 1) (fun x : α × β => tupA [f x.1, g x.2]) (fun x => ok1 x.1 ∧ ok2 x.2) := by
  obtain ⟨d, a1, a2, a3, a4⟩ := h1.ex
  obtain ⟨e, b1, b2, b3, b4⟩ := h2.ex
  refine ⟨fun x => .tuple [d x.1, e x.2], fun x => dpPair (a1 x.1) (b1 x.2), fun x y => ?_, fun x => ?_, fun x hx => ?_⟩
  · rw [PyData.eqv, PyData.eqvAll, PyData.eqvAll, PyData.eqvAll, a2, b2, Bool.and_true, Bool.eq_iff_iff]
    simp [Prod.ext_iff]
  · have z1 := a3 x.1
    have z2 := b3 x.2
    simp only [PyData.depth, PyData.depthAll]
    omega
  · have z1 := a4 x.1 hx.1
    have z2 := b4 x.2 hx.2
    simp only [PyData.canLay0, PyData.canLayAll0]
    rw [z1, z2]
    rfl
theorem enc_up {K : PySem.W.Frag} {α : Type} [DecidableEq α] {n m : Nat} {f : α → As} {ok : α → Prop} (h : Enc K n f ok) (le : n ≤ m) : Enc K m f ok := let ⟨d, a1, a2, a3, a4⟩ := h.ex; ⟨d, a1, a2, fun a => Nat.le_trans (a3 a) le, a4⟩
end
end Lk

set_option Elab.async false
set_option linter.all false
set_option maxRecDepth 100000
set_option maxHeartbeats 4000000
namespace Lk
open PySem PySem.Calls L2 NdefX
/-! ### what a law's top has written -/
section
variable {P : Program} {w : World} {K : PySem.W.Frag} {mg : Str → Option Value} {base h : Heap} {C : Addr}
/-- a def of the module -/
structure FnAt (K : PySem.W.Frag) (x : Str) (st : Stmt) : Prop where
  ex : ∃ f fd, PySem.W.nsIn K mainGlobals x = some (some (.ref f)) ∧ Fun K x x st f fd
theorem fn_at {x : Str} {st : Stmt} {f : Addr} {oc : Value} {od an : Option Addr} {osl : Array (Option Value)} {kV doc pm cdv ct : Value} (a : PySem.W.nsIn K mainGlobals x = some (some (.ref f))) (l : K.lookup f = some ⟨oc, od, .func (PySem.W.fnOf x x (defArgs st) (defBody st) (defScope st) .none kV doc pm an cdv ct), osl⟩)
    (c : PySem.W.codeIn K cdv x = true) (k : PySem.W.keepIn K (.ref f) = true) : FnAt K x st := ⟨f, _, a, fun_mk l c k⟩
/-- a method -/
structure MtAt (K : PySem.W.Frag) (C : Addr) (m qual : Str) (st : Stmt) : Prop where
  ex : ∃ f fd, Meth K C m f ∧ Fun K m qual st f fd
theorem mt_at {m qual : Str} {st : Stmt} {f : Addr} {oc : Value} {od an : Option Addr} {osl : Array (Option Value)} {kV doc pm cdv ct : Value} (a : PySem.W.findIn K (.ref C) m = some (some (.ref f))) (i : PySem.W.isFn K (.ref f) = true) (l : K.lookup f = some ⟨oc, od, .func (PySem.W.fnOf m qual (defArgs st) (defBody st) (defScope st) .none kV doc pm an cdv ct), osl⟩)
    (c : PySem.W.codeIn K cdv qual = true) (k : PySem.W.keepIn K (.ref f) = true) : MtAt K C m qual st := ⟨f, _, ⟨a, i, k⟩, fun_mk l c k⟩
/-- a property -/
structure PrAt (K : PySem.W.Frag) (C : Addr) (m qual : Str) (st : Stmt) : Prop where
  ex : ∃ p g fd, PropOf K C m p g ∧ Fun K m qual st g fd
theorem pr_at {m qual : Str} {st : Stmt} {p g : Addr} {rest : List Value} {oc : Value} {od an : Option Addr} {osl : Array (Option Value)} {kV doc pm cdv ct : Value} (a : PySem.W.findIn K (.ref C) m = some (some (.ref p))) (gt : PySem.W.specialIn K (.ref p) "__get__" = some (some (.builtin "property.__get__"))) (tk : PySem.W.takesIn K (.ref p) = some true) (rc : PySem.W.recIn K p "property" = some (.ref g :: rest))
    (l : K.lookup g = some ⟨oc, od, .func (PySem.W.fnOf m qual (defArgs st) (defBody st) (defScope st) .none kV doc pm an cdv ct), osl⟩) (c : PySem.W.codeIn K cdv qual = true) (k : PySem.W.keepIn K (.ref g) = true) : PrAt K C m qual st := ⟨p, g, _, ⟨a, gt, tk, ⟨rest, rc⟩⟩, fun_mk l c k⟩
/-- the constructor of a class -/
structure MkAt (K : PySem.W.Frag) (C : Addr) (x qual : Str) (st : Stmt) (dvs : List V) : Prop where
  nm : PySem.W.nsIn K mainGlobals x = some (some (.ref C))
  ex : ∃ f fd, Mk K C f ∧ FunD K "__init__" qual (defArgs st) (defBody st) (defScope st) dvs [] f fd
theorem mk_at0 {x qual : Str} {st : Stmt} {f : Addr} {oc : Value} {od an : Option Addr} {osl : Array (Option Value)} {kV doc pm cdv ct : Value} (n : PySem.W.nsIn K mainGlobals x = some (some (.ref C))) (m : PySem.W.makesIn K C = true) (kc : PySem.W.keepIn K (.ref C) = true) (a : PySem.W.findIn K (.ref C) "__init__" = some (some (.ref f))) (i : PySem.W.isFn K (.ref f) = true)
    (l : K.lookup f = some ⟨oc, od, .func (PySem.W.fnOf "__init__" qual (defArgs st) (defBody st) (defScope st) .none kV doc pm an cdv ct), osl⟩) (c : PySem.W.codeIn K cdv qual = true) (k : PySem.W.keepIn K (.ref f) = true) : MkAt K C x qual st [] := ⟨n, f, _, ⟨m, a, i, kc⟩, ⟨⟨oc, od, .none, kV, doc, pm, an, cdv, ct, osl, rfl, l, c, .inl ⟨rfl, rfl⟩, .inl rfl⟩, k⟩⟩
theorem mk_at1 {x qual : Str} {st : Stmt} {f tt ea : Addr} {oc tc : Value} {od an td : Option Addr} {osl tsl : Array (Option Value)} {kV doc pm cdv ct : Value} {tn : Nat} (n : PySem.W.nsIn K mainGlobals x = some (some (.ref C))) (m : PySem.W.makesIn K C = true) (kc : PySem.W.keepIn K (.ref C) = true) (a : PySem.W.findIn K (.ref C) "__init__" = some (some (.ref f))) (i : PySem.W.isFn K (.ref f) = true)
    (l : K.lookup f = some ⟨oc, od, .func (PySem.W.fnOf "__init__" qual (defArgs st) (defBody st) (defScope st) (.ref tt) kV doc pm an cdv ct), osl⟩) (lt : K.lookup tt = some ⟨tc, td, .seq #[.ref ea] tn, tsl⟩) (c : PySem.W.codeIn K cdv qual = true) (k : PySem.W.keepIn K (.ref f) = true) : MkAt K C x qual st [.ref ea] :=
  ⟨n, f, _, ⟨m, a, i, kc⟩, ⟨⟨oc, od, .ref tt, kV, doc, pm, an, cdv, ct, osl, rfl, l, c, .inr ⟨by simp, tt, _, [.ref ea], tn, rfl, lt, rfl, .cons rfl .nil⟩, .inl rfl⟩, k⟩⟩
/-- the def of a constructor without defaults -/
theorem MkAt.plain {x qual : Str} {st : Stmt} (M : MkAt K C x qual st []) : ∃ f fd, Mk K C f ∧ Fun K "__init__" qual st f fd := by
  obtain ⟨f, fd, h, FM⟩ := M.ex
  refine ⟨f, fd, h, ?_⟩
  obtain ⟨oc, od, dV, kV, doc, pm, an, cdv, ct, osl, rfl, lk, hcd, hD, _⟩ := FM.ex
  rcases hD with ⟨_, rfl⟩ | ⟨e, _⟩
  · exact ⟨⟨oc, od, kV, doc, pm, an, cdv, ct, osl, rfl, lk, hcd⟩, FM.kp⟩
  · exact absurd rfl e
/-- an error class caught by one above it -/
theorem exm_sub {S D : Addr} (h1 : PySem.W.subIn K (.ref D) (.type "BaseException") = some true) (h2 : PySem.W.isClsIn K D = true) (h3 : PySem.W.typeIn K (.ref D) = some (.type "type")) (h4 : PySem.W.subIn K (.ref S) (.ref D) = some true) : PySem.W.exmOne K (.ref S) (.ref D) = some true := by
  have e1 : (PySem.W.subIn K (.ref D) (.type "BaseException") == some true) = true := by rw [h1] <;> rfl
  have e2 : ((PySem.W.clsIn K D).isSome && PySem.W.typeIn K (.ref D) == some (.type "type")) = true := by
    have h2' : (PySem.W.clsIn K D).isSome = true := h2
    rw [h2', h3] <;> rfl
  show (if (PySem.W.subIn K (.ref D) (.type "BaseException") == some true) = true then (if ((PySem.W.clsIn K D).isSome && PySem.W.typeIn K (.ref D) == some (.type "type")) = true then PySem.W.subIn K (.ref S) (.ref D) else none) else none) = some true
  rw [if_pos e1, if_pos e2]
  exact h4
end
end Lk

set_option Elab.async false
set_option linter.all false
set_option maxRecDepth 100000
set_option maxHeartbeats 4000000
namespace Lk
open PySem PySem.Calls L2 PySem.Spec PyProof.Rows
/-! ### an instance of one's own, being made -/
def insOb (C p : Addr) (fs : List (Str × As)) : Ob := ⟨fun F a o => a = p ∧ ∃ dx vs, o = .ins C dx ((fs.map Prod.fst).zip vs) ∧ AllV F vs (fs.map Prod.snd), fun e ⟨h, dx, vs, h1, h2⟩ => ⟨h, dx, vs, h1, h2.mono e⟩⟩
theorem ins_free {C p : Addr} {fs : List (Str × As)} : ∀ F a o, F a = some o → (insOb C p fs).p F a o → (insA C fs).p F (.ref a) := fun F a o e ⟨_, dx, vs, h1, h2⟩ => ⟨a, dx, vs, rfl, by rw [e, h1], h2⟩
theorem putF_new {f : Str} {v : V} : ∀ {fs : List (Str × V)}, fs.lookup f = none → putF f v fs = fs ++ [(f, v)]
  | [], _ => rfl
  | (g, u) :: fs, h => by
    rw [List.lookup] at h
    cases c : f == g with
    | true => rw [c] at h; cases h
    | false =>
      rw [c] at h
      have ih := putF_new (v := v) h
      have ne : ¬ g = f := fun z => by rw [z] at c; simp at c
      simp only [putF]
      first
      | rw [if_neg ne, ih]; rfl
      | simp [ne, ih]
theorem zip_snoc {α β : Type} {a : α} {b : β} : ∀ {l : List α} {m : List β}, l.length = m.length → (l ++ [a]).zip (m ++ [b]) = l.zip m ++ [(a, b)]
  | [], [], _ => rfl
  | x :: l, y :: m, h => by
    rw [List.cons_append, List.cons_append, List.zip_cons_cons, List.zip_cons_cons, zip_snoc (by simpa using h)]
    rfl
  | [], _ :: _, h => by simp at h
  | _ :: _, [], h => by simp at h
def entryI (C p : Addr) (N : List Str) (l : List As) : List En := .ow (insOb C p []) :: (l.map En.fr ++ List.replicate (N.length - 1 - l.length) En.no)
section
variable {X : Cx} {o value : Expr} {ρ : List En} {A : As} {fs : List (Str × As)} {f : Str} {C p : Addr} {pos pos' : Pos} {Nx : List En → Prop} {W : Wn}
/-- self.f = e, a new field -/
theorem sa_fldI (i : Nat) (hi : ρ[i]? = some (.ow (insOb C p fs))) (hv : EA X value ρ A) (ho : PE X o (tVar i)) (hC : Cls X.K C) (hn : NoAttr X.K C f) (hf : fs.lookup f = none) (hz : fs.length < 1000) (k : Nx (ρ.set i (.ow (insOb C p (fs ++ [(f, A)])))))
    (hs : swapsWith value (some (.Attribute o f pos')) pos.line X.env = pure false := by rfl) : SA X (.Assign [.Attribute o f pos'] value pos) ρ Nx W := by
  refine ps_imp (ps_fld ho hv hs) fun D σ H ⟨F0, H0, F, g, S, q, _⟩ => ⟨H0, F, S, fun v H1 F1 g1 hv1 => ?_⟩
  have S1 := S.gr g1
  obtain ⟨a, ob, h1, h2, h3, h4, rfl, dx, vs, rfl, h5⟩ := S1.ow i _ hi
  have hl : (fs.map Prod.fst).length = vs.length := by rw [h5.length, List.length_map, List.length_map]
  have hno := zip_nolook (f := f) h5 hf
  refine ⟨_, h1, a, C, dx, _, rfl, h4, hC, hn, by rw [List.length_zip, List.length_map]; omega, ?_⟩
  rw [putF_new hno, ← zip_snoc hl]
  obtain ⟨g3, S3⟩ := sat_wrM (o' := .ins C dx ((fs.map Prod.fst ++ [f]).zip (vs ++ [v]))) (x' := .ow (insOb C a (fs ++ [(f, A)]))) (g.trans g1) S1 hi True.intro h1 (.inr ⟨_, rfl, rfl, dx, vs ++ [v], by rw [List.map_append]; rfl, by rw [List.map_append]; exact h5.snoc hv1⟩)
  exact q _ σ _ F1 k g3 S3
/-- self.f -/
theorem ea_fldI (i : Nat) (hi : ρ[i]? = some (.ow (insOb C p fs))) (ho : PE X o (tVar i)) (hC : Cls X.K C) (hn : NoAttr X.K C f) (hf : fs.lookup f = some A) (hb : attributeBase o f X.env (eval o X.env) = eval o X.env := by rfl) : EA X (.Attribute o f pos) ρ A :=
  pe_imp (pe_fld ho hb) fun σ H Q ⟨H0, F, S, q⟩ => by
    obtain ⟨a, ob, h1, h2, h3, h4, rfl, dx, vs, rfl, h5⟩ := S.ow i _ hi
    obtain ⟨u, hu, hA⟩ := zip_lookup h5 hf
    exact ⟨_, h1, a, C, dx, _, u, rfl, h4, hC, hn, hu, q u H F (.refl S.ex) hA⟩
end
theorem fn_okMk {P : Program} {w : World} {K : PySem.W.Frag} {mg : Str → Option Value} {base : Heap} {qual : Str} {st : Stmt} {f C : Addr} {fd : FuncData} {N ps : List Str} {k : Nat} {ι : Type} {pre : ι → Prop} {l : ι → List As} {A : ι → As} (F : Fun K "__init__" qual st f fd) (S : FnScope N ps (defScope st)) (hl : ∀ i, pre i → (l i).length + 1 = ps.length)
    (hb : ∀ (i : ι) (p : Addr) (cdv : Value) (B : Around) (outer : List Env) (s : Shared) (H : Hp) (E : XK), pre i → Room k (B.deeper (PyProof.Rows.envOfC qual (defScope st) s.heap.objs.size f cdv)) →
      BA (cxOf CX0 P w K mg base N qual (defScope st) f cdv B outer s H E).nox (defBody st) (entryI C p N (l i)) (fun ρ' => ∃ fs, ρ'[0]? = some (.ow (insOb C p fs)) ∧ ∀ F v, (insA C fs).p F v → (A i).p F v) { R := ⟨fun _ _ => False, fun _ h => h⟩ }) : FnOk P w K mg base CX0 (k + 1) f fd ps (spMk C pre l A) := by
  refine F.ok S (fun vs H Q E h => ?_) (fun cdv B outer s H vs Q E hr h => ?_)
  · obtain ⟨i, hp, H1, F1, p, dx, as, rfl, _, _, _, _, _, hv, _⟩ := h
    rw [List.length_cons, hv.length, hl i hp]
  · obtain ⟨i, hp, H1, F1, p, dx, as, rfl, rfl, hn, hdx, hne, ex, hall, q⟩ := h
    have x0 : Ex H1 (upd (upd H1 dx (.own p)) p (.ins C dx [])) := fun a o z => by
      rw [upd_ne (ne_of_none z hn), upd_ne (ne_of_none z hdx)]
      exact z
    have f1p : F1 p = none := ex.none hn
    have hlen := hall.length
    have la : (l i).length + 1 = ps.length := hl i hp
    have nm : ∀ {j : Nat} {y : En}, (entryI C p N (l i))[j]? = some y → y.Mn → j = 0 ∧ y = .ow (insOb C p []) := fun {j y} e m => by
      cases j with
      | zero => exact ⟨rfl, by simpa [entryI] using e.symm⟩
      | succ j =>
        exfalso
        have e : ((l i).map En.fr ++ List.replicate (N.length - 1 - (l i).length) En.no)[j]? = some y := by simpa [entryI] using e
        rcases List.mem_append.mp (List.mem_of_getElem? e) with z | z
        · obtain ⟨B, _, rfl⟩ := List.mem_map.mp z
          exact m
        · rw [(List.mem_replicate.mp z).2] at m
          exact m
    have hps : ps.length ≤ N.length := by
      have z := congrArg List.length S.pre
      rw [List.length_take] at z
      omega
    have S0 : Sat H1 F1 (L2.start N (.ref p :: as)) (upd (upd H1 dx (.own p)) p (.ins C dx [])) (entryI C p N (l i)) := by
      refine ⟨ex.trans x0, fun j B e => ?_, fun j m e => ?_, fun j j' y y' a e1 e2 m1 m2 _ _ => ?_, ?_, fun j B e => ?_⟩
      · cases j with
        | zero => simp [entryI] at e
        | succ j =>
          have e : ((l i).map En.fr ++ List.replicate (N.length - 1 - (l i).length) En.no)[j]? = some (.fr B) := by simpa [entryI] using e
          by_cases hj : j < (l i).length
          · rw [List.getElem?_append_left (by simpa using hj), List.getElem?_map] at e
            cases z : (l i)[j]? with
            | none => rw [z] at e; cases e
            | some B' =>
              rw [z] at e
              obtain rfl : B' = B := by simpa using e
              obtain ⟨v, h1, h2⟩ := hall.get z
              refine ⟨v, ?_, h2⟩
              unfold L2.start
              rw [List.map_cons, List.cons_append, List.getElem?_cons_succ, List.getElem?_append_left (by simpa [hlen] using hj), List.getElem?_map, h1]
              rfl
          · rw [List.getElem?_append_right (by simpa using Nat.le_of_not_lt hj)] at e
            cases (List.mem_replicate.mp (List.mem_of_getElem? e)).2
      · cases (nm e True.intro).2
      · rw [(nm e1 m1).1, (nm e2 m2).1]
      · unfold entryI L2.start
        simp only [List.length_cons, List.length_append, List.length_map, List.length_replicate]
        omega
      · obtain ⟨rfl, z⟩ := nm e True.intro
        obtain rfl : B = insOb C p [] := by simpa using z
        exact ⟨p, _, rfl, f1p, hn, upd_same, rfl, dx, [], rfl, trivial⟩
    refine ⟨_, hb i p cdv B outer s _ E hp hr, F1, H1, F1, ⟨Ex.refl F1, x0, ex.trans x0, fun _ _ _ h => h⟩, S0, fun ρ' σ' H' F' ⟨fs, h0, hA⟩ g S' => ?_, fun v H' F' g z => z.elim, fun _ _ _ _ z => z.elim, fun _ _ _ _ z => z.elim, fun _ _ _ _ _ _ z => z.elim⟩
    obtain ⟨a, o, h1, h2, h3, h4, h5⟩ := S'.ow 0 _ h0
    obtain rfl : a = p := h5.1
    exact q H' (upd F' a o) (g.take h3 h2 h4) (hA _ _ (ins_free _ a o upd_same ((insOb C a fs).mono (Ex.new h2) h5)))
end Lk

set_option Elab.async false
set_option linter.all false
set_option maxRecDepth 100000
set_option maxHeartbeats 4000000
namespace Lk
open PySem PySem.Calls L2 PySem.Spec PyProof.Rows
/-! ### the keys and the values of such a dict, walked -/
def ItR (d : Addr) (o : HO) (ys : List V) : It := ⟨fun i H => H d = some o ∧ i < ys.length, fun i H x H' => H' = H ∧ ys[i]? = some x, fun i H => H d = some o ∧ ys.length ≤ i⟩
theorem srcR {d : Addr} {o : HO} {ys : List V} : Src (ItR d o ys) ys (fun H => H d = some o) := fun i H q => ⟨fun x hx => ⟨q, (List.getElem?_eq_some_iff.mp hx).1⟩, fun _ x H' y => y, fun z => ⟨q, z⟩⟩
theorem raw_of {P : Program} {w : World} {H : Hp} {h : Heap} (ok : HOk P w H h) {d : Addr} {es : Array DictEntry} {ep : Nat} (e : H d = some (ndO d es ep)) : h.DictRaw d es ep := (show ObjOk P w H h d (ndO d es ep) from ok d _ e).1
section
variable {P : Program} {w : World} {K : PySem.W.Frag} {tg : Expr} {d it : Addr} {es : Array DictEntry} {ep : Nat} {ys : List V}
theorem turn_rawK (hy : Vals ys (es.toList.map (·.key))) : Turn P w K tg (ItR d (ndO d es ep) ys) [it] it (fun i h => h.IsKeyIter it d i es.size ep) where
  mem := List.mem_singleton.mpr rfl
  obj := fun i h st b hb => by
    obtain rfl : b = it := List.mem_singleton.mp hb
    obtain ⟨ob, e1, e2, e3⟩ := st
    exact ⟨ob, e1, fun v z => by rw [e3] at z; cases z⟩
  keep := fun i h h' st k => st.at fun ob e => k it (List.mem_singleton.mpr rfl) ob e
  item := by
    intro X hP hw hK hc i pins s σ H E I hf st ⟨hd, hi⟩
    subst hP hw hK
    obtain ⟨f0, f1, f2, f3, f4, f5⟩ := hf it (List.mem_singleton.mpr rfl)
    have hl : ys.length = es.size := by
      have z := hy.length
      simpa using z
    have hlt : i < es.size := by omega
    obtain ⟨u, h1, h2⟩ := hy.get (List.getElem?_eq_getElem hi)
    have eu : u = es[i].key := by
      rw [List.getElem?_map, Array.getElem?_toList, Array.getElem?_eq_getElem hlt] at h1
      simpa using h1.symm
    refine wpAny_pyNext_keys_item_raw st (raw_of I.hok hd) hlt fun h' st' sb => ?_
    have I1 : Inv X pins σ H { s with heap := h' } := I.turned (t' := s.toks) (fun b ob hb e => (sb.2 b hb).trans e) f0 f1 f3 f4 f5
    obtain ⟨ob, e1, e2, e3⟩ := id st'
    exact ⟨_, rfl, go_of (s := { s with heap := h' }) e1 e2 e3 (by decide) ⟨ys[i], H, I1, eu ▸ h2, ⟨rfl, List.getElem?_eq_getElem hi⟩, st', fun b hb => (hf b hb).1⟩⟩
  done := by
    intro X hP hw hK hc i pins s σ H E I hf st ⟨hd, hi⟩
    subst hP hw hK
    obtain ⟨f0, f1, f2, f3, f4, f5⟩ := hf it (List.mem_singleton.mpr rfl)
    have hl : ys.length = es.size := by
      have z := hy.length
      simpa using z
    exact wpAny_pyNext_keys_end_raw (I.ok.hd hc) st (raw_of I.hok hd) (by omega) fun h' eb => ⟨rfl, I.turned (t' := s.toks) (fun b ob hb e => eb b ob hb e) f0 f1 f3 f4 f5⟩
  self := fun A i s Q E st h => wpAny_pyIter_keyiter st h
theorem turn_rawV (hy : Vals ys (es.toList.map (·.val))) : Turn P w K tg (ItR d (ndO d es ep) ys) [it] it (fun i h => h.IsValIter it d i es.size ep) where
  mem := List.mem_singleton.mpr rfl
  obj := fun i h st b hb => by
    obtain rfl : b = it := List.mem_singleton.mp hb
    obtain ⟨ob, e1, e2, e3⟩ := st
    exact ⟨ob, e1, fun v z => by rw [e3] at z; cases z⟩
  keep := fun i h h' st k => let ⟨ob, e1, e2⟩ := st; ⟨ob, k it (List.mem_singleton.mpr rfl) ob e1, e2⟩
  item := by
    intro X hP hw hK hc i pins s σ H E I hf st ⟨hd, hi⟩
    subst hP hw hK
    obtain ⟨f0, f1, f2, f3, f4, f5⟩ := hf it (List.mem_singleton.mpr rfl)
    have hl : ys.length = es.size := by
      have z := hy.length
      simpa using z
    have hlt : i < es.size := by omega
    obtain ⟨u, h1, h2⟩ := hy.get (List.getElem?_eq_getElem hi)
    have eu : u = es[i].val := by
      rw [List.getElem?_map, Array.getElem?_toList, Array.getElem?_eq_getElem hlt] at h1
      simpa using h1.symm
    refine wpAny_pyNext_values_item_raw st (raw_of I.hok hd) hlt fun h' st' sb => ?_
    have I1 : Inv X pins σ H { s with heap := h' } := I.turned (t' := s.toks) (fun b ob hb e => (sb.2 b hb).trans e) f0 f1 f3 f4 f5
    obtain ⟨ob, e1, e2, e3⟩ := id st'
    exact ⟨_, rfl, go_of (s := { s with heap := h' }) e1 e2 e3 (by decide) ⟨ys[i], H, I1, eu ▸ h2, ⟨rfl, List.getElem?_eq_getElem hi⟩, st', fun b hb => (hf b hb).1⟩⟩
  done := by
    intro X hP hw hK hc i pins s σ H E I hf st ⟨hd, hi⟩
    subst hP hw hK
    obtain ⟨f0, f1, f2, f3, f4, f5⟩ := hf it (List.mem_singleton.mpr rfl)
    have hl : ys.length = es.size := by
      have z := hy.length
      simpa using z
    exact wpAny_pyNext_values_end_raw (I.ok.hd hc) st (raw_of I.hok hd) (by omega) fun h' eb => ⟨rfl, I.turned (t' := s.toks) (fun b ob hb e => eb b ob hb e) f0 f1 f3 f4 f5⟩
  self := fun A i s Q E st h => wpAny_pyIter_valiter st h
/-- the keys, the values, as the walk gives them -/
theorem rows_keysV {F : Hp} : ∀ {l : List (NestedKey × As)} {rs : List Nk.Row}, RowsA F l rs → ∃ ys, Vals ys (rs.map (·.2.1)) ∧ AllV F ys (l.map fun x => nkA x.1)
  | [], [], _ => ⟨[], .nil, trivial⟩
  | x :: l, r :: rs, h => by
    obtain ⟨ys, h1, h2⟩ := rows_keysV h.2
    obtain ⟨_, y, z, r1, r2, k1, k2⟩ := h.1
    exact ⟨y :: ys, .cons r1 h1, k1, h2⟩
  | [], _ :: _, h => h.elim
  | _ :: _, [], h => h.elim
theorem rows_valsV {F : Hp} : ∀ {l : List (NestedKey × As)} {rs : List Nk.Row}, RowsA F l rs → ∃ ys, Vals ys (rs.map (·.2.2)) ∧ AllV F ys (l.map Prod.snd)
  | [], [], _ => ⟨[], .nil, trivial⟩
  | x :: l, r :: rs, h => by
    obtain ⟨ys, h1, h2⟩ := rows_valsV h.2
    obtain ⟨_, y, z, r1, r2, k1, k2⟩ := h.1
    exact ⟨z :: ys, .cons r2 h1, k2, h2⟩
  | [], _ :: _, h => h.elim
  | _ :: _, [], h => h.elim
end
section
variable {X : Cx} {tg e : Expr} {ρ : List En} {l : List (NestedKey × As)} {apos cpos : Pos}
def iRaw (w : World) (td : TE) (sel : NestedKey × As → As) : TI := fun σ H R => td σ H fun x H1 => ∃ d o F l, x = .ref d ∧ H1 d = some o ∧ Ex F H1 ∧ NdP w l F d o ∧ ∀ ys, AllV F ys (l.map sel) → R (ItR d o ys) H1
theorem pi_rawK {td : TE} (he : PE X e td) : PI X tg e (iRaw X.w td fun x => nkA x.1) := by
  refine ⟨fun pins s σ H R I h => ?_⟩
  refine thn (he.run pins s σ H _ I h) fun u s1 ⟨x, H1, I1, rx, d, o, F, l, ex, hd, xF, nd, q⟩ => ?_
  subst ex
  obtain rfl : u = Value.ref d := rx
  obtain ⟨es, ep, rs, rfl, is, rows⟩ := nd_is I1.hok xF hd nd
  obtain ⟨ys, h1, h2⟩ := rows_keysV rows
  have hk : es.toList.map (·.key) = rs.map (·.2.1) := by rw [is.es, List.map_map]; rfl
  rw [← hk] at h1
  exact wpAny_pyIter_dict_raw nd.sys (raw_of I1.hok hd) (pi_one (tk := s1.toks) I1 _ (turn_rawK h1) ⟨_, Heap.get?_push_size _ rfl, rfl, rfl⟩ (q ys h2))
theorem es_keysN (h : EA X e ρ (ndA X.w l)) : ES X tg e ρ (l.map fun x => nkA x.1) := pi_imp (pi_rawK h) fun σ H R ⟨H0, F, S, k⟩ => ⟨H0, F, S, fun v H1 F1 g1 ⟨a, o, ev, h1, h2⟩ => ⟨a, o, F1, l, ev, g1.i a _ h1, g1.i, h2, fun ys hy =>
  k _ _ ys H1 F1 g1 hy srcR fun H' e => e a _ h1⟩⟩
theorem pi_rawV {td : TE} (he : PE X e td) (hbase : attributeBase e "values" X.env (eval e X.env) = eval e X.env := by rfl) (hline : (apos.endLine == cpos.line) = true := by rfl) : PI X tg (.Call (.Attribute e "values" apos) [] [] cpos) (iRaw X.w td Prod.snd) := by
  refine ⟨fun pins s σ H R I h => ?_⟩
  refine wpAny_Call_method (T := "dict") (id := "dict.values") hbase rfl hline PySem.F.plainAttrs_dict PySem.F.slot_dict_values PySem.F.type_dict_values (thn (he.run pins s σ H _ I h) fun u s1 ⟨x, H1, I1, rx, d, o, F, l, ex, hd, xF, nd, q⟩ => ?_)
  subst ex
  obtain rfl : u = Value.ref d := rx
  obtain ⟨es, ep, rs, rfl, is, rows⟩ := nd_is I1.hok xF hd nd
  obtain ⟨ys, h1, h2⟩ := rows_valsV rows
  have hk : es.toList.map (·.val) = rs.map (·.2.2) := by rw [is.es, List.map_map]; rfl
  rw [← hk] at h1
  have raw := raw_of I1.hok hd
  refine ⟨raw.typeIs, fun b q => by
    cases q
    obtain ⟨ob, e1, e2, _⟩ := raw
    exact ⟨ob, e1, e2.2.1⟩, ?_⟩
  have I2 : Inv X pins σ H1 { s1 with heap := s1.heap.push { cls := .type "dict_values", data := .fields #[.ref d] } } := I1.kept (t' := s1.toks) fun b ob q => Heap.get?_push_of_some _ q
  have fin : wpAny (model X.prog X.w) X.A (pyIter (.ref s1.heap.objs.size)) (PIE X pins σ tg R) X.xe { s1 with heap := s1.heap.push { cls := .type "dict_values", data := .fields #[.ref d] } } :=
    wpAny_pyIter_values_raw ⟨_, Heap.get?_push_size _ rfl, rfl, rfl⟩ (raw_of I2.hok hd) (pi_one (tk := s1.toks) I2 _ (turn_rawV h1) ⟨_, Heap.get?_push_size _ rfl, rfl, rfl⟩ (q ys h2))
  show wpAny _ _ (callWith cpos (.builtin "dict.values") [.ref d] [] []) _ X.xe s1
  exact method_meetsIn PySem.F.slot_dict_values PySem.F.entry_dict_values rfl (PySem.evalArgs_none ⟨rfl, raw.typeIs, PySem.F.args_dict_values_1 _, _, meets_dict_values_raw d nd.sys, ⟨⟨es, ep, raw⟩, fin⟩⟩)
theorem es_valsN (h : EA X e ρ (ndA X.w l)) (hbase : attributeBase e "values" X.env (eval e X.env) = eval e X.env := by rfl) (hline : (apos.endLine == cpos.line) = true := by rfl) : ES X tg (.Call (.Attribute e "values" apos) [] [] cpos) ρ (l.map Prod.snd) :=
  pi_imp (pi_rawV h hbase hline) fun σ H R ⟨H0, F, S, k⟩ => ⟨H0, F, S, fun v H1 F1 g1 ⟨a, o, ev, h1, h2⟩ => ⟨a, o, F1, l, ev, g1.i a _ h1, g1.i, h2, fun ys hy =>
    k _ _ ys H1 F1 g1 hy srcR fun H' e => e a _ h1⟩⟩
end
end Lk

set_option Elab.async false
set_option linter.all false
set_option maxRecDepth 100000
set_option maxHeartbeats 4000000
namespace Lk
open PySem PySem.Calls L2 PySem.Spec PyProof.Rows
/-! ### sources with targets of any form -/
/-- J gives the data l, one after another, as long as what is known stays; the target's names are then as ρ1 says -/
structure SrcG {α : Type} (J : It) (g : TG) (vs : List Nat) (σ : L2.St) (H0 F1 H1 : Hp) (l : List α) (ρ1 : α → List En) : Prop where
  stop : ∀ F' H', Gr F1 H1 F' H' → J.stop l.length H'
  go : ∀ i a F' H', Gr F1 H1 F' H' → l[i]? = some a → J.go i H'
  turn : ∀ i a F' H' x H'', Gr F1 H1 F' H' → l[i]? = some a → J.yld i H' x H'' → ∀ K : L2.St → Hp → Prop, (∀ σ2 H2 F2, Gr F' H' F2 H2 → Sat H0 F2 σ2 H2 (ρ1 a) → L2.wipe σ2 vs = L2.wipe σ vs → K σ2 H2) → g x (L2.wipe σ vs) H'' K
def iSG {α : Type} (ρ : List En) (g : TG) (vs : List Nat) (l : List α) (ρ1 : α → List En) : TI := fun σ H R => ∃ H0 F, Sat H0 F σ H ρ ∧ ∀ J H1 F1, Gr F H F1 H1 → SrcG J g vs σ H0 F1 H1 l ρ1 → R J H1
abbrev ESG {α : Type} (X : Cx) (tg it : Expr) (ρ : List En) (g : TG) (vs : List Nat) (l : List α) (ρ1 : α → List En) : Prop := PI X tg it (iSG ρ g vs l ρ1)
section
variable {X : Cx} {tg it a : Expr} {ρ : List En} {vs : List Nat} {j j1 j2 : Nat} {α : Type} {l : List α} {enc : α → As}
/-- one name -/
theorem esg_name (hj : j ∈ vs) (h : ES X tg it ρ (l.map enc)) : ESG X tg it ρ (gName j) vs l (fun a => (wipeE ρ vs).set j (.fr (enc a))) := pi_imp h fun σ H R ⟨H0, F, S, k⟩ => ⟨H0, F, S, fun J G xs H1 F1 g1 hall src keep => k J H1 F1 g1 (by
  have hl : xs.length = l.length := by rw [hall.length, List.length_map]
  have G' : ∀ F' H', Gr F1 H1 F' H' → G H' := fun F' H' g => keep H' (g.f.trans g.i)
  refine ⟨fun F' H' g => ?_, fun i a F' H' g ha => ?_, fun i a F' H' x H'' g ha y K hK => ?_⟩
  · rw [← hl]
    exact (src xs.length H' (G' F' H' g)).2.2 (Nat.le_refl _)
  · have hi : i < xs.length := by rw [hl]; exact (List.getElem?_eq_some_iff.mp ha).1
    exact (src i H' (G' F' H' g)).1 xs[i] (List.getElem?_eq_getElem hi)
  · have hi : i < xs.length := by rw [hl]; exact (List.getElem?_eq_some_iff.mp ha).1
    obtain ⟨rfl, hx⟩ := (src i H' (G' F' H' g)).2.1 hi x H'' y
    obtain ⟨u, hu, hA⟩ := hall.get (i := i) (A := enc a) (by rw [List.getElem?_map, ha]; rfl)
    obtain rfl : x = u := by rw [hx] at hu; simpa using hu
    exact hK _ _ F' (.refl g.i) ((((S.gr g1).gr g).wipe vs).set ((enc a).mono g.f hA)) (wipe_set hj))⟩
/-- what enumerate gives -/
def enumL (l : List α) : List (Nat × α) := (List.range l.length).zip l
theorem enum_get {i : Nat} {x : Nat × α} (h : (enumL l)[i]? = some x) : x.1 = i ∧ l[i]? = some x.2 := by
  obtain ⟨h1, h2⟩ := List.getElem?_zip_eq_some.mp h
  have hi : i < l.length := (List.getElem?_eq_some_iff.mp h2).1
  rw [List.getElem?_range hi] at h1
  exact ⟨by simpa using h1.symm, h2⟩
theorem enum_len : (enumL l).length = l.length := by unfold enumL; rw [List.length_zip, List.length_range, Nat.min_self]
abbrev gTwo (K : PySem.W.Frag) (j1 j2 : Nat) : TG := gTup K 2 (gCons (gName j1) (gCons (gName j2) gNil))
theorem wipe_twice {σ : L2.St} (hj : j ∈ vs) : L2.wipe (L2.wipe σ vs) vs = L2.wipe σ vs := (wipe_setG (τ := L2.wipe σ vs) (x := none) hj).symm.trans (wipe_set hj)
/-- enumerate(xs), xs a list that stays -/
theorem esg_enum {elts : List Expr} {kk : Nat} {tpos p pos : Pos} (hj1 : j1 ∈ vs) (hj2 : j2 ∈ vs) (h : EA X a ρ (lstA (l.map enc))) (hm : X.mg "enumerate" = none) (hg : Gl X "enumerate" := by rfl) (hs : starEach [a] X.env = [(false, eval a X.env)] := by rfl) :
    ESG X (.Tuple elts kk tpos) (.Call (.Name "enumerate" p) [a] [] pos) ρ (gTwo X.K j1 j2) vs (enumL l) (fun x => ((wipeE ρ vs).set j1 (.fr (nat x.1))).set j2 (.fr (enc x.2))) :=
  pi_imp (pi_enum hg hm (pa_cons h pa_nil hs) hs) fun σ H R ⟨H0, F, S, k⟩ => ⟨H0, F, S, fun v H1 F1 g1 ⟨b, xs, ev, h1, h2⟩ => by
    subst ev
    have hl : xs.length = l.length := by rw [h2.length, List.length_map]
    have at_ : ∀ F' H', Gr F1 H1 F' H' → SqL X.K H' b xs := fun F' H' g => SqL.of (g.i b _ (g.f b _ h1))
    refine ⟨b, xs, rfl, SqL.of (g1.i b _ h1), k _ H1 F1 g1 ⟨fun F' H' g => ?_, fun i x F' H' g ha => ?_, fun i x F' H' y H'' g ha yl K hK => ?_⟩⟩
    · exact ⟨xs, at_ F' H' g, by rw [enum_len]; omega⟩
    · obtain ⟨_, h3⟩ := enum_get ha
      have hi : i < xs.length := by rw [hl]; exact (List.getElem?_eq_some_iff.mp h3).1
      exact ⟨xs, xs[i], at_ F' H' g, List.getElem?_eq_getElem hi⟩
    · obtain ⟨h3, h4⟩ := enum_get ha
      obtain ⟨T, u, rfl, hT, rfl, hu⟩ := yl
      have hu := hu xs (at_ F' H' g)
      obtain ⟨u', hu', hA⟩ := h2.get (i := i) (A := enc x.2) (by rw [List.getElem?_map, h4]; rfl)
      obtain rfl : u = u' := by rw [hu] at hu'; simpa using hu'
      refine ⟨T, [.int (i : Nat), u], rfl, SqT.of upd_same, rfl, .int (i : Nat), [u], rfl, u, [], rfl, rfl, ?_⟩
      have gT : Gr F' H' F' (upd H' T (.tup [.int (i : Nat), u])) := .newH g.i hT
      refine hK _ _ F' gT ?_ (by rw [wipe_setG hj2, wipe_setG hj1, wipe_twice hj1])
      have S2 := (((S.gr g1).gr g).gr gT).wipe vs
      exact (S2.set (i := j1) (A := nat x.1) (by rw [h3]; exact rfl)).set (i := j2) ((enc x.2).mono g.f hA)⟩
end
section
variable {α : Type} {X : Cx} {ρ : List En} {pos spos : Pos} {elt kx vx tg it : Expr} {ifs : List Expr} {scope : Scope} {Nx : List En → Prop} {W : Wn} {g : TG} {ρ1 : α → List En}
/-! ### list comprehensions over them -/
theorem tlc_g {σ : L2.St} {H : Hp} {Q : VK} {l : List α} {p : α → Bool} {gv : α → As} {vs : List Nat} (hz : l.length < sizeLine) (h : tN ρ ((l.filter p).map gv) σ H Q) : tLc (iSG ρ g vs l ρ1) g (tTc ρ1 l p) (tEc ρ1 l p gv) vs σ H Q := by
  obtain ⟨H0, F, S, k⟩ := h
  refine ⟨H0, F, S, fun J H1 F1 g1 src D hD => ?_⟩
  refine ⟨fun i m H' => m = l.length - i ∧ i ≤ l.length ∧ Lcs F1 H1 D l p gv i H', ⟨l.length, rfl, Nat.zero_le _, F1, [], .newH g1.i hD, g1.i.none hD, upd_same, trivial⟩, ?_⟩
  rintro i m H' ⟨rfl, hi, L⟩
  obtain ⟨F', acc, G, fD, hDl, hall⟩ := L.ex
  by_cases hlt : i < l.length
  · have ha : l[i]? = some l[i] := List.getElem?_eq_getElem hlt
    generalize l[i] = a at ha
    have mem : a ∈ l := List.mem_of_getElem? ha
    have tk : l.take (i + 1) = l.take i ++ [a] := by rw [List.take_add_one, ha]; rfl
    refine .inr ⟨src.go i a F' H' G ha, Lcs F1 H1 D l p gv (i + 1), fun H2 L2 => ⟨_, by omega, rfl, hlt, L2⟩, fun x H'' y => ?_⟩
    refine src.turn i a F' H' x H'' G ha y _ fun σ2 H2 F2 g2 S2 w2 => ⟨w2, a, mem, H0, F2, S2, fun H3 F3 g3 => ?_⟩
    have G3 := (G.trans g2).trans g3
    have f2 : F2 D = none := g2.n D _ hDl fD
    have h2 : H2 D = some (.lst acc) := g2.h D _ hDl
    have f3 : F3 D = none := g3.n D _ h2 f2
    have h3 : H3 D = some (.lst acc) := g3.h D _ h2
    have hall3 := (hall.mono g2.f).mono g3.f
    cases hp : p a with
    | false =>
      refine ⟨F3, acc, G3, f3, h3, ?_⟩
      rw [tk, List.filter_append, List.filter_cons, hp]
      simpa using hall3
    | true =>
      refine ⟨a, mem, hp, H0, F3, S2.gr g3, fun u H4 F4 g4 hu => ⟨acc, g4.h D _ h3, ?_, ?_⟩⟩
      · rw [hall.length, List.length_map]
        have q := List.length_filter_le p (l.take i)
        rw [List.length_take] at q
        omega
      · have f4 : F4 D = none := g4.n D _ h3 f3
        have G4 := G3.trans g4
        refine ⟨F4, acc ++ [u], ⟨G4.f, fun b o z => ?_, fun b o z => ?_, G4.n⟩, f4, upd_same, ?_⟩
        · rw [upd_ne (ne_of_none z hD)]
          exact G4.h b o z
        · rw [upd_ne (ne_of_none z f4)]
          exact G4.i b o z
        · rw [tk, List.filter_append, List.map_append, show (List.filter p [a]).map gv = [gv a] by simp [hp]]
          exact (hall3.mono g4.f).snoc hu
  · have e : i = l.length := by omega
    subst e
    rw [List.take_length] at hall
    exact .inl ⟨src.stop F' H' G, k D acc H' F' (g1.trans G) (g1.h.none hD) fD hDl hall⟩
abbrev Blk (X : Cx) (scope : Scope) (T : Cx → Prop) : Prop := ∀ (s : Shared) (H : Hp) (C : Addr) (cl : List (Str × Addr)) (fp : List Addr), T (X.blk s H scope (compEnvC scope cl C X.env) fp)
theorem en_lcG {own : List (Str × Nat)} {l : List α} {p : α → Bool} {gv : α → As} (hc : X.calm = true) (hN : X.N.Nodup) (hi : ESG X tg it ρ g (own.map (·.2)) l ρ1) (hz : l.length < sizeLine) (ok : BlkOk X.N X.env.scope scope own)
    (hg : Blk X scope fun Y => PG Y tg g) (ht : Blk X scope fun Y => ∀ a ∈ l, PTs Y ifs (tTs (ρ1 a) (p a))) (he : Blk X scope fun Y => ∀ a ∈ l, p a = true → EA Y elt (ρ1 a) (gv a)) (hs : ∀ z, foldedSetIterable it X.env z = pure z := by intro _; rfl) :
    EN X (.ListComp elt [⟨tg, it, ifs, 0⟩] scope pos) ρ ((l.filter p).map gv) :=
  pe_imp (pe_lc (own := own) hc hN hi ok hg (fun s H C cl fp => pts_c (ht s H C cl fp)) (fun s H C cl fp => pe_c (he s H C cl fp)) hs) fun σ H Q h => tlc_g hz h
theorem sa_setLcG {own : List (Str × Nat)} (i : Nat) {y : Str} {py : Pos} {l : List α} {p : α → Bool} {gv : α → As} (hc : X.calm = true) (hN : X.N.Nodup) (hi : ESG X tg it ρ g (own.map (·.2)) l ρ1) (hz : l.length < sizeLine) (ok : BlkOk X.N X.env.scope scope own)
    (hg : Blk X scope fun Y => PG Y tg g) (ht : Blk X scope fun Y => ∀ a ∈ l, PTs Y ifs (tTs (ρ1 a) (p a))) (he : Blk X scope fun Y => ∀ a ∈ l, p a = true → EA Y elt (ρ1 a) (gv a)) (k : Nx (ρ.set i (.own ((l.filter p).map gv)))) (hy : X.N[i]? = some y := by rfl) (hyl : X.env.scope.names.lookup y = some .local := by rfl)
    (hsw : swapsWith (.ListComp elt [⟨tg, it, ifs, 0⟩] scope pos) (some (.Name y py)) spos.line X.env = pure true := by exact sw_true rfl rfl rfl (by decide +kernel)) (hs : ∀ z, foldedSetIterable it X.env z = pure z := by intro _; rfl) :
    SA X (.Assign [.Name y py] (.ListComp elt [⟨tg, it, ifs, 0⟩] scope pos) spos) ρ Nx W :=
  ps_imp (ps_setLc (own := own) (i := i) hc hN hy hyl hsw hi ok hg (fun s H C cl fp => pts_c (ht s H C cl fp)) (fun s H C cl fp => pe_c (he s H C cl fp)) hs) fun D σ H ⟨F0, H0, F, g0, S, q, _⟩ => tlc_g hz ⟨H0, F, S, fun p' xs H' F' g' n1 n2 hp hv => q _ _ H' F' k (g0.trans g') ((S.gr g').setN (g0.h.none n1) n2 hp hv (S.newAt n1 _))⟩
/-! ### dict comprehensions, keys numbers -/
theorem tdc_g {σ : L2.St} {H : Hp} {Q : VK} {l : List α} {p : α → Bool} {kf : α → Int} {gv : α → As} {vs : List Nat} (hz : l.length < sizeLine) (h : tA ρ (diA (dcA (l.filter p) kf gv)) σ H Q) : tDc (iSG ρ g vs l ρ1) g (tTc ρ1 l p) (tKc ρ1 l p kf) (tEc ρ1 l p gv) vs σ H Q := by
  obtain ⟨H0, F, S, k⟩ := h
  refine ⟨H0, F, S, fun J H1 F1 g1 src D hD => ?_⟩
  refine ⟨fun i m H' => m = l.length - i ∧ i ≤ l.length ∧ Dcs F1 H1 D l p kf gv i H', ⟨l.length, rfl, Nat.zero_le _, F1, [], .newH g1.i hD, g1.i.none hD, by simp [dcA, upd_same], trivial⟩, ?_⟩
  rintro i m H' ⟨rfl, hi, L⟩
  obtain ⟨F', us, G, fD, hDl, hall⟩ := L.ex
  by_cases hlt : i < l.length
  · have ha : l[i]? = some l[i] := List.getElem?_eq_getElem hlt
    generalize l[i] = a at ha
    have mem : a ∈ l := List.mem_of_getElem? ha
    have tk : l.take (i + 1) = l.take i ++ [a] := by rw [List.take_add_one, ha]; rfl
    refine .inr ⟨src.go i a F' H' G ha, Dcs F1 H1 D l p kf gv (i + 1), fun H2 L2 => ⟨_, by omega, rfl, hlt, L2⟩, fun x H'' y => ?_⟩
    refine src.turn i a F' H' x H'' G ha y _ fun σ2 H2 F2 g2 S2 w2 => ⟨w2, a, mem, H0, F2, S2, fun H3 F3 g3 => ?_⟩
    have G3 := (G.trans g2).trans g3
    have f2 : F2 D = none := g2.n D _ hDl fD
    have h2 : H2 D = some _ := g2.h D _ hDl
    have f3 : F3 D = none := g3.n D _ h2 f2
    have h3 : H3 D = some _ := g3.h D _ h2
    have hall3 := (hall.mono g2.f).mono g3.f
    cases hp : p a with
    | false =>
      refine ⟨F3, us, G3, f3, ?_, ?_⟩
      · rw [tk, List.filter_append, List.filter_cons, hp]
        simpa using h3
      · rw [tk, List.filter_append, List.filter_cons, hp]
        simpa using hall3
    | true =>
      refine ⟨a, mem, hp, H0, F3, S2.gr g3, fun u H4 F4 g4 hu => ?_⟩
      have hu : u = .int (kf a) := hu
      subst hu
      have f4 : F4 D = none := g4.n D _ h3 f3
      have h4 : H4 D = some _ := g4.h D _ h3
      refine ⟨a, mem, hp, H0, F4, (S2.gr g3).gr g4, fun z H5 F5 g5 hz5 => ⟨_, kI (kf a), rfl, g5.h D _ h4, ?_, ?_⟩⟩
      · have q := dcA_len kf gv ((l.take i).filter p) []
        have q2 := List.length_filter_le p (l.take i)
        rw [List.length_take] at q2
        rw [List.length_zip, List.length_map]
        have q3 : (dcA ((l.take i).filter p) kf gv).length ≤ ((l.take i).filter p).length := by simpa [dcA] using q
        omega
      · have f5 : F5 D = none := g5.n D _ h4 f4
        have G5 := (G3.trans g4).trans g5
        obtain ⟨us', e1, e2⟩ := putK_zip (k := kf a) hz5 ((hall3.mono g4.f).mono g5.f)
        refine ⟨F5, us', ⟨G5.f, fun b o q => ?_, fun b o q => ?_, G5.n⟩, f5, ?_, ?_⟩
        · rw [upd_ne (ne_of_none q hD)]
          exact G5.h b o q
        · rw [upd_ne (ne_of_none q f5)]
          exact G5.i b o q
        · rw [upd_same, e1, tk, List.filter_append, show List.filter p [a] = [a] by simp [hp], dcA_snoc]
        · rw [tk, List.filter_append, show List.filter p [a] = [a] by simp [hp], dcA_snoc]
          exact e2
  · have e : i = l.length := by omega
    subst e
    rw [List.take_length] at hall hDl
    have G' := g1.trans G
    exact .inl ⟨src.stop F' H' G, k _ H' _ (G'.take (g1.h.none hD) fD hDl) ⟨D, us, rfl, upd_same, hall.mono (Ex.new fD)⟩⟩
theorem ea_dcG {own : List (Str × Nat)} {l : List α} {p : α → Bool} {kf : α → Int} {gv : α → As} (hc : X.calm = true) (hN : X.N.Nodup) (hi : ESG X tg it ρ g (own.map (·.2)) l ρ1) (hz : l.length < sizeLine) (ok : BlkOk X.N X.env.scope scope own)
    (hg : Blk X scope fun Y => PG Y tg g) (ht : Blk X scope fun Y => ∀ a ∈ l, PTs Y ifs (tTs (ρ1 a) (p a))) (hk : Blk X scope fun Y => ∀ a ∈ l, p a = true → EA Y kx (ρ1 a) (int (kf a))) (he : Blk X scope fun Y => ∀ a ∈ l, p a = true → EA Y vx (ρ1 a) (gv a)) (hs : ∀ z, foldedSetIterable it X.env z = pure z := by intro _; rfl) :
    EA X (.DictComp kx vx [⟨tg, it, ifs, 0⟩] scope pos) ρ (diA (dcA (l.filter p) kf gv)) :=
  pe_imp (pe_dc (own := own) hc hN hi ok hg (fun s H C cl fp => pts_c (ht s H C cl fp)) (fun s H C cl fp => pe_kc (hk s H C cl fp)) (fun s H C cl fp => pe_c (he s H C cl fp)) hs) fun σ H Q h => tdc_g hz h
end
end Lk

set_option Elab.async false
set_option linter.all false
set_option maxRecDepth 100000
set_option maxHeartbeats 4000000
namespace Lk
open PySem PySem.Calls L2 PySem.Spec PyProof.Rows
/-! ### dict comprehensions, keys of any kind -/
/-- a key that may be stored among these -/
def KeyFor (l : List NestedKey) (k : NestedKey) : Prop := Nk.Fd l k ∨ (l = [] ∧ ∀ x, k ≠ .text x)
/-- D[y] = z, ob what stands at D -/
def PutAt (w : World) (D : Addr) (y z : V) (H : Hp) (N : Hp → Prop) : Prop := ∃ F l k A ob, H D = some ob ∧ Ex F H ∧ NdP w l F D ob ∧ (nkA k).p F y ∧ A.p F z ∧ l.length < sizeLine ∧ KeyFor (l.map (·.1)) k ∧ ∀ ob', NdP w (putN l k A) F D ob' → N (upd H D ob')
theorem put_at {X : Cx} {pins : List (Addr × Obj)} {σ : L2.St} {H : Hp} {s : Shared} {D : Addr} {y z : V} {u r : Value} {E : Value → Shared → Prop} {Q : Unit → Shared → Prop} {N : Hp → Prop} (hu : X.A.units + 8 < cLine) (I : Inv X pins σ H s) (ry : RelV y u) (rz : RelV z r) (h : PutAt X.w D y z H N)
    (q : ∀ s' H', Inv X pins σ H' s' → N H' → Q () s') : wpAny (model X.prog X.w) X.A (dictSet D u r) Q E s := by
  obtain ⟨F, l, k, A, ob, hD, xF, nd, kA, vA, hz, kf, hn⟩ := h
  obtain ⟨es, ep, rs, rfl, is, rows⟩ := nd_is I.hok xF hD nd
  have ka := nk_at I.hok ((nkA _).mono xF kA) ry
  have hl : rs.length ≤ sizeLine := by rw [← rows.len]; omega
  have fin : Nk.Put X.prog X.w D (Nk.put rs k u r) k.draws s Q := fun h' es' ep' is' sb => by
    have rows' := rows_put rows ry kA rz vA
    obtain ⟨o', w1, w2, w3⟩ := is'.ob
    exact q _ _ (d_write (ob := ndO D es' ep') I (by rw [hD]; exact True.intro) sb ⟨o', w1⟩ ⟨⟨o', w1, w2, w3⟩, ⟨o', w1⟩, fun h1 h2 ⟨o, e, q⟩ k => ⟨o, k o e, q⟩⟩) (hn (ndO D es' ep') ⟨nd.sys, es', ep', _, rfl, is'.es, by rw [← rows'.keys]; exact is'.nd, rows'⟩)
  rcases kf with fd | ⟨he, ht⟩
  · exact Nk.set_k hu ka is (by rw [rows.keys]; exact fd) hl fin
  · have hrs : rs = [] := by
      have z := rows.keys
      rw [he] at z
      exact List.map_eq_nil_iff.mp z
    subst hrs
    refine Nk.set_first hu (fun x t e => ?_) ka is fin
    rw [e] at ka
    obtain ⟨k1, _⟩ := ka
    cases k1 with
    | text _ _ => exact ht _ rfl
/-- {k: v for target in iter if ..}: D the new dict -/
def tDn (w : World) (wi : TI) (g : TG) (tt : TT) (tk tv : TE) (vs : List Nat) : TE := fun σ H Q => wi σ H fun J H1 => ∀ D o0, H1 D = none → (∀ F, NdP w [] F D o0) → ∃ W : Nat → Nat → Hp → Prop, (∃ m, W 0 m (upd H1 D o0)) ∧ ∀ i m H, W i m H →
  (J.stop i H ∧ Q (.ref D) H) ∨ (J.go i H ∧ ∃ N : Hp → Prop, (∀ H', N H' → ∃ m', m' < m ∧ W (i + 1) m' H') ∧ ∀ x H', J.yld i H x H' → g x (L2.wipe σ vs) H' fun σ2 H2 => L2.wipe σ2 vs = L2.wipe σ vs ∧ tt σ2 H2 fun b H3 =>
    if b = true then tk σ2 H3 fun y H4 => tv σ2 H4 fun z H5 => PutAt w D y z H5 N else N H3)
section
variable {X : Cx} {scope : Scope} {own : List (Str × Nat)} {tg it kx vx : Expr} {ifs : List Expr} {pos pos2 : Pos} {wi : TI} {g : TG} {tt : TT} {tk tv : TE}
/-- the whole, in the block's own context -/
theorem dn_run {use : Option (Value → Sem Unit)} {Qf : Value → Shared → Prop} {pins : List (Addr × Obj)} {σ : L2.St} {H : Hp} {s : Shared} {Q : VK} (hu : X.A.units + 8 < cLine) (hc : X.calm = true) (hN : X.N.Nodup) (I : Inv X pins σ H s) (hi : PI X tg it wi) (ok : BlkOk X.N X.env.scope scope own)
    (hg : Blk X scope fun Y => PG Y tg g) (ht : Blk X scope fun Y => PTs Y ifs tt) (hk : Blk X scope fun Y => PE Y kx tk) (hv : Blk X scope fun Y => PE Y vx tv) (hs : ∀ z, foldedSetIterable it X.env z = pure z) (h : tDn X.w wi g tt tk tv (own.map (·.2)) σ H Q)
    (fin : ∀ D C s' m H', Inv X pins σ H' s' → Q (.ref D) H' → s'.heap.Ns C m → FpOk X pins H' C → compPost (model X.prog X.w) X.A X.xe use Qf (.ref D) C (.ok .next) s') :
    wpAny (model X.prog X.w) X.A (comprehension (.DictComp kx vx [⟨tg, it, ifs, 0⟩] scope pos) scope X.env pos2 newDict false (eval it X.env) use) Qf X.xe s := by
  have cells : ∀ y ∈ scope.names, y.2 = .free → ∃ c, X.env.cells.lookup y.1 = some c := fun y hy e => by
    rcases ok.free y hy e with z | z
    · exact I.ok.has _ (.inl z)
    · exact I.ok.has _ (.inr z)
  refine wpAny_comprehension_free (use := use) rfl hs (closure_ok cells) ok.kind (fun y hy e => by rw [ok.uniq y hy, e]) (thn (hi.run pins s σ H _ I h) fun xv s1 hx => thn hx fun itv s2 hit => ?_)
  obtain ⟨ia, fp, tn, J, H2, rfl, I2, T, st2, fpok, q⟩ := hit
  refine wpAny_newObj_type (newEnv_comp ?_)
  have big : (s2.heap.objs.size == sysModules) = false := beq_eq_false_iff_ne.mpr (Ne.symm (Nat.ne_of_lt I2.big))
  generalize eD : s2.heap.objs.size = D at big
  have Dfree : H2 D = none := I2.hok.fresh (Nat.le_of_eq eD)
  obtain ⟨W, ⟨m0, w0⟩, turn⟩ := q D (ndO D #[] 0) Dfree fun F => ⟨big, #[], 0, [], rfl, rfl, List.nodup_nil, trivial⟩
  generalize e3 : ({ s2 with heap := s2.heap.push { cls := .type "dict", data := .dict #[] } } : Shared) = s3
  have heap3 : s3.heap = s2.heap.push { cls := .type "dict", data := .dict #[] } := by rw [← e3]
  have I3 : Inv X pins σ (upd H2 D (ndO D #[] 0)) s3 := by
    rw [← e3]
    refine I2.laid (t' := s2.toks) (fun b o e => Heap.get?_push_of_some _ e) (Nat.le_of_eq eD) ?_
    rw [← eD]
    exact nd_new I2.big
  have below : ∀ b ∈ fp, b < s2.heap.objs.size := fun b hb => let ⟨o, e, _⟩ := T.obj _ _ st2 b hb; Heap.lt_size e
  have fp3 : ∀ b ∈ fp, FpOk X pins (upd H2 D (ndO D #[] 0)) b ∧ b < s3.heap.objs.size := fun b hb => by
    have lt := below b hb
    refine ⟨⟨?_, (fpok b hb).2⟩, by rw [heap3, Heap.size_push]; exact Nat.lt_succ_of_lt lt⟩
    rw [upd_ne (by rw [← eD]; exact Nat.ne_of_lt lt)]
    exact (fpok b hb).1
  have st3 : tn 0 s3.heap := T.keep _ _ _ st2 fun b _ o e => by rw [heap3]; exact Heap.get?_push_of_some _ e
  have I4 := block_start I3 ok hN fp3
  have Pg := hg s3 (upd H2 D (ndO D #[] 0)) s3.heap.objs.size (cellsFrom (s3.heap.objs.size + 1) scope.names (cloFrom X.env.cells scope.names [])) fp
  have Pt := ht s3 (upd H2 D (ndO D #[] 0)) s3.heap.objs.size (cellsFrom (s3.heap.objs.size + 1) scope.names (cloFrom X.env.cells scope.names [])) fp
  have Pk := hk s3 (upd H2 D (ndO D #[] 0)) s3.heap.objs.size (cellsFrom (s3.heap.objs.size + 1) scope.names (cloFrom X.env.cells scope.names [])) fp
  have Pv := hv s3 (upd H2 D (ndO D #[] 0)) s3.heap.objs.size (cellsFrom (s3.heap.objs.size + 1) scope.names (cloFrom X.env.cells scope.names [])) fp
  show codeAny _ _ (.compStart (.DictComp kx vx [⟨tg, it, ifs, 0⟩] scope pos) 0 (.ref ia) (.ref D) (compEnvC scope (cellsFrom (s3.heap.objs.size + 1) scope.names (cloFrom X.env.cells scope.names [])) s3.heap.objs.size X.env)) (compPost (model X.prog X.w) X.A X.xe use Qf (.ref D) s3.heap.objs.size) { s3 with heap := pushCells (s3.heap.push { cls := .type "dict", data := .dict #[] }) scope.names }
  have out : ∀ b ∈ fp, (upd H2 D (ndO D #[] 0)) b = none := fun b hb => (fp3 b hb).1.1
  generalize ece : compEnvC scope (cellsFrom (s3.heap.objs.size + 1) scope.names (cloFrom X.env.cells scope.names [])) s3.heap.objs.size X.env = ce at I4 Pg Pt Pk Pv ⊢
  have celoc : ce.locals = s3.heap.objs.size := by subst ece; rfl
  generalize eH3 : upd H2 D (ndO D #[] 0) = H3 at I3 I4 Pg Pt Pk Pv w0 out fp3
  generalize e4 : ({ s3 with heap := pushCells (s3.heap.push { cls := .type "dict", data := .dict #[] }) scope.names } : Shared) = s4 at I4 ⊢
  have st4 : tn 0 s4.heap := T.keep _ _ _ st3 fun b _ o e => by rw [← e4]; exact pushCells_keeps _ _ _ _ (Heap.get?_push_of_some _ e)
  have un8 : (X.blk s3 H3 scope ce fp).A.units + 8 < cLine := hu
  have fpIn : ∀ {σ' : L2.St} {H' : Hp} {s' : Shared}, Inv (X.blk s3 H3 scope ce fp) [] σ' H' s' → (∀ b ∈ fp, H' b = none) → ∀ b ∈ fp, FpOk (X.blk s3 H3 scope ce fp) [] H' b := fun {σ' H' s'} I' hn b hb =>
    ⟨hn b hb, (I'.ok.exf b hb).1, I'.ok.exfs b hb, .inl hb, fun x c e => (I'.ok.exf b hb).2 x c e, fun p hp => absurd (show p ∈ ([] : List (Addr × Obj)) ++ [] from hp) (by simp)⟩
  have loop : codeAny (model X.prog X.w) X.A (.compLoop (.DictComp kx vx [⟨tg, it, ifs, 0⟩] scope pos) 0 (.ref ia) (.ref D) ce) (compPost (model X.prog X.w) X.A X.xe use Qf (.ref D) s3.heap.objs.size) s4 := by
    refine compLoop_anyD (fun n s' => ∃ i H', Inv (X.blk s3 H3 scope ce fp) [] (L2.wipe σ (own.map (·.2))) H' s' ∧ tn i s'.heap ∧ (∀ b ∈ fp, H' b = none) ∧ W i n H') ?_ m0 ⟨0, H3, I4, st4, out, w0⟩
    rintro n s5 ⟨i, H5, I5, st5, out5, w5⟩
    rcases turn i n H5 w5 with ⟨stop, qq⟩ | ⟨go, N, hN', step⟩
    · refine thnF (T.done (X.blk s3 H3 scope ce fp) rfl rfl rfl hc i [] s5 _ H5 (fun _ _ => False) I5 (fpIn I5 out5) st5 stop) fun r s6 ⟨hr, I6⟩ => ?_
      subst hr
      have I7 : Inv X pins σ H5 s6 := I3.call' (ch := fp) I6.os I6.base I6.hok I6.bare fun b hb => ⟨(fp3 b hb).1.2.2.2.1, (fp3 b hb).1.2.1, (fp3 b hb).1.2.2.2.2.1, (fp3 b hb).1.2.2.2.2.2⟩
      have loc : H5 s3.heap.objs.size = none := celoc ▸ (I6.free : H5 ce.locals = none)
      obtain ⟨m, hm, _⟩ := I6.loc
      have hm : s6.heap.Ns ce.locals m := hm
      exact fin D s3.heap.objs.size s6 m H5 I7 qq (celoc ▸ hm) (I3.fpOk (Nat.le_refl _) loc)
    · refine thnF (T.item (X.blk s3 H3 scope ce fp) rfl rfl rfl hc i [] s5 _ H5 (fun _ _ => False) I5 (fpIn I5 out5) st5 go) fun r s6 ⟨u, hr, hlet⟩ => ?_
      subst hr
      refine thnF hlet fun _ s7 ⟨x, H7, I7, r7, y7, st7, out7⟩ => ?_
      have I8 := I7.pinned (fpIn I7 out7) (T.obj _ _ st7)
      refine thnF (Pg.run _ s7 _ H7 x u _ I8 r7 (step x H7 y7)) fun _ s9 ⟨σ9, H9, I9, w9, q9⟩ => ?_
      refine thnF (Pt.run _ s9 σ9 H9 _ I9 q9) fun b s10 ⟨H10, I10, q10⟩ => ?_
      have next : ∀ {s' : Shared} {H' : Hp}, Inv (X.blk s3 H3 scope ce fp) ([] ++ pinsAt fp s7.heap) σ9 H' s' → N H' → ∃ m, m < n ∧ ∃ i H', Inv (X.blk s3 H3 scope ce fp) [] (L2.wipe σ (own.map (·.2))) H' s' ∧ tn i s'.heap ∧ (∀ b ∈ fp, H' b = none) ∧ W i m H' := fun {s' H'} I' nx => by
        obtain ⟨m', hm, w'⟩ := hN' H' nx
        have pin : ∀ b ∈ fp, ∀ o, s7.heap.get? b = some o → s'.heap.get? b = some o ∧ H' b = none := fun b hb o e =>
          let z := I'.pin (b, o) (List.mem_append_right _ (List.mem_append_right _ (mem_pinsAt hb e)))
          ⟨z.1, z.2.1⟩
        refine ⟨m', hm, i + 1, H', (I'.unpinned (pins := [])).weak (by rw [← w9, wipe_length]) (fun j v e => ?_), T.keep _ _ _ st7 fun b hb o e => (pin b hb o e).1, fun b hb => ?_, w'⟩
        · rw [← w9] at e
          exact (wipe_some e).1
        · obtain ⟨o, e, _⟩ := T.obj _ _ st7 b hb
          exact (pin b hb o e).2
      cases b with
      | false =>
        simp only [Bool.false_eq_true, if_false] at q10 ⊢
        exact next I10 q10
      | true =>
        simp only [if_true] at q10 ⊢
        exact thnF (Pk.run _ s10 σ9 H10 _ I10 q10) fun kv s11 ⟨yk, H11, I11, r11, q11⟩ => thnF (Pv.run _ s11 σ9 H11 _ I11 q11) fun vv s12 ⟨yv, H12, I12, r12, q12⟩ => put_at (X := X.blk s3 H3 scope ce fp) un8 I12 r11 r12 q12 fun s13 H13 I13 nx => next I13 nx
  exact codeAny_compStart_dict loop (T.self X.A 0 _ _ _ st4 loop)
theorem pe_dn (hu : X.A.units + 8 < cLine) (hc : X.calm = true) (hN : X.N.Nodup) (hi : PI X tg it wi) (ok : BlkOk X.N X.env.scope scope own) (hg : Blk X scope fun Y => PG Y tg g) (ht : Blk X scope fun Y => PTs Y ifs tt) (hk : Blk X scope fun Y => PE Y kx tk) (hv : Blk X scope fun Y => PE Y vx tv)
    (hs : ∀ z, foldedSetIterable it X.env z = pure z := by intro _; rfl) : PE X (.DictComp kx vx [⟨tg, it, ifs, 0⟩] scope pos) (tDn X.w wi g tt tk tv (own.map (·.2))) := by
  refine ⟨fun pins s σ H Q I h => ?_⟩
  rw [arm_eval_DictComp]
  refine dn_run hu hc hN I hi ok hg ht hk hv hs h fun D C s' m H' I' q hn ⟨f0, f1, f2, f3, f4, f5⟩ => ⟨m, hn, fun h'' sb => ?_⟩
  exact ⟨.ref D, H', I'.turned (t' := s'.toks) (fun b o hb e => (sb.2 b hb).trans e) f0 f1 f3 f4 f5, rfl, q⟩
theorem ps_setDn {i : Nat} {y : Str} {py spos : Pos} (hu : X.A.units + 8 < cLine) (hc : X.calm = true) (hN : X.N.Nodup) (hy : X.N[i]? = some y) (hyl : X.env.scope.names.lookup y = some .local) (hsw : swapsWith (.DictComp kx vx [⟨tg, it, ifs, 0⟩] scope pos) (some (.Name y py)) spos.line X.env = pure true) (hi : PI X tg it wi) (ok : BlkOk X.N X.env.scope scope own)
    (hg : Blk X scope fun Y => PG Y tg g) (ht : Blk X scope fun Y => PTs Y ifs tt) (hk : Blk X scope fun Y => PE Y kx tk) (hv : Blk X scope fun Y => PE Y vx tv) (hs : ∀ z, foldedSetIterable it X.env z = pure z := by intro _; rfl) :
    PS X (.Assign [.Name y py] (.DictComp kx vx [⟨tg, it, ifs, 0⟩] scope pos) spos) (tAsg (tDn X.w wi g tt tk tv (own.map (·.2))) (gName i)) := by
  refine ⟨fun pins s σ H D I h => ?_⟩
  rw [exec_Assign_Name_used _ _ _ _ hsw]
  refine wpAny_bind (wpAny_standAt (wpAny_bind ?_))
  show wpAny _ X.A (do let _ ← comprehension (.DictComp kx vx [⟨tg, it, ifs, 0⟩] scope pos) scope X.env (firstIterPos [⟨tg, it, ifs, 0⟩] pos) newDict false (eval it X.env) (some (assign (.Name y py) X.env))) _ _ s
  have h : tDn X.w wi g tt tk tv (own.map (·.2)) σ H (fun x H1 => gName i x σ H1 D.nx) := h
  refine wpAny_bind (thn (dn_run (Qf := fun _ s' => SP X pins D .next s') hu hc hN I hi ok hg ht hk hv hs h fun L C s' m H' I' q hn ⟨f0, f1, f2, f3, f4, f5⟩ => ?_) fun _ s' hq => wpAny_pure (wpAny_pure hq))
  show wpAny _ _ (assign (.Name y py) X.env (.ref L)) _ _ _
  refine wpAny_assign_Name (store_ok2 (v := V.ref L) I' hN hy (.inl hyl) rfl (fun s2 I2 ⟨a, sb, ha⟩ => ?_) (.inr hyl))
  have neC : C ≠ a := by
    rcases ha with z | z
    · rw [z]; exact f1
    · exact fun e => f4 y a z e.symm
  exact ⟨m, hn.sameBut sb neC, fun h3 sb3 => ⟨_, H', I2.turned (t' := s2.toks) (fun b o hb e => (sb3.2 b hb).trans e) f0 f1 f3 f4 f5, q⟩⟩
end
section
variable {α : Type} {X : Cx} {ρ : List En} {pos spos : Pos} {kx vx tg it : Expr} {ifs : List Expr} {scope : Scope} {Nx : List En → Prop} {W : Wn} {g : TG} {ρ1 : α → List En}
/-- what such a comprehension makes -/
def dnA (l : List α) (kf : α → NestedKey) (gv : α → As) : List (NestedKey × As) := l.foldl (fun acc a => putN acc (kf a) (gv a)) []
theorem dnA_snoc (l : List α) (a : α) (kf : α → NestedKey) (gv : α → As) : dnA (l ++ [a]) kf gv = putN (dnA l kf gv) (kf a) (gv a) := by
  unfold dnA
  rw [List.foldl_append]
  rfl
theorem dnA_len (kf : α → NestedKey) (gv : α → As) : ∀ (l : List α) (acc : List (NestedKey × As)), (l.foldl (fun acc a => putN acc (kf a) (gv a)) acc).length ≤ acc.length + l.length
  | [], _ => Nat.le_refl _
  | a :: l, acc => by
    have h1 := dnA_len kf gv l (putN acc (kf a) (gv a))
    have h2 := putN_len acc (kf a) (gv a)
    rw [List.foldl_cons, List.length_cons]
    omega
def tKn (ρ : α → List En) (l : List α) (p : α → Bool) (kf : α → NestedKey) : TE := fun σ H Q => ∃ a, a ∈ l ∧ p a = true ∧ tA (ρ a) (nkA (kf a)) σ H Q
theorem pe_kn {e : Expr} {ρ : α → List En} {l : List α} {p : α → Bool} {kf : α → NestedKey} (h : ∀ a ∈ l, p a = true → EA X e (ρ a) (nkA (kf a))) : PE X e (tKn ρ l p kf) := ⟨fun pins s σ H Q I ⟨a, ha, hp, q⟩ => (h a ha hp).run pins s σ H Q I q⟩
theorem tdn_g {w : World} {σ : L2.St} {H : Hp} {Q : VK} {l : List α} {p : α → Bool} {kf : α → NestedKey} {gv : α → As} {vs : List Nat} (hz : l.length < sizeLine) (hkf : ∀ i a, l[i]? = some a → p a = true → KeyFor ((dnA ((l.take i).filter p) kf gv).map (·.1)) (kf a)) (h : tA ρ (ndA w (dnA (l.filter p) kf gv)) σ H Q) :
    tDn w (iSG ρ g vs l ρ1) g (tTc ρ1 l p) (tKn ρ1 l p kf) (tEc ρ1 l p gv) vs σ H Q := by
  obtain ⟨H0, F, S, k⟩ := h
  refine ⟨H0, F, S, fun J H1 F1 g1 src D o0 hD nd0 => ?_⟩
  refine ⟨fun i m H' => m = l.length - i ∧ i ≤ l.length ∧ ∃ F' ob, Gr F1 H1 F' H' ∧ F' D = none ∧ H' D = some ob ∧ NdP w (dnA ((l.take i).filter p) kf gv) F' D ob, ⟨l.length, rfl, Nat.zero_le _, F1, o0, .newH g1.i hD, g1.i.none hD, upd_same, nd0 F1⟩, ?_⟩
  rintro i m H' ⟨rfl, hi, F', ob, G, fD, hDl, hnd⟩
  by_cases hlt : i < l.length
  · have ha : l[i]? = some l[i] := List.getElem?_eq_getElem hlt
    generalize l[i] = a at ha
    have mem : a ∈ l := List.mem_of_getElem? ha
    have tk : l.take (i + 1) = l.take i ++ [a] := by rw [List.take_add_one, ha]; rfl
    refine .inr ⟨src.go i a F' H' G ha, fun H2 => ∃ F2 ob, Gr F1 H1 F2 H2 ∧ F2 D = none ∧ H2 D = some ob ∧ NdP w (dnA ((l.take (i + 1)).filter p) kf gv) F2 D ob, fun H2 L2 => ⟨_, by omega, rfl, hlt, L2⟩, fun x H'' y => ?_⟩
    refine src.turn i a F' H' x H'' G ha y _ fun σ2 H2 F2 g2 S2 w2 => ⟨w2, a, mem, H0, F2, S2, fun H3 F3 g3 => ?_⟩
    have G3 := (G.trans g2).trans g3
    have f2 : F2 D = none := g2.n D _ hDl fD
    have h2 : H2 D = some ob := g2.h D _ hDl
    have f3 : F3 D = none := g3.n D _ h2 f2
    have h3 : H3 D = some ob := g3.h D _ h2
    have hnd3 : NdP w (dnA ((l.take i).filter p) kf gv) F3 D ob := (ndOb w _).mono (g2.f.trans g3.f) hnd
    cases hp : p a with
    | false =>
      refine ⟨F3, ob, G3, f3, h3, ?_⟩
      rw [tk, List.filter_append, List.filter_cons, hp]
      simpa using hnd3
    | true =>
      refine ⟨a, mem, hp, H0, F3, S2.gr g3, fun u H4 F4 g4 hu => ?_⟩
      have f4 : F4 D = none := g4.n D _ h3 f3
      have h4 : H4 D = some ob := g4.h D _ h3
      refine ⟨a, mem, hp, H0, F4, (S2.gr g3).gr g4, fun z H5 F5 g5 hz5 => ?_⟩
      have f5 : F5 D = none := g5.n D _ h4 f4
      have G5 := (G3.trans g4).trans g5
      refine ⟨F5, _, kf a, gv a, ob, g5.h D _ h4, g5.i, (ndOb w _).mono (g4.f.trans g5.f) hnd3, (nkA _).mono g5.f hu, hz5, ?_, hkf i a ha hp, fun ob' nd' => ⟨F5, ob', ⟨G5.f, fun b o q => ?_, fun b o q => ?_, G5.n⟩, f5, upd_same, ?_⟩⟩
      · have q := dnA_len kf gv ((l.take i).filter p) []
        have q2 := List.length_filter_le p (l.take i)
        rw [List.length_take] at q2
        have q3 : (dnA ((l.take i).filter p) kf gv).length ≤ ((l.take i).filter p).length := by simpa [dnA] using q
        omega
      · rw [upd_ne (ne_of_none q hD)]
        exact G5.h b o q
      · rw [upd_ne (ne_of_none q f5)]
        exact G5.i b o q
      · rw [tk, List.filter_append, show List.filter p [a] = [a] by simp [hp], dnA_snoc]
        exact nd'
  · have e : i = l.length := by omega
    subst e
    rw [List.take_length] at hnd
    have G' := g1.trans G
    exact .inl ⟨src.stop F' H' G, k _ H' _ (G'.take (g1.h.none hD) fD hDl) ⟨D, ob, rfl, upd_same, (ndOb w _).mono (Ex.new fD) hnd⟩⟩
theorem ea_dcN {own : List (Str × Nat)} {k : Nat} {l : List α} {p : α → Bool} {kf : α → NestedKey} {gv : α → As} (hr : Room k X.A) (hc : X.calm = true) (hN : X.N.Nodup) (hi : ESG X tg it ρ g (own.map (·.2)) l ρ1) (hz : l.length < sizeLine) (hkf : ∀ i a, l[i]? = some a → p a = true → KeyFor ((dnA ((l.take i).filter p) kf gv).map (·.1)) (kf a)) (ok : BlkOk X.N X.env.scope scope own)
    (hg : Blk X scope fun Y => PG Y tg g) (ht : Blk X scope fun Y => ∀ a ∈ l, PTs Y ifs (tTs (ρ1 a) (p a))) (hk : Blk X scope fun Y => ∀ a ∈ l, p a = true → EA Y kx (ρ1 a) (nkA (kf a))) (he : Blk X scope fun Y => ∀ a ∈ l, p a = true → EA Y vx (ρ1 a) (gv a)) (hs : ∀ z, foldedSetIterable it X.env z = pure z := by intro _; rfl) :
    EA X (.DictComp kx vx [⟨tg, it, ifs, 0⟩] scope pos) ρ (ndA X.w (dnA (l.filter p) kf gv)) :=
  pe_imp (pe_dn (own := own) (by have := un9 hr; omega) hc hN hi ok hg (fun s H C cl fp => pts_c (ht s H C cl fp)) (fun s H C cl fp => pe_kn (hk s H C cl fp)) (fun s H C cl fp => pe_c (he s H C cl fp)) hs) fun σ H Q h => tdn_g hz hkf h
theorem sa_setDn {own : List (Str × Nat)} {k : Nat} (i : Nat) {y : Str} {py : Pos} {l : List α} {p : α → Bool} {kf : α → NestedKey} {gv : α → As} (hr : Room k X.A) (hc : X.calm = true) (hN : X.N.Nodup) (hi : ESG X tg it ρ g (own.map (·.2)) l ρ1) (hz : l.length < sizeLine) (hkf : ∀ i a, l[i]? = some a → p a = true → KeyFor ((dnA ((l.take i).filter p) kf gv).map (·.1)) (kf a)) (ok : BlkOk X.N X.env.scope scope own)
    (hg : Blk X scope fun Y => PG Y tg g) (ht : Blk X scope fun Y => ∀ a ∈ l, PTs Y ifs (tTs (ρ1 a) (p a))) (hk : Blk X scope fun Y => ∀ a ∈ l, p a = true → EA Y kx (ρ1 a) (nkA (kf a))) (he : Blk X scope fun Y => ∀ a ∈ l, p a = true → EA Y vx (ρ1 a) (gv a)) (kk : Nx (ρ.set i (.fr (ndA X.w (dnA (l.filter p) kf gv))))) (hy : X.N[i]? = some y := by rfl) (hyl : X.env.scope.names.lookup y = some .local := by rfl)
    (hsw : swapsWith (.DictComp kx vx [⟨tg, it, ifs, 0⟩] scope pos) (some (.Name y py)) spos.line X.env = pure true := by exact sw_trueD rfl rfl rfl (by decide +kernel)) (hs : ∀ z, foldedSetIterable it X.env z = pure z := by intro _; rfl) :
    SA X (.Assign [.Name y py] (.DictComp kx vx [⟨tg, it, ifs, 0⟩] scope pos) spos) ρ Nx W :=
  ps_imp (ps_setDn (own := own) (i := i) (by have := un9 hr; omega) hc hN hy hyl hsw hi ok hg (fun s H C cl fp => pts_c (ht s H C cl fp)) (fun s H C cl fp => pe_kn (hk s H C cl fp)) (fun s H C cl fp => pe_c (he s H C cl fp)) hs) fun D σ H ⟨F0, H0, F, g0, S, q, _⟩ => tdn_g hz hkf ⟨H0, F, S, fun v H' F' g' hv => q _ _ H' F' kk (g0.trans g') ((S.gr g').set hv)⟩
end
end Lk

set_option Elab.async false
set_option linter.all false
set_option maxRecDepth 100000
set_option maxHeartbeats 4000000
namespace Lk
open PySem PySem.Calls L2 PySem.Spec PyProof.Rows
theorem es_is {X : Cx} {tg it : Expr} {ρ : List En} {l m : List As} (h : ES X tg it ρ l) (i : l = m) : ES X tg it ρ m := i ▸ h
/-- the scope of a comprehension, as one within it sees it -/
def relabS (sc sc0 : Scope) : Scope := relabel sc { (default : Env) with scope := sc0 }
theorem blk_relS {N : List Str} {sc sc0 scope : Scope} {own : List (Str × Nat)} {cl : List (Str × Addr)} {C : Addr} {env : Env} (e : env.scope = sc0) (h : BlkOk N (relabS sc sc0) scope own) : BlkOk N (compEnvC sc cl C env).scope scope own := by
  subst e
  exact h
end Lk

set_option Elab.async false
set_option linter.all false
set_option maxRecDepth 100000
set_option maxHeartbeats 4000000
namespace Lk
open PySem PySem.Calls L2
/-! ### while -/
section
variable {X : Cx} {c : Expr} {ρ : List En} {pos : Pos} {sts : List Stmt} {Nx : List En → Prop} {W : Wn} {ι : Type}
def tcW (ok : ι → Prop) (env : ι → List En) (b : ι → Bool) : TT := fun σ H Q => ∃ i, ok i ∧ tTs (env i) (b i) σ H Q
def tbW (ok : ι → Prop) (env : ι → List En) (μ : ι → Nat) (b : ι → Bool) (W : Wn) (Nx : List En → Prop) : TS := fun D σ H => ∃ i, ok i ∧ b i = true ∧ sA (env i) (fun ρ2 => ∃ j, ok j ∧ μ j < μ i ∧ Le (env j) ρ2) { W with B := Nx, C := fun ρ2 => ∃ j, ok j ∧ μ j < μ i ∧ Le (env j) ρ2 } D σ H
/-- while c: .., by a measure; c has no effect -/
theorem sa_while (ok : ι → Prop) (env : ι → List En) (μ : ι → Nat) (b : ι → Bool) (hp : PassesOwn (model X.prog X.w) X.A X.env X.xe) (h0 : ∃ i, ok i ∧ Le (env i) ρ) (hc : ∀ i, ok i → ET X c (env i) (b i))
    (hs : ∀ i, ok i → b i = true → BA X sts (env i) (fun ρ2 => ∃ j, ok j ∧ μ j < μ i ∧ Le (env j) ρ2) { W with B := Nx, C := fun ρ2 => ∃ j, ok j ∧ μ j < μ i ∧ Le (env j) ρ2 }) (hd : ∀ i, ok i → b i = false → Nx (env i)) : SA X (.While c sts [] pos) ρ Nx W := by
  have pc : PT X c (tcW ok env b) := ⟨fun pins s σ H Q I ⟨i, hi, q⟩ => (hc i hi).run pins s σ H Q I q⟩
  have pb : PSs X sts (tbW ok env μ b W Nx) := ⟨fun pins s σ H D I ⟨i, hi, hb, q⟩ => (hs i hi hb).run pins s σ H D I q⟩
  refine ps_imp (ps_while hp pc pb) fun D σ H ⟨F0, H0, F, g, S, q1, q2, q3, q4, q5⟩ => ?_
  refine ⟨fun m σ' H' => ∃ i F', ok i ∧ m = μ i ∧ Gr F0 H0 F' H' ∧ Sat H0 F' σ' H' (env i), ?_, ?_⟩
  · obtain ⟨i, hi, le⟩ := h0
    exact ⟨μ i, i, F, hi, rfl, g, S.le le⟩
  rintro m σ' H' ⟨i, F', hi, rfl, g', S'⟩
  refine ⟨i, hi, H0, F', S', fun H1 F1 g1 => ?_⟩
  have g2 := g'.trans g1
  have S2 := S'.gr g1
  cases e : b i with
  | false => exact q1 _ σ' H1 F1 (hd i hi e) g2 S2
  | true =>
    refine ⟨fun σ2 H2 => ∃ j F2, ok j ∧ μ j < μ i ∧ Gr F0 H0 F2 H2 ∧ Sat H0 F2 σ2 H2 (env j), fun σ2 H2 ⟨j, F2, a1, a2, a3, a4⟩ => ⟨μ j, a2, j, F2, a1, rfl, a3, a4⟩, ?_⟩
    have fin : ∀ ρ2 σ2 H2 F2, (∃ j, ok j ∧ μ j < μ i ∧ Le (env j) ρ2) → Gr F0 H0 F2 H2 → Sat H0 F2 σ2 H2 ρ2 → ∃ j F2, ok j ∧ μ j < μ i ∧ Gr F0 H0 F2 H2 ∧ Sat H0 F2 σ2 H2 (env j) := fun ρ2 σ2 H2 F2 ⟨j, a1, a2, le⟩ g3 S3 => ⟨j, F2, a1, a2, g3, S3.le le⟩
    exact ⟨i, hi, e, F0, H0, F1, g2, S2, fin, q2, q1, fin, q5⟩
end
end Lk

set_option Elab.async false
set_option linter.all false
set_option maxRecDepth 100000
set_option maxHeartbeats 4000000
namespace Lk
open PySem PySem.Calls L2
/-! ### k in d, as a value -/
section
variable {X : Cx} {o i : Expr} {ρ : List En} {k : Nat} {pos : Pos}
theorem ea_inN {l : List (NestedKey × As)} {ky : NestedKey} (hr : Room k X.A) (hi : EA X i ρ (nkA ky)) (ho : EA X o ρ (ndA X.w l)) (fd : Nk.Fd (l.map (·.1)) ky) (hm : behindInMarks .In o = false) : EA X (.Compare i [.In] [o] pos) ρ (bl (lookN l ky).isSome) :=
  pe_imp (pe_cmp (pc_nin (un9 hr) hi ho) hm) fun σ H Q ⟨H0, F, S, q⟩ => ⟨H0, F, S, fun y H1 F1 g1 hy => ⟨H0, F1, S.gr g1, fun v H2 F2 g2 ⟨a, ob, ev, h1, h2⟩ =>
    ⟨a, F2, l, ky, ob, ev, g2.i a _ h1, g2.i, h2, (nkA _).mono g2.f hy, fd, by simpa using q _ H2 F2 (g1.trans g2) rfl⟩⟩⟩
theorem ea_inI {l : List (Int × As)} {s : Int} (hr : Room k X.A) (hi : EW X i ρ (int s)) (ho : EA X o ρ (diA l)) (hm : behindInMarks .In o = false) : EA X (.Compare i [.In] [o] pos) ρ (bl (l.lookup s).isSome) :=
  pe_imp (pe_cmp (pc_din (hu_of hr) hi ho) hm) fun σ H Q ⟨H0, F, S, q⟩ => ⟨H0, F, S, fun y H1 F1 g1 hy => ⟨H0, F1, S.gr g1, fun v H2 F2 g2 ⟨p, vs, ev, h1, h2⟩ => by
    have hy : y = .int s := hy
    subst hy
    refine ⟨p, _, ev, dget_i (F := F2) s g2.i h1, ?_⟩
    have z : (valV ((l.map fun x => kI x.1).zip vs) (kI s)).isSome = (l.lookup s).isSome := by
      cases hl : l.lookup s with
      | none =>
        rw [valV_nozip (r := kI) kI_inj h2 hl]
        rfl
      | some A =>
        obtain ⟨u, hu, _⟩ := valV_zip (r := kI) kI_inj h2 hl
        rw [hu]; rfl
    rw [z]
    exact q _ H2 F2 (g1.trans g2) rfl⟩⟩
theorem look_isN {l : List (NestedKey × As)} {k : NestedKey} : (lookN l k).isSome = decide (k ∈ l.map (·.1)) := by
  unfold lookN
  induction l with
  | nil => simp
  | cons x l ih =>
    rw [Bool.eq_iff_iff]
    by_cases c : x.1 = k
    · simp [c]
    · simp only [List.find?_cons, c, decide_false, List.map_cons, List.mem_cons]
      rw [Bool.eq_iff_iff] at ih
      simp only [decide_eq_true_eq] at ih
      rw [ih, decide_eq_true_eq]
      exact ⟨.inr, fun h => h.elim (fun e => absurd e.symm c) id⟩
end
end Lk

set_option Elab.async false
set_option linter.all false
set_option maxRecDepth 100000
set_option maxHeartbeats 4000000
namespace Lk
open PySem PySem.Calls L2 PySem.Spec PyProof.Rows
/-! ### reversed(xs), xs a list or a tuple -/
theorem src_rv {K : PySem.W.Frag} {a : Addr} {xs : List V} : Src (Itv K a xs.length) xs.reverse (fun H => SqL K H a xs) := fun i H q => by
  have at_ : ∀ {i}, i < xs.length → xs.reverse[i]? = xs[xs.length - 1 - i]? := fun h => List.getElem?_reverse h
  refine ⟨fun x hx => ?_, fun h x H' y => ?_, fun z => ?_⟩
  · have hi : i < xs.length := by have := (List.getElem?_eq_some_iff.mp hx).1; simpa using this
    rw [at_ hi] at hx
    exact ⟨hi, xs, x, q, hx⟩
  · have hi : i < xs.length := by simpa using h
    rw [at_ hi]
    exact ⟨y.1, y.2 xs q⟩
  · rw [List.length_reverse] at z
    exact z
theorem src_rt {K : PySem.W.Frag} {a : Addr} {xs : List V} : Src (RT.ItvT K a xs.length) xs.reverse (fun H => SqT K H a xs) := fun i H q => by
  have at_ : ∀ {i}, i < xs.length → xs.reverse[i]? = xs[xs.length - 1 - i]? := fun h => List.getElem?_reverse h
  refine ⟨fun x hx => ?_, fun h x H' y => ?_, fun z => ?_⟩
  · have hi : i < xs.length := by have := (List.getElem?_eq_some_iff.mp hx).1; simpa using this
    rw [at_ hi] at hx
    exact ⟨hi, xs, x, q, hx⟩
  · have hi : i < xs.length := by simpa using h
    rw [at_ hi]
    exact ⟨y.1, y.2 xs q⟩
  · rw [List.length_reverse] at z
    exact z
theorem allV_rev {F : Hp} {xs : List V} {l : List As} (h : AllV F xs l) : AllV F xs.reverse l.reverse := by
  induction xs generalizing l with
  | nil => cases l with
    | nil => trivial
    | cons A l => exact h.elim
  | cons x xs ih => cases l with
    | nil => exact h.elim
    | cons A l =>
      rw [List.reverse_cons, List.reverse_cons]
      exact (ih h.2).snoc h.1
section
variable {X : Cx} {tg e st : Expr} {ρ : List En} {l : List As} {p pos p2 : Pos} {te : TE} {tk : TO}
theorem es_rev {q : Bool} (h : EA X e ρ (sq q l)) (hm : X.mg "reversed" = none) (hg : Gl X "reversed" := by rfl) (hs : starEach [e] X.env = (false, eval e X.env) :: starEach [] X.env := by rfl) : ES X tg (.Call (.Name "reversed" p) [e] [] pos) ρ l.reverse := by
  refine pi_imp (RT.pi_revA hg hm h hs) ?_
  rintro σ H R ⟨H0, F, S, k⟩
  refine ⟨H0, F, S, fun v H1 F1 g1 hv => ?_⟩
  cases q with
  | true =>
    obtain ⟨a, xs, ev, h1, h2⟩ := hv
    exact ⟨a, xs, ev, .inl ⟨SqL.of (g1.i a _ h1), k _ _ xs.reverse H1 F1 g1 (allV_rev h2) src_rv fun H' e => SqL.of (e a _ h1)⟩⟩
  | false =>
    obtain ⟨a, xs, ev, h1, h2⟩ := hv
    exact ⟨a, xs, ev, .inr ⟨SqT.of (g1.i a _ h1), k _ _ xs.reverse H1 F1 g1 (allV_rev h2) src_rt fun H' e => SqT.of (e a _ h1)⟩⟩
/-! ### xs[::-1] -/
def tRevS (K : PySem.W.Frag) (te : TE) (tk : TO) : TE := fun σ H Q => te σ H fun x H1 => tk σ H1 fun k H2 => k = some (-1) ∧ ∃ a xs, x = .ref a ∧ SqL K H2 a xs ∧ ∀ p, H2 p = none → Q (.ref p) (upd H2 p (.lst xs.reverse))
theorem vals_rev : ∀ {xs : List V} {us : List Value}, Vals xs us → Vals xs.reverse us.reverse
  | _, _, .nil => .nil
  | _, _, .cons r t => by
    rw [List.reverse_cons, List.reverse_cons]
    exact (vals_rev t).append (.cons r .nil)
theorem pe_sliceRev (he : PE X e te) (hk : PO X (some st) tk) : PE X (.Subscript e (.Slice none none (some st) p2) pos) (tRevS X.K te tk) := by
  refine ⟨fun pins s σ H Q I h => ?_⟩
  refine Subscript_ (thn (he.run pins s σ H _ I h) fun v s1 ⟨x, H1, I1, r1, q1⟩ => ?_)
  refine wpAny_Slice ?_
  rw [evalPart_none]
  refine wpAny_pure ?_
  refine wpAny_pure ?_
  refine thn (hk.run pins s1 σ H1 _ I1 q1) fun vk s3 ⟨u, H3, I3, pk, q3⟩ => ?_
  obtain ⟨rfl, a, xs, rfl, hx, q⟩ := q3
  obtain rfl : v = Value.ref a := r1
  have I4 : Inv X pins σ H3 { s3 with heap := s3.heap.push { cls := .type "slice", data := .fields #[.none, .none, vk] } } := I3.kept (t' := s3.toks) fun b ob q => Heap.get?_push_of_some _ q
  obtain ⟨its, r, ht, hz⟩ := I4.list hx
  have hlen := r.length
  show wpAny (model X.prog X.w) X.A (subscriptTail e (.Slice none none (some st) p2) (.ref a) (.ref s3.heap.objs.size)) (EP X pins σ Q) X.xe { s3 with heap := s3.heap.push { cls := .type "slice", data := .fields #[.none, .none, vk] } }
  refine tail_any (ops := [.ref a, .ref s3.heap.objs.size]) ht.isList.typeIs slot_list_getitem.lookup ?_ (by with_unfolding_all rfl)
  refine wpAny_getItem_list_slice ht.isList (Heap.IsSliceOf.new ..) .none .none pk (by simp) ?_ (by rw [List.size_toArray] <;> omega)
  rw [PySem.W.krv_pick]
  refine ⟨.ref _, _, I4.laid (t' := s3.toks) (o := .lst xs.reverse) (fun b ob q => Heap.get?_push_of_some _ q) (Nat.le_refl _) ?_, rfl, q _ (I4.hok.fresh (Nat.le_refl _))⟩
  exact ⟨by rw [List.length_reverse]; exact hz, _, 0, vals_rev r, Heap.get?_push_size _ rfl⟩
end
end Lk

set_option Elab.async false
set_option linter.all false
set_option maxRecDepth 100000
set_option maxHeartbeats 4000000
namespace Lk
open PySem PySem.Calls L2 PySem.Spec PyProof.Rows PySem.W
/-! ### a, *b = a list -/
section
variable {X : Cx} {pos pp : Pos}
def gSt (K : PySem.W.Frag) (t : TGs) : TG := fun v σ H Q => ∃ a x xs, v = .ref a ∧ SqL K H a (x :: xs) ∧ ∀ D, H D = none → t [x, .ref D] σ (upd H D (.lst xs)) Q
theorem pg_star {e1 e2 : Expr} {k : Nat} {t : TGs} (hc : X.calm = true) (h : PGs X [e1, e2] t) (hs : (assignEach [e1, .Starred e2 pp] X.env).map (·.2) = (assignEach [e1, e2] X.env).map (·.2) := by rfl)
    (hn : (assignEach [e1, .Starred e2 pp] X.env).length = 2 := by rfl) (hst : (assignEach [e1, .Starred e2 pp] X.env).findIdx? (·.1) = some 1 := by rfl) : PG X (.Tuple [e1, .Starred e2 pp] k pos) (gSt X.K t) := by
  refine ⟨fun pins s σ H v u Q I r hw => ?_⟩
  obtain ⟨a, x, xs, ev, hq, hw⟩ := hw
  subst ev
  cases r
  obtain ⟨its, rv, pl, hz⟩ := I.list hq
  obtain ⟨w0, ws, rfl, rx, rs⟩ : ∃ w0 ws, its = w0 :: ws ∧ RelV x w0 ∧ Vals xs ws := by
    cases rv with
    | cons r t => exact ⟨_, _, rfl, r, t⟩
  have hl := pl.isList
  have hlt : a ≠ s.heap.objs.size := by obtain ⟨o, ho, _⟩ := hl; exact Nat.ne_of_lt (Heap.lt_size ho)
  have hsz : (w0 :: ws).toArray.size = ws.length + 1 := by simp
  have hws := rs.length
  rw [PyProof.Rows.assign_Tuple]
  refine wpAny_bind (wpAny_standAt ?_)
  unfold unpack
  rw [hn, hst]
  refine wpAny_bind (wpAny_holding ?_)
  unfold unpackItems
  refine wpAny_bind ?_
  unfold notIterableAtAll
  refine wpAny_bind (wpAny_specialOf hl.typeIs slot_list_iter.lookup ?_)
  refine wpAny_pure ?_
  simp only [Bool.false_eq_true, if_false]
  refine wpAny_bind (wpAny_holding (wpAny_pyIter_list hl ?_))
  refine wpAny_bind (wpAny_holding (kun_draw hlt 1 0 _ _ ⟨_, Heap.get?_push_size _ rfl, rfl, rfl⟩ (hl.push _) (by rw [hsz]; omega) fun h₁ hit₁ hs₁ => ?_))
  have hl₁ : h₁.IsList a (w0 :: ws).toArray := (hl.push _).extBut hs₁.extBut hlt
  rw [Nat.zero_add] at hit₁
  have hit₁' := hit₁
  obtain ⟨oi, hoi, _⟩ := hit₁'
  have hl₁' := hl₁
  obtain ⟨ol, hol, _⟩ := hl₁'
  rw [List.drop_zero]
  rw [if_neg (show ¬ (((w0 :: ws).toArray.toList.take 1).length < 1) by simp)]
  refine wpAny_bind (wpAny_holding (kun_collect (s := { s with heap := h₁ }) (T := "list_iterator") (.inr (.inr (.inl rfl))) (Walks.list (A := X.A.in1) (I.ok.hd hc) s.heap.objs.size a hlt (w0 :: ws).toArray) (fun j u st => st.1.typeIs) (k := 1) (by rw [hsz]; omega) ⟨hit₁, hl₁⟩ (Heap.lt_size hoi) (Heap.lt_size hol) (fun h₂ tk hk => ?_) (by rw [hsz]; rw [List.length_cons] at hz; omega)))
  have hdr : (w0 :: ws).toArray.toList.drop 1 = ws := by simp
  rw [hdr]
  show wpAny _ _ (if ws.length < 2 - 1 - 1 then _ else _) _ _ _
  rw [if_neg (by omega)]
  show wpAny _ _ (newList (ws.take (ws.length - (2 - 1 - 1))) >>= fun d => pure ((w0 :: ws).toArray.toList.take 1 ++ [d] ++ ws.drop (ws.length - (2 - 1 - 1)))) _ _ _
  have e1' : ws.take (ws.length - (2 - 1 - 1)) = ws := by simp
  have e2' : ws.drop (ws.length - (2 - 1 - 1)) = [] := by simp
  rw [e1', e2']
  have I2 : Inv X pins σ H { s with heap := h₂, toks := tk } := I.kept (t' := tk) fun b o e => hk b o (Nat.ne_of_lt (Heap.lt_size e)) (hs₁.extBut b o (Nat.ne_of_lt (Heap.lt_size e)) (Heap.get?_push_of_some _ e))
  refine wpAny_bind (wpAny_newList (wpAny_pure ?_) (by rw [List.length_cons] at hz; omega))
  have hfr := I2.hok.fresh (Nat.le_refl ({ s with heap := h₂, toks := tk } : Shared).heap.objs.size)
  have I3 : Inv X pins σ (upd H h₂.objs.size (.lst xs)) { s with heap := h₂.push { cls := .type "list", data := .seq ws.toArray }, toks := tk } := I2.laid (t' := tk) (o := .lst xs) (fun b ob q => Heap.get?_push_of_some _ q) (Nat.le_refl _) ⟨by rw [List.length_cons] at hz; omega, ws, 0, rs, Heap.get?_push_size _ rfl⟩
  rw [hs]
  exact h.run pins _ σ _ [x, .ref h₂.objs.size] [w0, .ref h₂.objs.size] Q I3 (.cons rx (.cons rfl .nil)) (hw _ hfr)
end
end Lk

set_option Elab.async false
set_option linter.all false
set_option maxRecDepth 100000
set_option maxHeartbeats 4000000
namespace Lk
open PySem PySem.Calls L2 PySem.Spec PyProof.Rows
/-! ### x, *y = e, e a list that is not empty -/
section
variable {X : Cx} {e : Expr} {ρ : List En} {pos : Pos} {A : As} {l : List As} {Nx : List En → Prop} {W : Wn}
theorem sa_unpS (i j : Nat) {x y : Str} {px py pt pp : Pos} {kt : Nat} (hc : X.calm = true) (hN : X.N.Nodup) (he : EA X e ρ (lstA (A :: l))) (k : Nx ((ρ.set i (.fr A)).set j (.fr (lstA l)))) (hi : X.N[i]? = some x := by rfl) (hj : X.N[j]? = some y := by rfl)
    (hx : Loc X.env.scope x := by first | exact .inl rfl | exact .inr rfl) (hy : Loc X.env.scope y := by first | exact .inl rfl | exact .inr rfl) (hfx : X.fn x = true ∨ X.env.scope.names.lookup x = some .local := by first | exact .inl rfl | exact .inr rfl) (hfy : X.fn y = true ∨ X.env.scope.names.lookup y = some .local := by first | exact .inl rfl | exact .inr rfl)
    (hs : swapsWithSole [.Tuple [.Name x px, .Starred (.Name y py) pp] kt pt] e pos.line X.env = pure false := by rfl) (hw : swappedStores [.Tuple [.Name x px, .Starred (.Name y py) pp] kt pt] e X.env = pure none := by rfl)
    (h1 : (assignEach [.Tuple [.Name x px, .Starred (.Name y py) pp] kt pt] X.env).map (·.2) = [assign (.Tuple [.Name x px, .Starred (.Name y py) pp] kt pt) X.env] := by rfl)
    (hm : (assignEach [.Name x px, .Starred (.Name y py) pp] X.env).map (·.2) = (assignEach [.Name x px, .Name y py] X.env).map (·.2) := by rfl)
    (hn : (assignEach [.Name x px, .Starred (.Name y py) pp] X.env).length = 2 := by rfl) (hst : (assignEach [.Name x px, .Starred (.Name y py) pp] X.env).findIdx? (·.1) = some 1 := by rfl) : SA X (.Assign [.Tuple [.Name x px, .Starred (.Name y py) pp] kt pt] e pos) ρ Nx W :=
  ps_imp (ps_asg he (pg_star hc (pgs_cons (pg_name hN hi hx hfx) (pgs_cons (pg_name hN hj hy hfy) pgs_nil)) hm hn hst) hs hw h1) fun D σ H ⟨F0, H0, F, g, S, q, _⟩ => ⟨H0, F, S, fun v H' F' g' ⟨p, xs, ev, hp, hv⟩ => by
    match xs, hv with
    | u1 :: us, hv =>
      obtain ⟨v1, v2⟩ := hv
      refine ⟨p, u1, us, ev, SqL.of (g'.i p _ hp), fun D' hD => ?_⟩
      have gD : Gr F' H' (upd F' D' (.lst us)) (upd H' D' (.lst us)) := (Gr.newH (o := .lst us) g'.i hD).take hD (g'.i.none hD) upd_same
      refine ⟨u1, [.ref D'], rfl, .ref D', [], rfl, rfl, q _ _ _ _ k ((g.trans g').trans gD) ((((S.gr g').gr gD).set (A.mono gD.f v1)).set ?_)⟩
      exact ⟨D', us, rfl, upd_same, v2.mono gD.f⟩⟩
end
/-! ### for a, b in zip(x, y) -/
section
variable {α : Type} {X : Cx} {ρ : List En} {pos : Pos} {a b : Expr} {sts : List Stmt} {Nx : List En → Prop} {W : Wn} {l : List α} {e1 e2 : α → As}
def tbZ (I : Nat → List En → Prop) (l : List α) (j1 j2 : Nat) (e1 e2 : α → As) (W : Wn) (Nx : List En → Prop) : TS := fun D σ H => ∃ n x ρ', l[n]? = some x ∧ I n ρ' ∧ sA ((ρ'.set j1 (.fr (e1 x))).set j2 (.fr (e2 x))) (fun ρ2 => ∃ ρ3, I (n + 1) ρ3 ∧ Le ρ3 ρ2) { W with B := Nx, C := fun ρ2 => ∃ ρ3, I (n + 1) ρ3 ∧ Le ρ3 ρ2 } D σ H
theorem sa_forZ (j1 j2 : Nat) {x y : Str} {px py pt p zp : Pos} {kt : Nat} {la lb : List As} (I : Nat → List En → Prop) (hp : PassesOwn (model X.prog X.w) X.A X.env X.xe) (hc : X.calm = true) (hN : X.N.Nodup) (hm : X.mg "zip" = none) (ha : EAs X [a, b] ρ [lstA la, lstA lb])
    (h1 : ∀ (i : Nat) (z : α), l[i]? = some z → la[i]? = some (e1 z)) (h2 : ∀ (i : Nat) (z : α), l[i]? = some z → lb[i]? = some (e2 z)) (hl : la.length = l.length ∨ lb.length = l.length) (h0 : ∃ ρ0, I 0 ρ0 ∧ Le ρ0 ρ)
    (hs : ∀ n z ρ', l[n]? = some z → I n ρ' → BA X sts ((ρ'.set j1 (.fr (e1 z))).set j2 (.fr (e2 z))) (fun ρ2 => ∃ ρ3, I (n + 1) ρ3 ∧ Le ρ3 ρ2) { W with B := Nx, C := fun ρ2 => ∃ ρ3, I (n + 1) ρ3 ∧ Le ρ3 ρ2 })
    (hd : ∀ ρ', I l.length ρ' → Nx ρ') (hi : X.N[j1]? = some x := by rfl) (hj : X.N[j2]? = some y := by rfl)
    (hx : Loc X.env.scope x := by first | exact .inl rfl | exact .inr rfl) (hy : Loc X.env.scope y := by first | exact .inl rfl | exact .inr rfl) (hfx : X.fn x = true ∨ X.env.scope.names.lookup x = some .local := by first | exact .inl rfl | exact .inr rfl) (hfy : X.fn y = true ∨ X.env.scope.names.lookup y = some .local := by first | exact .inl rfl | exact .inr rfl)
    (hg : Gl X "zip" := by rfl) (hfo : ∀ z, foldedSetIterable (.Call (.Name "zip" p) [a, b] [] zp) X.env z = pure z := by intro _; rfl) (hst : starEach [a, b] X.env = (false, eval a X.env) :: starEach [b] X.env := by rfl) (hpl : (backTo zp (starEach [b] X.env)).any (·.1) = false := by rfl)
    (hn : (assignEach [.Name x px, .Name y py] X.env).length = 2 := by rfl) (hsti : (assignEach [.Name x px, .Name y py] X.env).findIdx? (·.1) = none := by rfl) :
    SA X (.For (.Tuple [.Name x px, .Name y py] kt pt) (.Call (.Name "zip" p) [a, b] [] zp) sts [] pos) ρ Nx W := by
  have hb : PSs X sts (tbZ I l j1 j2 e1 e2 W Nx) := ⟨fun pins s σ H D I' ⟨n, A, ρ', h1, h2, q⟩ => (hs n A ρ' h1 h2).run pins s σ H D I' q⟩
  refine ps_imp (ps_for hp hc (pi_zip (elts := [.Name x px, .Name y py]) (kk := kt) (tpos := pt) hg hm ha hst hpl) (pg_tup hc (pgs_cons (pg_name hN hi hx hfx) (pgs_cons (pg_name hN hj hy hfy) pgs_nil)) hn hsti) hb hfo) fun D σ H ⟨F0, H0, F, g, S, q1, q2, q3, q4, q5⟩ => ?_
  refine ⟨H0, F, S, fun us H1 F1 g1 hu => ?_⟩
  match us, hu with
  | [v1, v2], ⟨hA, hB, _⟩ =>
  obtain ⟨a1, xs, rfl, fx, hx2⟩ := hA
  obtain ⟨a2, ys, rfl, fy, hy2⟩ := hB
  refine ⟨a1, a2, xs, ys, rfl, SqL.of (g1.i a1 _ fx), SqL.of (g1.i a2 _ fy), ?_⟩
  have gA := g.trans g1
  have lx := hx2.length
  have ly := hy2.length
  have le1 : l.length ≤ la.length := by
    by_cases h : l.length = 0
    · omega
    · have z := h1 (l.length - 1) l[l.length - 1] (List.getElem?_eq_getElem (by omega))
      have := (List.getElem?_eq_some_iff.mp z).1
      omega
  have le2 : l.length ≤ lb.length := by
    by_cases h : l.length = 0
    · omega
    · have z := h2 (l.length - 1) l[l.length - 1] (List.getElem?_eq_getElem (by omega))
      have := (List.getElem?_eq_some_iff.mp z).1
      omega
  let Pv : Nat → L2.St → Hp → Prop := fun n σ' H' => ∃ ρ' F', I n ρ' ∧ Gr F0 H0 F' H' ∧ Ex F1 F' ∧ Sat H0 F' σ' H' ρ'
  refine ⟨fun n m σ' H' => m = l.length - n ∧ n ≤ l.length ∧ Pv n σ' H', ⟨l.length, by simp, Nat.zero_le _, ?_⟩, ?_⟩
  · obtain ⟨ρ0, i0, le⟩ := h0
    exact ⟨ρ0, F1, i0, gA, Ex.refl F1, (S.gr g1).le le⟩
  rintro n m σ' H' ⟨rfl, hn', ρ', F', hI, g', x', S'⟩
  have qx : SqL X.K H' a1 xs := SqL.of (g'.i a1 _ (x' a1 _ fx))
  have qy : SqL X.K H' a2 ys := SqL.of (g'.i a2 _ (x' a2 _ fy))
  by_cases hlt : n < l.length
  · have ha : l[n]? = some l[n] := List.getElem?_eq_getElem hlt
    obtain ⟨u1, hu1, hA1⟩ := hx2.get (i := n) (h1 n _ ha)
    obtain ⟨u2, hu2, hA2⟩ := hy2.get (i := n) (h2 n _ ha)
    refine .inr ⟨⟨xs, ys, u1, u2, qx, qy, hu1, hu2⟩, Pv (n + 1), fun σ2 H2 p => ⟨l.length - (n + 1), by omega, rfl, hlt, p⟩, fun v H2 yl => ?_⟩
    obtain ⟨T, w1, w2, rfl, hT, rfl, f1, f2⟩ := yl
    have e1' : u1 = w1 := by have z := f1 xs qx; rw [hu1] at z; simpa using z
    have e2' : u2 = w2 := by have z := f2 ys qy; rw [hu2] at z; simpa using z
    subst e1' e2'
    have gT : Gr F' H' F' (upd H' T (.tup [u1, u2])) := .newH g'.i hT
    refine ⟨T, [u1, u2], rfl, SqT.of upd_same, rfl, u1, [u2], rfl, u2, [], rfl, rfl, ?_⟩
    have fin : ∀ ρ2 σ2 H2 F2, (∃ ρ3, I (n + 1) ρ3 ∧ Le ρ3 ρ2) → Gr F0 H0 F2 H2 → Ex F' F2 → Sat H0 F2 σ2 H2 ρ2 → Pv (n + 1) σ2 H2 := fun ρ2 σ2 H2 F2 ⟨ρ3, i3, le⟩ g2 x2 S2 => ⟨ρ3, F2, i3, g2, x'.trans x2, S2.le le⟩
    have gN := g'.trans gT
    refine ⟨n, l[n], ρ', ha, hI, F', H0, F', ?_, ((S'.gr gT).set ((e1 l[n]).mono x' hA1)).set ((e2 l[n]).mono x' hA2), ?_, ?_, ?_, ?_, ?_⟩
    · exact ⟨Ex.refl F', gN.h, gN.i, fun a o z1 z2 => z2⟩
    · intro ρ2 σ2 H2 F2 hm g2 S2
      exact fin ρ2 σ2 H2 F2 hm ⟨g'.f.trans g2.f, g2.h, g2.i, fun a o z1 z2 => g2.n a o z1 (g'.n a o z1 z2)⟩ g2.f S2
    · intro v H2 F2 g2 hv
      exact q2 v H2 F2 ⟨g'.f.trans g2.f, g2.h, g2.i, fun a o z1 z2 => g2.n a o z1 (g'.n a o z1 z2)⟩ hv
    · intro ρ2 σ2 H2 F2 hm g2 S2
      exact q1 ρ2 σ2 H2 F2 hm ⟨g'.f.trans g2.f, g2.h, g2.i, fun a o z1 z2 => g2.n a o z1 (g'.n a o z1 z2)⟩ S2
    · intro ρ2 σ2 H2 F2 hm g2 S2
      exact fin ρ2 σ2 H2 F2 hm ⟨g'.f.trans g2.f, g2.h, g2.i, fun a o z1 z2 => g2.n a o z1 (g'.n a o z1 z2)⟩ g2.f S2
    · intro cls d ρ2 σ2 H2 F2 he g2 S2
      exact q5 cls d ρ2 σ2 H2 F2 he ⟨g'.f.trans g2.f, g2.h, g2.i, fun a o z1 z2 => g2.n a o z1 (g'.n a o z1 z2)⟩ S2
  · have e : n = l.length := by omega
    subst e
    exact .inl ⟨⟨xs, ys, qx, qy, by omega⟩, q1 ρ' σ' H' F' (hd ρ' hI) g' S'⟩
end
/-! ### xs[::-1] as a new list -/
section
variable {X : Cx} {e st : Expr} {ρ : List En} {l : List As} {pos p2 : Pos}
theorem en_revS (h : EL X e ρ l) (hk : EW X st ρ (int (-1))) : EN X (.Subscript e (.Slice none none (some st) p2) pos) ρ l.reverse :=
  pe_imp (pe_sliceRev h (eo_some hk)) fun σ H Q ⟨H0, F, S, k⟩ => ⟨H0, F, S, fun a xs H1 F1 g1 h1 h2 => ⟨H0, F1, S.gr g1, fun H2 F2 g2 => ⟨rfl, a, xs, rfl, SqL.of (g2.h a _ h1), fun p hp => k p xs.reverse _ F2 ((g1.trans g2).trans (.newH g2.i hp)) ((g1.trans g2).h.none hp) (g2.i.none hp) upd_same (allV_rev (h2.mono g2.f))⟩⟩⟩
end
end Lk

set_option Elab.async false
set_option linter.all false
set_option maxRecDepth 100000
set_option maxHeartbeats 4000000
namespace Lk
open PySem PySem.Calls L2 PySem.Spec PyProof.Rows
section
variable {X : Cx} {tg a : Expr} {ρ : List En} {p1 p2 : Pos}
theorem es_rng1 {n : Nat} (hm : X.mg "range" = none) (h : EA X a ρ (int (n : Int))) (hn : n ≤ 1000000) (hg : Gl X "range" := by rfl) (hs : starEach [a] X.env = [(false, eval a X.env)] := by rfl) : ES X tg (.Call (.Name "range" p1) [a] [] p2) ρ ((List.range n).map nat) :=
  pi_imp (pi_range1 hg hm (pa_cons h pa_nil hs) hs) fun σ H R ⟨H0, F, S, k⟩ => ⟨H0, F, S, fun v H1 F1 g1 h1 => by
    have h1 : v = .int n := h1
    subst h1
    refine ⟨n, rfl, by omega, by omega, ?_⟩
    rw [Int.toNat_natCast]
    refine k _ (fun _ => True) ((List.range n).map fun k : Nat => V.int (k : Int)) H1 F1 g1 ?_ ?_ fun _ _ => trivial
    · have q := AllV.of_scs (F := F1) (cs := (List.range n).map fun k : Nat => V.int (k : Int))
      rw [List.map_map] at q
      exact q
    · refine fun m H _ => ⟨fun x hx => ?_, fun hm x H' y => ?_, fun z => ?_⟩
      · have z := (List.getElem?_eq_some_iff.mp hx).1
        rw [List.length_map, List.length_range] at z
        exact z
      · rw [List.length_map, List.length_range] at hm
        refine ⟨y.1, ?_⟩
        rw [List.getElem?_map, List.getElem?_range hm, y.2]
        simp
      · rw [List.length_map, List.length_range] at z
        exact z⟩
end
end Lk

set_option Elab.async false
set_option linter.all false
set_option maxRecDepth 100000
set_option maxHeartbeats 4000000
namespace Lk
open PySem PySem.Calls L2
section
variable {X : Cx} {e o i : Expr} {ρ : List En} {l : List As} {pos : Pos} {Nx : List En → Prop} {W : Wn} {Fs : Hp} {k : Nat}
/-- return x, x a list of one's own, in a def whose answer is a new list -/
theorem sa_retOwn (j : Nat) (hi : ρ[j]? = some (.own l)) (hv : PE X e (tVar j)) (hR : W.R = lstN Fs l) (hF : ∃ (i0 : Nat) (B0 : As), ρ[i0]? = some (En.fr (atA Fs B0))) : SA X (.Return (some e) pos) ρ Nx W :=
  ps_imp (ps_ret hv) fun D σ H ⟨F0, H0, F, g, S, q1, q2, _⟩ => by
    obtain ⟨i0, B0, hi0⟩ := hF
    obtain ⟨_, _, hFs, _⟩ := S.fr i0 _ hi0
    obtain ⟨p, xs, h1, h2, h3, h4, h5⟩ := S.own j _ hi
    refine ⟨_, h1, q2 _ H (upd F p (.lst xs)) (g.take h3 h2 h4) ?_⟩
    rw [hR]
    exact ⟨p, xs, rfl, upd_same, hFs.none h2, h5.mono (Ex.new h2)⟩
theorem et_notinI {l : List (Int × As)} {s : Int} (hr : Room k X.A) (hi : EW X i ρ (int s)) (ho : EA X o ρ (diA l)) (hm : behindInMarks .NotIn o = false) : ET X (.Compare i [.NotIn] [o] pos) ρ (!(l.lookup s).isSome) :=
  pt_imp (pt_cmp (pc_dnotin (hu_of hr) hi ho) hm) fun σ H Q ⟨H0, F, S, q⟩ => ⟨H0, F, S, fun y H1 F1 g1 hy => ⟨H0, F1, S.gr g1, fun v H2 F2 g2 ⟨p, vs, ev, h1, h2⟩ => by
    have hy : y = .int s := hy
    subst hy
    refine ⟨p, _, ev, dget_i (F := F2) s g2.i h1, ?_⟩
    have z : (valV ((l.map fun x => kI x.1).zip vs) (kI s)).isSome = (l.lookup s).isSome := by
      cases hl : l.lookup s with
      | none =>
        rw [valV_nozip (r := kI) kI_inj h2 hl]
        rfl
      | some A =>
        obtain ⟨u, hu, _⟩ := valV_zip (r := kI) kI_inj h2 hl
        rw [hu]; rfl
    rw [z]
    exact ⟨_, rfl, q H2 F2 (g1.trans g2)⟩⟩⟩
end
end Lk

set_option Elab.async false
set_option linter.all false
set_option maxRecDepth 100000
set_option maxHeartbeats 4000000
namespace Lk
open PySem PySem.Calls L2 PySem.Spec PyProof.Rows
/-! ### zip(a tuple, a list) -/
def ItzM (K : PySem.W.Frag) (a b : Addr) : It where
  go i H := ∃ (xs ys : List V) (x y : V), SqT K H a xs ∧ SqL K H b ys ∧ xs[i]? = some x ∧ ys[i]? = some y
  yld i H v H' := ∃ T x y, v = .ref T ∧ H T = none ∧ H' = upd H T (.tup [x, y]) ∧ (∀ xs, SqT K H a xs → xs[i]? = some x) ∧ ∀ ys, SqL K H b ys → ys[i]? = some y
  stop i H := ∃ xs ys : List V, SqT K H a xs ∧ SqL K H b ys ∧ i ≤ xs.length ∧ i ≤ ys.length ∧ (i = xs.length ∨ i = ys.length)
/-- the cells of the zip and of its two iterators -/
abbrev zipCells (z TI TO i1 i2 : Addr) : List Addr := [z, TI, TO, i1, i2]
structure ZmAt (z TI TO i1 i2 a b : Addr) (i : Nat) (h : Heap) : Prop where
  z : IsZip h z TI TO .none
  ti : IsTupOf2 h TI (.ref i1) (.ref i2)
  to : ∃ x y, IsTupOf2 h TO x y
  n1 : h.IsTupleIter i1 a i
  n2 : h.IsListIter i2 b i
theorem turn_zipM {P : Program} {w : World} {K : PySem.W.Frag} {elts : List Expr} {kk : Nat} {tpos : Pos} {a b z TI TO i1 i2 : Addr} (D : ZipSep2 z TI TO i1 i2 [i1, a] [i2, b]) (ha : a ≠ i1) (hb : b ≠ i2) :
    Turn P w K (.Tuple elts kk tpos) (ItzM K a b) (zipCells z TI TO i1 i2) z (ZmAt z TI TO i1 i2 a b) := by
  have cells : ∀ {c}, c ∈ zipCells z TI TO i1 i2 → c = z ∨ c = TI ∨ c = TO ∨ c = i1 ∨ c = i2 := fun h => by simpa using h
  refine ⟨by simp, ?_, ?_, ?_, ?_, fun A i s Q E st h => wpAny_pyIter_zip st.z h⟩
  · intro i h st c hc
    obtain ⟨hz, hTI, ⟨x, y, hTO⟩, ⟨o1, e1, _, d1⟩, ⟨o2, e2, _, d2⟩⟩ := st
    rcases cells hc with rfl | rfl | rfl | rfl | rfl
    · exact ⟨_, hz, fun v q => nomatch q⟩
    · exact ⟨_, hTI, fun v q => nomatch q⟩
    · exact ⟨_, hTO, fun v q => nomatch q⟩
    · exact ⟨o1, e1, fun v q => by rw [d1] at q; cases q⟩
    · exact ⟨o2, e2, fun v q => by rw [d2] at q; cases q⟩
  · intro i h h' st k
    obtain ⟨x, y, hTO⟩ := st.to
    exact ⟨k z (by simp) _ st.z, k TI (by simp) _ st.ti, ⟨x, y, k TO (by simp) _ hTO⟩, st.n1.at fun o q => k i1 (by simp) o q, st.n2.at fun o q => k i2 (by simp) o q⟩
  · intro X hP hw hK hc i pins s σ H E I hf st hg
    subst hP hw hK
    obtain ⟨xs, ys, x, y, hqx, hqy, hx, hy⟩ := hg
    obtain ⟨its, rv, p, _⟩ := I.tuple hqx
    obtain ⟨its2, rv2, p2, _⟩ := I.list hqy
    obtain ⟨u, hu, ru⟩ := rv.get hx
    obtain ⟨u2, hu2, ru2⟩ := rv2.get hy
    obtain ⟨x0, y0, hTO⟩ := st.to
    have hzl : z < s.heap.objs.size := Heap.lt_size st.z
    have lt1 : i < its.toArray.size := by have := (List.getElem?_eq_some_iff.mp hu).1; simpa using this
    have lt2 : i < its2.toArray.size := by have := (List.getElem?_eq_some_iff.mp hu2).1; simpa using this
    refine wpAny_pyNext_zipD2_item D (Draws.tuple (A := X.A.in1) (I.ok.hd hc) i1 a ha its.toArray) (Draws.list (A := X.A.in1) (I.ok.hd hc) i2 b hb its2.toArray) st.z st.ti hTO ⟨st.n1, show s.heap.IsTuple a its.toArray from p⟩ ⟨st.n2, p2.isList⟩ lt1 lt2 fun w1 w2 h' tk e1 e2 z' TO' s1' s2' hT hsz hk => ?_
    obtain rfl : u = w1 := by
      have e1 : its.toArray[i]? = some w1 := e1
      rw [List.getElem?_toArray, hu] at e1
      exact Option.some.inj e1
    obtain rfl : u2 = w2 := by
      have e2 : its2.toArray[i]? = some w2 := e2
      rw [List.getElem?_toArray, hu2] at e2
      exact Option.some.inj e2
    refine ⟨_, rfl, wpAny_letOwnedTupleGo_zip (s := { s with heap := h', toks := tk }) z' fun h'' z'' sb => ?_⟩
    have hT2 : h''.get? s.heap.objs.size = some { cls := .type "tuple", data := .seq #[u, u2] } := (sb.2 _ (Nat.ne_of_gt hzl)).trans hT
    have new : ObjOk X.prog X.w (upd H s.heap.objs.size (.tup [x, y])) h'' s.heap.objs.size (.tup [x, y]) :=
      ⟨by show 2 ≤ sizeLine; decide, [u, u2], .cons ru (.cons ru2 .nil), ⟨_, hT2, rfl, _, rfl⟩⟩
    have I1 : Inv X pins σ (upd H s.heap.objs.size (.tup [x, y])) { s with heap := h'', toks := tk } :=
      I.turnedNew (t' := tk) (ch := zipCells z TI TO i1 i2) (fun c o hb q => (sb.2 c (fun q' => hb (by simp [q']))).trans (hk c o (fun q' => hb (by simp [q'])) (fun q' => hb (by simp [q'])) (fun q' => hb (by simp [q'])) (fun q' => hb (by simp [q'])) q)) hf (Nat.le_refl _) new
    have i1z : i1 ≠ z := fun e => D.zf1 (by rw [← e]; exact D.mem1)
    have i2z : i2 ≠ z := fun e => D.zf2 (by rw [← e]; exact D.mem2)
    refine ⟨.ref s.heap.objs.size, _, I1, rfl, ⟨_, x, y, rfl, I.hok.fresh (Nat.le_refl _), rfl, fun l hl => by rw [I.tuple_inj hl hqx]; exact hx, fun l hl => by rw [I.list_inj hl hqy]; exact hy⟩, ⟨z'', ?_, ⟨u, u2, ?_⟩, ?_, ?_⟩, fun c hcm => ?_⟩
    · exact (sb.2 _ D.TIz).trans (hk _ _ D.TIz D.TITO D.TIi1 D.TIi2 st.ti)
    · exact (sb.2 _ D.TOz).trans TO'
    · exact s1'.1.at fun o q => (sb.2 _ i1z).trans q
    · exact s2'.1.at fun o q => (sb.2 _ i2z).trans q
    · have hlt : c < s.heap.objs.size := by
        rcases cells hcm with rfl | rfl | rfl | rfl | rfl
        · exact hzl
        · exact Heap.lt_size st.ti
        · exact Heap.lt_size hTO
        · obtain ⟨_, e1, _⟩ := st.n1; exact Heap.lt_size e1
        · obtain ⟨_, e2, _⟩ := st.n2; exact Heap.lt_size e2
      rw [upd_ne (Nat.ne_of_lt hlt)]
      exact (hf c hcm).1
  · intro X hP hw hK hc i pins s σ H E I hf st hg
    subst hP hw hK
    obtain ⟨xs, ys, hqx, hqy, k1, k2, hend⟩ := hg
    obtain ⟨its, rv, p, _⟩ := I.tuple hqx
    obtain ⟨its2, rv2, p2, _⟩ := I.list hqy
    obtain ⟨x0, y0, hTO⟩ := st.to
    have l1 : its.toArray.size = xs.length := by rw [List.size_toArray]; exact rv.length.symm
    have l2 : its2.toArray.size = ys.length := by rw [List.size_toArray]; exact rv2.length.symm
    exact wpAny_pyNext_zipD2_end D (Draws.tuple (A := X.A.in1) (I.ok.hd hc) i1 a ha its.toArray) (Draws.list (A := X.A.in1) (I.ok.hd hc) i2 b hb its2.toArray) st.z st.ti hTO ⟨st.n1, show s.heap.IsTuple a its.toArray from p⟩ ⟨st.n2, p2.isList⟩ (by rw [l1]; exact k1) (by rw [l2]; exact k2) (by rw [l1, l2]; exact hend) fun h' tk hk => ⟨rfl, I.turnedL (t' := tk) (ch := zipCells z TI TO i1 i2) (fun c o hb q =>
      hk c o (fun q' => hb (by simp [q'])) (fun q' => hb (by simp [q'])) (fun q' => hb (by simp [q'])) (fun q' => hb (by simp [q'])) q) hf⟩
def iZipM (K : PySem.W.Frag) (ta : TA) : TI := fun σ H R => ta σ H fun vs H1 => ∃ a b xs ys, vs = [.ref a, .ref b] ∧ SqT K H1 a xs ∧ SqL K H1 b ys ∧ R (ItzM K a b) H1
theorem pi_zipM {X : Cx} {e e2 : Expr} {ta : TA} {p pos tpos : Pos} {elts : List Expr} {kk : Nat} (hg : Gl X "zip") (hm : X.mg "zip" = none) (ha : PA X [e, e2] ta)
    (hs : starEach [e, e2] X.env = (false, eval e X.env) :: starEach [e2] X.env := by rfl) (hpl : (backTo pos (starEach [e2] X.env)).any (·.1) = false := by rfl) :
    PI X (.Tuple elts kk tpos) (.Call (.Name "zip" p) [e, e2] [] pos) (iZipM X.K ta) := by
  refine ⟨fun pins s σ H R I h => ?_⟩
  refine Call_ (ld_blt I hg hm PyProof.Rows.boot_zip (PyProof.Rows.callWith_type1 (thn (ha.run pos pins s σ H _ I h) fun us s1 ⟨vs, H1, I1, r1, q1⟩ => ?_) hs hpl))
  obtain ⟨a, b, xs, ys, rfl, hqx, hqy, q⟩ := q1
  obtain ⟨v1, v2, rfl, e1, e2⟩ : ∃ v1 v2, us = [v1, v2] ∧ v1 = Value.ref a ∧ v2 = Value.ref b := by
    cases r1 with
    | cons r rr =>
      cases rr with
      | cons r' rr =>
        cases rr
        exact ⟨_, _, rfl, r, r'⟩
  subst e1 e2
  obtain ⟨its, rv, p1, _⟩ := I1.tuple hqx
  obtain ⟨its2, rv2, p2, _⟩ := I1.list hqy
  have la : a < s1.heap.objs.size := by obtain ⟨o, ho, _⟩ := id p1; exact Heap.lt_size ho
  have lb : b < s1.heap.objs.size := p2.lt
  refine zip_begins2 (begins_tuple a its.toArray) (begins_list b its2.toArray) (show s1.heap.IsTuple a its.toArray from p1) p2.isList fun h' hz hTI hTO g1 g2 hsz hk => wpAny_pyIter_zip hz ?_
  have I2 : Inv X pins σ H1 { s1 with heap := h' } := I1.kept (t' := s1.toks) hk
  refine ⟨s1.heap.objs.size + 4, zipCells (s1.heap.objs.size + 4) (s1.heap.objs.size + 2) (s1.heap.objs.size + 3) s1.heap.objs.size (s1.heap.objs.size + 1), _, _, H1, rfl, I2, turn_zipM (zip_sep2 (fp1 := [a]) (fp2 := [b]) (fun c hc => by rw [List.mem_singleton.mp hc]; exact la) (fun c hc => by rw [List.mem_singleton.mp hc]; exact lb)) (Nat.ne_of_lt la) (Nat.ne_of_lt (Nat.lt_succ_of_lt lb)), ⟨hz, hTI, ⟨_, _, hTO⟩, ⟨_, g1, rfl, rfl⟩, ⟨_, g2, rfl, rfl⟩⟩, fun c hcm => ?_, q⟩
  have hle : s1.heap.objs.size ≤ c := by
    have e' : c = s1.heap.objs.size + 4 ∨ c = s1.heap.objs.size + 2 ∨ c = s1.heap.objs.size + 3 ∨ c = s1.heap.objs.size ∨ c = s1.heap.objs.size + 1 := by simpa using hcm
    rcases e' with z | z | z | z | z
    · rw [z]; exact Nat.le_add_right _ _
    · rw [z]; exact Nat.le_add_right _ _
    · rw [z]; exact Nat.le_add_right _ _
    · rw [z]; exact Nat.le_refl _
    · rw [z]; exact Nat.le_add_right _ _
  exact I1.fpOk hle (I1.hok.fresh hle)
end Lk

set_option Elab.async false
set_option linter.all false
set_option maxRecDepth 100000
set_option maxHeartbeats 4000000
namespace Lk
open PySem PySem.Calls L2 PySem.Spec PyProof.Rows
/-! ### for a, b in zip(x, y), x a tuple or a list, y a list -/
section
variable {α : Type} {X : Cx} {ρ : List En} {pos : Pos} {a b : Expr} {sts : List Stmt} {Nx : List En → Prop} {W : Wn} {l : List α} {e1 e2 : α → As}
theorem sa_forZT (j1 j2 : Nat) {x y : Str} {px py pt p zp : Pos} {kt : Nat} {la lb : List As} (I : Nat → List En → Prop) (hp : PassesOwn (model X.prog X.w) X.A X.env X.xe) (hc : X.calm = true) (hN : X.N.Nodup) (hm : X.mg "zip" = none) (ha : EAs X [a, b] ρ [tupA la, lstA lb])
    (h1 : ∀ (i : Nat) (z : α), l[i]? = some z → la[i]? = some (e1 z)) (h2 : ∀ (i : Nat) (z : α), l[i]? = some z → lb[i]? = some (e2 z)) (hl : la.length = l.length ∨ lb.length = l.length) (h0 : ∃ ρ0, I 0 ρ0 ∧ Le ρ0 ρ)
    (hs : ∀ n z ρ', l[n]? = some z → I n ρ' → BA X sts ((ρ'.set j1 (.fr (e1 z))).set j2 (.fr (e2 z))) (fun ρ2 => ∃ ρ3, I (n + 1) ρ3 ∧ Le ρ3 ρ2) { W with B := Nx, C := fun ρ2 => ∃ ρ3, I (n + 1) ρ3 ∧ Le ρ3 ρ2 })
    (hd : ∀ ρ', I l.length ρ' → Nx ρ') (hi : X.N[j1]? = some x := by rfl) (hj : X.N[j2]? = some y := by rfl)
    (hx : Loc X.env.scope x := by first | exact .inl rfl | exact .inr rfl) (hy : Loc X.env.scope y := by first | exact .inl rfl | exact .inr rfl) (hfx : X.fn x = true ∨ X.env.scope.names.lookup x = some .local := by first | exact .inl rfl | exact .inr rfl) (hfy : X.fn y = true ∨ X.env.scope.names.lookup y = some .local := by first | exact .inl rfl | exact .inr rfl)
    (hg : Gl X "zip" := by rfl) (hfo : ∀ z, foldedSetIterable (.Call (.Name "zip" p) [a, b] [] zp) X.env z = pure z := by intro _; rfl) (hst : starEach [a, b] X.env = (false, eval a X.env) :: starEach [b] X.env := by rfl) (hpl : (backTo zp (starEach [b] X.env)).any (·.1) = false := by rfl)
    (hn : (assignEach [.Name x px, .Name y py] X.env).length = 2 := by rfl) (hsti : (assignEach [.Name x px, .Name y py] X.env).findIdx? (·.1) = none := by rfl) :
    SA X (.For (.Tuple [.Name x px, .Name y py] kt pt) (.Call (.Name "zip" p) [a, b] [] zp) sts [] pos) ρ Nx W := by
  have hb : PSs X sts (tbZ I l j1 j2 e1 e2 W Nx) := ⟨fun pins s σ H D I' ⟨n, A, ρ', h1, h2, q⟩ => (hs n A ρ' h1 h2).run pins s σ H D I' q⟩
  refine ps_imp (ps_for hp hc (pi_zipM (elts := [.Name x px, .Name y py]) (kk := kt) (tpos := pt) hg hm ha hst hpl) (pg_tup hc (pgs_cons (pg_name hN hi hx hfx) (pgs_cons (pg_name hN hj hy hfy) pgs_nil)) hn hsti) hb hfo) fun D σ H ⟨F0, H0, F, g, S, q1, q2, q3, q4, q5⟩ => ?_
  refine ⟨H0, F, S, fun us H1 F1 g1 hu => ?_⟩
  match us, hu with
  | [v1, v2], ⟨hA, hB, _⟩ =>
  obtain ⟨a1, xs, rfl, fx, hx2⟩ := hA
  obtain ⟨a2, ys, rfl, fy, hy2⟩ := hB
  refine ⟨a1, a2, xs, ys, rfl, SqT.of (g1.i a1 _ fx), SqL.of (g1.i a2 _ fy), ?_⟩
  have gA := g.trans g1
  have lx := hx2.length
  have ly := hy2.length
  have le1 : l.length ≤ la.length := by
    by_cases h : l.length = 0
    · omega
    · have z := h1 (l.length - 1) l[l.length - 1] (List.getElem?_eq_getElem (by omega))
      have := (List.getElem?_eq_some_iff.mp z).1
      omega
  have le2 : l.length ≤ lb.length := by
    by_cases h : l.length = 0
    · omega
    · have z := h2 (l.length - 1) l[l.length - 1] (List.getElem?_eq_getElem (by omega))
      have := (List.getElem?_eq_some_iff.mp z).1
      omega
  let Pv : Nat → L2.St → Hp → Prop := fun n σ' H' => ∃ ρ' F', I n ρ' ∧ Gr F0 H0 F' H' ∧ Ex F1 F' ∧ Sat H0 F' σ' H' ρ'
  refine ⟨fun n m σ' H' => m = l.length - n ∧ n ≤ l.length ∧ Pv n σ' H', ⟨l.length, by simp, Nat.zero_le _, ?_⟩, ?_⟩
  · obtain ⟨ρ0, i0, le⟩ := h0
    exact ⟨ρ0, F1, i0, gA, Ex.refl F1, (S.gr g1).le le⟩
  rintro n m σ' H' ⟨rfl, hn', ρ', F', hI, g', x', S'⟩
  have qx : SqT X.K H' a1 xs := SqT.of (g'.i a1 _ (x' a1 _ fx))
  have qy : SqL X.K H' a2 ys := SqL.of (g'.i a2 _ (x' a2 _ fy))
  by_cases hlt : n < l.length
  · have ha : l[n]? = some l[n] := List.getElem?_eq_getElem hlt
    obtain ⟨u1, hu1, hA1⟩ := hx2.get (i := n) (h1 n _ ha)
    obtain ⟨u2, hu2, hA2⟩ := hy2.get (i := n) (h2 n _ ha)
    refine .inr ⟨⟨xs, ys, u1, u2, qx, qy, hu1, hu2⟩, Pv (n + 1), fun σ2 H2 p => ⟨l.length - (n + 1), by omega, rfl, hlt, p⟩, fun v H2 yl => ?_⟩
    obtain ⟨T, w1, w2, rfl, hT, rfl, f1, f2⟩ := yl
    have e1' : u1 = w1 := by have z := f1 xs qx; rw [hu1] at z; simpa using z
    have e2' : u2 = w2 := by have z := f2 ys qy; rw [hu2] at z; simpa using z
    subst e1' e2'
    have gT : Gr F' H' F' (upd H' T (.tup [u1, u2])) := .newH g'.i hT
    refine ⟨T, [u1, u2], rfl, SqT.of upd_same, rfl, u1, [u2], rfl, u2, [], rfl, rfl, ?_⟩
    have fin : ∀ ρ2 σ2 H2 F2, (∃ ρ3, I (n + 1) ρ3 ∧ Le ρ3 ρ2) → Gr F0 H0 F2 H2 → Ex F' F2 → Sat H0 F2 σ2 H2 ρ2 → Pv (n + 1) σ2 H2 := fun ρ2 σ2 H2 F2 ⟨ρ3, i3, le⟩ g2 x2 S2 => ⟨ρ3, F2, i3, g2, x'.trans x2, S2.le le⟩
    have gN := g'.trans gT
    refine ⟨n, l[n], ρ', ha, hI, F', H0, F', ?_, ((S'.gr gT).set ((e1 l[n]).mono x' hA1)).set ((e2 l[n]).mono x' hA2), ?_, ?_, ?_, ?_, ?_⟩
    · exact ⟨Ex.refl F', gN.h, gN.i, fun a o z1 z2 => z2⟩
    · intro ρ2 σ2 H2 F2 hm g2 S2
      exact fin ρ2 σ2 H2 F2 hm ⟨g'.f.trans g2.f, g2.h, g2.i, fun a o z1 z2 => g2.n a o z1 (g'.n a o z1 z2)⟩ g2.f S2
    · intro v H2 F2 g2 hv
      exact q2 v H2 F2 ⟨g'.f.trans g2.f, g2.h, g2.i, fun a o z1 z2 => g2.n a o z1 (g'.n a o z1 z2)⟩ hv
    · intro ρ2 σ2 H2 F2 hm g2 S2
      exact q1 ρ2 σ2 H2 F2 hm ⟨g'.f.trans g2.f, g2.h, g2.i, fun a o z1 z2 => g2.n a o z1 (g'.n a o z1 z2)⟩ S2
    · intro ρ2 σ2 H2 F2 hm g2 S2
      exact fin ρ2 σ2 H2 F2 hm ⟨g'.f.trans g2.f, g2.h, g2.i, fun a o z1 z2 => g2.n a o z1 (g'.n a o z1 z2)⟩ g2.f S2
    · intro cls d ρ2 σ2 H2 F2 he g2 S2
      exact q5 cls d ρ2 σ2 H2 F2 he ⟨g'.f.trans g2.f, g2.h, g2.i, fun a o z1 z2 => g2.n a o z1 (g'.n a o z1 z2)⟩ S2
  · have e : n = l.length := by omega
    subst e
    exact .inl ⟨⟨xs, ys, qx, qy, by omega, by omega, by omega⟩, q1 ρ' σ' H' F' (hd ρ' hI) g' S'⟩
end
section
variable {X : Cx}
theorem cm_isNotB {s t : Bool} : Cm X .IsNot (bl s) (bl t) (!decide (s = t)) := ⟨_, op_isnot_bl, fun x y H Q h1 h2 q => by
  have h1 : x = .bl s := h1
  have h2 : y = .bl t := h2
  subst h1 h2
  exact ⟨s, t, rfl, rfl, q⟩⟩
end
end Lk

set_option Elab.async false
set_option linter.all false
set_option maxRecDepth 100000
set_option maxHeartbeats 4000000
namespace Kv
open PySem PySem.Calls L2 Lk
def topS (i : Nat) : Stmt := PySem.Challenge.pw_lookvoice_k19_whole_answer.main.body.getD i (.Pass ⟨0, 0, 0, 0⟩)
/-! ### cells and digits -/
abbrev sCell : Stmt := (topS 39)
abbrev sDigits : Stmt := (topS 40)
theorem sc_cell : FnScope ["_law_script", "_law_k"] ["_law_script", "_law_k"] (defScope sCell) := ⟨rfl, rfl, rfl, by decide +kernel, rfl, by decide +kernel, by decide +kernel⟩
def cellA (ns : List Int) (k : Nat) : Int := ns.getD k 0
section
variable {P : Program} {w : World} {K : PySem.W.Frag} {mg : Str → Option Value} {base : Heap}
abbrev spCl (K : PySem.W.Frag) : Sp := spX (fun _ : List Int × Nat => True) (fun i => [scr K i.1, int (i.2 : Int)]) (fun i => int (cellA i.1 i.2))
theorem ok_cell {f : Addr} {fd : FuncData} (F : Fun K "_law_cell" "_law_cell" sCell f fd) (mL : mg "len" = none) : FnOk P w K mg base CX0 1 f fd ["_law_script", "_law_k"] (spCl K) := by
  refine fn_ok F sc_cell (fun _ _ => rfl) fun ⟨ns, k⟩ cdv B outer s H E _ hr => ?_
  refine ba_cons (sa_if (et_cm (ea_w (ea_var 1 rfl)) (ea_w (ea_lenScr (ea_w (ea_var 0 rfl)) mL)) cm_lt rfl) (fun h => ?_) (fun h => ?_))
  · have z : (k : Int) < (ns.length : Int) := of_decide_eq_true h
    have hk : k < ns.length := by omega
    refine ba_one (sa_ret (ea_is (ea_ixScr (ea_w (ea_var 0 rfl)) (ea_w (ea_var 1 rfl)) (List.getElem?_eq_getElem hk)) ?_))
    show int _ = int (ns.getD k 0)
    rw [List.getD_eq_getElem?_getD, List.getElem?_eq_getElem hk]
    rfl
  · have z : ¬ (k : Int) < (ns.length : Int) := of_decide_eq_false h
    have hk : ¬ k < ns.length := by omega
    refine ba_nil (ba_one (sa_ret (ea_is ea_int ?_)))
    show int 0 = int (ns.getD k 0)
    rw [List.getD_eq_getElem?_getD, List.getElem?_eq_none (by omega)]
    rfl
theorem sc_digits : FnScope ["_law_script", "_law_k", "_law_count", "_law_cell_here", "_law_rest", "_law_row", "_law_j", "_law_mixed"] ["_law_script", "_law_k", "_law_count"] (defScope sDigits) := ⟨rfl, rfl, rfl, by decide +kernel, rfl, by decide +kernel, by decide +kernel⟩
def Digs (n : Nat) (ds : List Int) : Prop := ds.length = n ∧ ∀ d ∈ ds, 0 ≤ d ∧ d < 12
abbrev digsA (n : Nat) : As := exA (Digs n) (fun ds => lstA (ds.map int))
abbrev spDigits (K : PySem.W.Frag) : Sp := spX (fun i : List Int × Nat × Nat => i.2.1 ≤ 1000 ∧ i.2.2 ≤ 1000) (fun i => [scr K i.1, int (i.2.1 : Int), int (i.2.2 : Int)]) (fun i => digsA i.2.2)
theorem ok_digits {f : Addr} {fd : FuncData} (F : Fun K "_law_digits" "_law_digits" sDigits f fd) (mI : mg "int" = none) (mR : mg "range" = none) (DC : Df P w K mg base 1 "_law_cell" ["_law_script", "_law_k"] (spCl K)) : FnOk P w K mg base CX0 2 f fd ["_law_script", "_law_k", "_law_count"] (spDigits K) := by
  refine fn_ok F sc_digits (fun _ _ => rfl) fun ⟨ns, k, n⟩ cdv B outer s H E ⟨hk, hn⟩ hr => ?_
  have nd := sc_digits.nd
  have hk : k ≤ 1000 := hk
  have hn : n ≤ 1000 := hn
  refine ba_cons (sa_set 3 nd (ea_call DC hr (ns, k) trivial (eas_cons (ea_var 0 rfl) (eas_cons (ea_var 1 rfl) eas_nil))) ?_)
  refine ba_cons (sa_set 4 nd (ea_var 3 rfl) ?_)
  -- if cell < 10 ** 18: rest = 0
  refine ba_cons (sa_nx (Mid := fun ρ' => ∃ r : Int, ρ' = [.fr (scr K ns), .fr (int (k : Int)), .fr (int (n : Int)), .fr (int (cellA ns k)), .fr (int r), .no, .no, .no]) (sa_if (et_cm (ea_w (ea_var 3 rfl)) (ea_w (ea_pow (ea_w ea_int) (ea_w ea_int) ⟨by decide, by decide, by decide⟩)) cm_lt rfl) (fun h => ?_) (fun h => ?_)) ?_)
  · exact ba_one (sa_set 4 nd ea_int ⟨0, rfl⟩)
  · exact ba_nil ⟨cellA ns k, rfl⟩
  rintro ρ' ⟨r, rfl⟩
  refine ba_cons (sa_setN 5 nd (en_lst eas_nil (Nat.zero_le _)) ?_)
  refine ba_cons (sa_forR 6 (fun i ρ' => ∃ (r : Int) (ds : List Int), Digs i ds ∧ ρ' = [.fr (scr K ns), .fr (int (k : Int)), .fr (int (n : Int)), .fr (int (cellA ns k)), .fr (int r), .own (ds.map int), .no, .no]) PassesOwn.never rfl nd mR (ea_w (ea_var 2 rfl)) ⟨by omega, by omega⟩ ?h0 ?hs ?hd)
  case h0 => exact ⟨_, ⟨r, [], ⟨rfl, by simp⟩, rfl⟩, .same (.same (.same (.same (.same (.same (.same (.same .nil)))))))⟩
  case hs =>
    rintro i ρ' hi ⟨r, ds, hD, rfl⟩
    have hi : i < n := by simpa using hi
    have app : ∀ d : Int, 0 ≤ d ∧ d < 12 → Digs (i + 1) (ds ++ [d]) := fun d hd => ⟨by rw [List.length_append, hD.1]; rfl, fun x hx => by
      rcases List.mem_append.mp hx with h | h
      · exact hD.2 x h
      · rw [List.mem_singleton.mp h]
        exact hd⟩
    have hlen : (ds.map int).length < sizeLine := by
      rw [List.length_map, hD.1, sizeLine_eq]
      omega
    have em : ∀ z n : Int, 0 < n → 0 ≤ z % n ∧ z % n < n := fun z n h => ⟨Int.emod_nonneg _ (by omega), Int.emod_lt_of_pos _ h⟩
    refine ba_one (sa_if (et_cm (ea_w (ea_var 4 rfl)) (ea_w ea_int) cm_gt rfl) (fun h => ?_) (fun h => ?_))
    · refine ba_cons (sa_app 5 rfl (pe_app 5 (ea_mod (ea_w (ea_int1 (ea_w (ea_var 4 rfl)) mI)) (ea_w ea_int) (by decide))) hlen ?_)
      refine ba_one (sa_set 4 nd (ea_fdiv (ea_w (ea_var 4 rfl)) (ea_w ea_int) ⟨by decide, by decide⟩) ?_)
      exact ⟨_, ⟨r / 12, ds ++ [r % 12], app _ (em r 12 (by decide)), rfl⟩, by rw [List.map_append]; exact .same (.same (.same (.same (.same (.same (.no (.same .nil)))))))⟩
    · refine ba_cons (sa_set 7 nd (ea_rng 0 2147483647 (ea_mod (ea_w (ea_int1 (ea_w (ea_mul (ea_w (ea_var 3 rfl)) (ea_w (ea_add (ea_w (ea_add (ea_w ea_int) (ea_w (ea_mul (ea_w ea_int) (ea_w (ea_var 6 rfl)) (.inl ⟨by decide, by decide⟩))))) (ea_w (ea_mul (ea_w ea_int) (ea_w (ea_var 1 rfl)) (.inl ⟨by decide, by decide⟩))))) (.inr ⟨by omega, by omega⟩))) mI)) (ea_w ea_int) (by decide)) (em _ _ (by decide))) ?_)
      refine ba_ex (i := 7) rfl fun m hm => ?_
      refine ba_cons (sa_set 7 nd (ea_rng 0 1000003 (ea_mod (ea_w (ea_int1 (ea_w (ea_add (ea_w (ea_mul (ea_w (ea_var 7 rfl)) (ea_w (ea_var 7 rfl)) (.inl ⟨by omega, by omega⟩))) (ea_w (ea_mul (ea_w ea_int) (ea_w (ea_var 7 rfl)) (.inl ⟨by decide, by decide⟩))))) mI)) (ea_w ea_int) (by decide)) (em _ _ (by decide))) ?_)
      refine ba_ex (i := 7) rfl fun m2 hm2 => ?_
      refine ba_one (sa_app 5 rfl (pe_app 5 (ea_mod (ea_w (ea_int1 (ea_w (ea_fdiv (ea_w (ea_var 7 rfl)) (ea_w ea_int) ⟨by decide, by decide⟩)) mI)) (ea_w ea_int) (by decide))) hlen ?_)
      exact ⟨_, ⟨r, ds ++ [_], app _ (em (m2 / 11) 12 (by decide)), rfl⟩, by rw [List.map_append]; exact .same (.same (.same (.same (.same (.same (.no (.no .nil)))))))⟩
  case hd =>
    rintro ρ' ⟨r, ds, hD, rfl⟩
    refine ba_free (i := 5) rfl (ba_one (sa_ret (ea_imp (ea_var 5 rfl) fun F v hv => ⟨ds, ?_, hv⟩)))
    simpa using hD
theorem dig {n : Nat} {ds : List Int} (h : Digs n ds) {i : Nat} (hi : i < n) : (ds.map int)[i]? = some (int (ds.getD i 0)) := by
  have hl : i < ds.length := by rw [h.1]; exact hi
  rw [List.getElem?_map, List.getD_eq_getElem?_getD, List.getElem?_eq_getElem hl]
  rfl
theorem digb {n : Nat} {ds : List Int} (h : Digs n ds) (i : Nat) : 0 ≤ ds.getD i 0 ∧ ds.getD i 0 < 12 := by
  by_cases hl : i < ds.length
  · rw [List.getD_eq_getElem?_getD, List.getElem?_eq_getElem hl]
    exact h.2 _ (List.getElem_mem hl)
  · rw [List.getD_eq_getElem?_getD, List.getElem?_eq_none (by omega)]
    decide
end
end Kv

set_option Elab.async false
set_option linter.all false
set_option maxRecDepth 100000
set_option maxHeartbeats 4000000
namespace Kv
open PySem PySem.Calls L2 Lk
/-! ### rows of places -/
def asc (n : Nat) (p : Nat → Bool) : List Nat := (List.range n).filter p
theorem asc_pw (n : Nat) (p : Nat → Bool) : (asc n p).Pairwise (· < ·) := List.Pairwise.filter p List.pairwise_lt_range
theorem asc_nd (n : Nat) (p : Nat → Bool) : (asc n p).Nodup := (asc_pw n p).imp fun h => Nat.ne_of_lt h
theorem asc_mem {n : Nat} {p : Nat → Bool} {k : Nat} : k ∈ asc n p ↔ k < n ∧ p k = true := by
  unfold asc
  rw [List.mem_filter, List.mem_range]
theorem asc_len (n : Nat) (p : Nat → Bool) : (asc n p).length ≤ n := by
  have z := List.length_filter_le p (List.range n)
  rwa [List.length_range] at z
theorem asc_congr {n : Nat} {p q : Nat → Bool} (h : ∀ k, k < n → p k = q k) : asc n p = asc n q := List.filter_congr fun k hk => h k (List.mem_range.mp hk)
abbrev natsT (l : List Nat) : As := tupA (l.map nat)
def rowsA (n : Nat) (R : Nat → Nat → Bool) : As := tupA ((List.range n).map fun p => natsT (asc n (R p)))
def relF (n : Nat) (R : Nat → Nat → Bool) : List (Str × As) := [("size", nat n), ("rows", rowsA n R)]
def relA (C : Addr) (n : Nat) (R : Nat → Nat → Bool) : As := insA C (relF n R)
theorem rowsA_congr {n : Nat} {R S : Nat → Nat → Bool} (h : ∀ p q, p < n → q < n → R p q = S p q) : rowsA n R = rowsA n S := by
  unfold rowsA
  congr 1
  refine List.map_congr_left fun p hp => ?_
  rw [asc_congr fun k hk => h p k (List.mem_range.mp hp) hk]
theorem relA_congr {C : Addr} {n : Nat} {R S : Nat → Nat → Bool} (h : ∀ p q, p < n → q < n → R p q = S p q) : relA C n R = relA C n S := by
  unfold relA relF
  rw [rowsA_congr h]
/-- places of a relation of size n -/
def InR (n : Nat) (ns : List Int) : Prop := ∀ x ∈ ns, 0 ≤ x ∧ x < (n : Int)
instance (n : Nat) (ns : List Int) : Decidable (InR n ns) := by unfold InR; infer_instance
def hasI (ns : List Int) (k : Nat) : Bool := decide ((k : Int) ∈ ns)
/-- the first place out of range -/
def badOf (n : Nat) (ns : List Int) : Option Int := ns.find? fun x => !(decide (0 ≤ x) && decide (x < (n : Int)))
theorem badOf_none {n : Nat} {ns : List Int} : badOf n ns = none ↔ InR n ns := by
  unfold badOf InR
  rw [List.find?_eq_none]
  refine ⟨fun h x hx => ?_, fun h x hx => ?_⟩
  · have z := h x hx
    simp only [Bool.not_eq_true', Bool.not_eq_true, Bool.not_eq_false', Bool.and_eq_true, decide_eq_true_eq] at z
    simpa using z
  · obtain ⟨h1, h2⟩ := h x hx
    rw [decide_eq_true h1, decide_eq_true h2]
    decide
theorem asc_once {n : Nat} {ns : List Int} (h : InR n ns) : ((asc n (hasI ns)).map fun k : Nat => (k : Int)).Perm (onceF ns) := by
  refine (List.perm_ext_iff_of_nodup ?_ (onceF_nodup ns)).mpr fun x => ?_
  · rw [List.nodup_iff_pairwise_ne, List.pairwise_map]
    refine (List.nodup_iff_pairwise_ne.mp (asc_nd n _)).imp fun h e => h (by omega)
  · rw [onceF_mem, List.mem_map]
    constructor
    · rintro ⟨k, hk, rfl⟩
      exact of_decide_eq_true (asc_mem.mp hk).2
    · intro hx
      obtain ⟨h1, h2⟩ := h x hx
      exact ⟨x.toNat, asc_mem.mpr ⟨by omega, decide_eq_true (by rw [Int.toNat_of_nonneg h1]; exact hx)⟩, Int.toNat_of_nonneg h1⟩
theorem asc_le (n : Nat) (p : Nat → Bool) : ((asc n p).map fun k : Nat => (k : Int)).Pairwise (· ≤ ·) := by
  rw [List.pairwise_map]
  exact (asc_pw n p).imp fun h => by omega
section
variable {P : Program} {w : World} {K : PySem.W.Frag} {mg : Str → Option Value} {base : Heap}
/-! ### ascending -/
abbrev sAsc : Stmt := (topS 12)
abbrev nAsc : List Str := ["places", "once", "place"]
theorem sc_asc : FnScope nAsc ["places"] (defScope sAsc) := ⟨rfl, rfl, rfl, by decide +kernel, rfl, by decide +kernel, by decide +kernel⟩
abbrev spAsc : Sp := spX (fun i : Bool × List Int × Nat => InR i.2.2 i.2.1 ∧ i.2.1.length < 1000000) (fun i => [sq i.1 (i.2.1.map int)]) (fun i => natsT (asc i.2.2 (hasI i.2.1)))
theorem ok_asc {f : Addr} {fd : FuncData} (F : Fun K "ascending" "ascending" sAsc f fd) (mI : mg "int" = none) (mT : mg "tuple" = none) (mS : mg "sorted" = none) : FnOk P w K mg base CX0 1 f fd ["places"] spAsc := by
  refine fn_ok F sc_asc (fun _ _ => rfl) fun ⟨q, ns, n⟩ cdv B outer s H E ⟨hR, hl⟩ hr => ?_
  have nd := sc_asc.nd
  have hl : ns.length < 1000000 := hl
  have hz : ns.length < sizeLine := by rw [sizeLine_eq]; omega
  refine ba_cons (sa_setDc (own := [("place", 2)]) (l := ns) (enc := int) (p := fun _ => true) (kf := fun a => a) (g := fun _ => bl true) 1 2 rfl nd (es_sq (ea_var 0 rfl)) hz (blkOk_by (N := nAsc) (sc := defScope sAsc) (by decide +kernel)) (fun _ _ _ _ _ => pg_name nd rfl (Or.inl rfl)) (fun _ _ _ _ _ _ _ => pts_yes) (fun _ _ _ _ _ a _ _ => ea_var 2 rfl) (fun _ _ _ _ _ a _ _ => ea_bl) ?_)
  rw [flt_all]
  have keys : (dcA ns (fun a => a) fun _ => bl true).map Prod.fst = onceF ns := by rw [dcA_fst, List.map_id']
  have lk : (dcA ns (fun a => a) fun _ => bl true).length < sizeLine := by
    have z := dcA_len (fun a => a) (fun _ => bl true) ns []
    have z2 : (dcA ns (fun a => a) fun _ => bl true).length ≤ ns.length := by simpa [dcA] using z
    omega
  refine ba_one (sa_ret (ea_tupleL (el_is (en_l (en_sorted (ns := onceF ns) (ys := (asc n (hasI ns)).map fun k : Nat => (k : Int)) (en_l (en_is (en_lcKeys (own := [("place", 2)]) (l := dcA ns (fun a => a) fun _ => bl true) (g := fun k => V.int k) (n := 3) 1 2 rfl nd rfl rfl lk (blkOk_by (N := nAsc) (sc := defScope sAsc) (by decide +kernel)) (fun _ _ _ _ _ => pg_name nd rfl (Or.inl rfl)) (fun _ _ _ _ _ a => ea_int1 (ea_w (ea_var 2 rfl)) mI)) (by rw [keys]))) (asc_once hR) (asc_le _ _) mS)) (by rw [List.map_map]; rfl)) mT))
/-! ### require_places -/
abbrev sRqp : Stmt := (topS 13)
abbrev nRqp : List Str := ["places", "size", "place"]
theorem sc_rqp : FnScope nRqp ["places", "size"] (defScope sRqp) := ⟨rfl, rfl, rfl, by decide +kernel, rfl, by decide +kernel, by decide +kernel⟩
abbrev okBig (i : Int) : Prop := i.natAbs.log2 < 1000
abbrev erPl (CP : Addr) (i : Int) : ErP := erX CP [("place", int i)]
def ocPl (CP : Addr) (n : Nat) (ns : List Int) : Oc := match badOf n ns with
  | none => .ret non
  | some x => .exc (erPl CP x)
abbrev spRqp (CP : Addr) : Sp := spO (fun i : Bool × List Int × Nat => ∀ x ∈ i.2.1, okBig x) (fun i => [sq i.1 (i.2.1.map int), nat i.2.2]) (fun i => ocPl CP i.2.2 i.2.1)
abbrev EPl (P : Program) (w : World) (K : PySem.W.Frag) (mg : Str → Option Value) (base : Heap) (CP : Addr) : Prop := Er1 P w K mg base 1 "BadPlace" CP "place" okBig int int
theorem ok_rqp {CP f : Addr} {fd : FuncData} (F : Fun K "require_places" "require_places" sRqp f fd) (T : EPl P w K mg base CP) : FnOk P w K mg base (L2.CX P w) 3 f fd ["places", "size"] (spRqp CP) := by
  refine fn_okX F sc_rqp (fun _ _ => rfl) fun ⟨q, ns, n⟩ cdv B outer s H E hb hr tk po => ?_
  have nd := sc_rqp.nd
  let ρ0 : List En := [.fr (sq q (ns.map int)), .fr (nat n), .no]
  refine ba_one (sa_forS (l := ns.map int) 2 (fun i ρ' => badOf n (ns.take i) = none ∧ ρ' = ρ0) po rfl nd (es_sq (ea_var 0 rfl)) ⟨_, ⟨rfl, rfl⟩, Le.refl _⟩ ?hs ?hd)
  case hs =>
    rintro i A ρ' hi ⟨hbad, rfl⟩
    rw [List.getElem?_map] at hi
    cases e : ns[i]? with
    | none => rw [e] at hi; cases hi
    | some x =>
      rw [e] at hi
      have hi : int x = A := by simpa using hi
      subst hi
      have tk1 : ns.take (i + 1) = ns.take i ++ [x] := by rw [List.take_add_one, e]; rfl
      refine ba_one (sa_if (et_not (et_chainLeLt (ea_w ea_int) (ea_w (ea_var 2 rfl)) (ea_w (ea_var 1 rfl)) rfl)) (fun h => ?_) (fun h => ?_))
      · refine ba_one (sa_raise1 T rfl hr tk x (hb x (List.mem_of_getElem? e)) (ea_var 2 rfl) fun F cls d he => ?_)
        have ha : badOf n ns = some x := by
          have hs : ns = ns.take i ++ x :: ns.drop (i + 1) := by
            obtain ⟨hl, hx⟩ := List.getElem?_eq_some_iff.mp e
            rw [← hx, ← List.drop_eq_getElem_cons hl, List.take_append_drop]
          rw [hs]
          unfold badOf at hbad ⊢
          rw [List.find?_append, hbad, List.find?_cons, h]
          rfl
        show (ocPl CP n ns).E F cls d
        unfold ocPl
        rw [ha]
        exact he
      · refine ba_nil ⟨ρ0, ⟨?_, rfl⟩, .same (.same (.no .nil))⟩
        rw [tk1]
        unfold badOf at hbad ⊢
        rw [List.find?_append, hbad, List.find?_cons, h]
        rfl
  case hd =>
    rintro ρ' ⟨hbad, rfl⟩ F
    rw [List.length_map, List.take_length] at hbad
    show (ocPl CP n ns).R.p F .non
    unfold ocPl
    rw [hbad]
    rfl
end
end Kv

set_option Elab.async false
set_option linter.all false
set_option maxRecDepth 100000
set_option maxHeartbeats 4000000
namespace Kv
open PySem PySem.Calls L2 Lk
theorem sat_re {H0 H0' F H H' : Hp} {σ : L2.St} {ρ : List En} (S : Sat H0 F σ H ρ) (no : ρ.any En.mnB = false) (ex : Ex F H') : Sat H0' F σ H' ρ :=
  ⟨ex, S.fr, fun i l e => (no_mn no e True.intro).elim, fun i j l m p e _ m1 => (no_mn no e m1).elim, S.len, fun i B e => (no_mn no e True.intro).elim⟩
/-- what an own class of relations must say -/
structure RTx (K : PySem.W.Frag) (C : Addr) : Prop where
  cl : Cls K C
  nS : NoAttr K C "size"
  nR : NoAttr K C "rows"
/-! ### Relation(rows) -/
def firstBad (n : Nat) (rs : List (List Int)) : Option Int := rs.findSome? (badOf n)
def ocRel (C CP : Addr) (rs : List (List Int)) : Oc := match firstBad rs.length rs with
  | none => .ret (relA C rs.length fun p q => hasI (rs.getD p []) q)
  | some x => .exc (erPl CP x)
structure RelOk (rs : List (List Int)) : Prop where
  n : rs.length < 100000
  r : ∀ r ∈ rs, r.length < 100000 ∧ ∀ x ∈ r, okBig x
abbrev rowsIn (b c : Bool) (rs : List (List Int)) : As := sq b (rs.map fun r => sq c (r.map int))
abbrev spRelI (C CP : Addr) : Sp := spMO C (fun i : Bool × Bool × List (List Int) => RelOk i.2.2) (fun i => [rowsIn i.1 i.2.1 i.2.2]) (fun i => ocRel C CP i.2.2)
abbrev sRelI : Stmt := (inClass (topS 17) 0)
abbrev nRelI : List Str := ["self", "rows", "row"]
theorem sc_relI : FnScope nRelI ["self", "rows"] (defScope sRelI) := ⟨rfl, rfl, rfl, by decide +kernel, rfl, by decide +kernel, by decide +kernel⟩
theorem rows_are (n : Nat) (rs : List (List Int)) (h : rs.length = n) : (rs.map fun r => natsT (asc n (hasI r))) = (List.range n).map fun p => natsT (asc n fun q => hasI (rs.getD p []) q) := by
  refine List.ext_getElem (by rw [List.length_map, List.length_map, List.length_range, h]) fun i h1 h2 => ?_
  rw [List.length_map] at h1
  rw [List.getElem_map, List.getElem_map, List.getElem_range, List.getD_eq_getElem?_getD, List.getElem?_eq_getElem h1]
  rfl
section
variable {P : Program} {w : World} {K : PySem.W.Frag} {mg : Str → Option Value} {base : Heap} {C CP : Addr}
theorem ok_relI {f : Addr} {fd : FuncData} (F : Fun K "__init__" "Relation.__init__" sRelI f fd) (T : RTx K C) (mL : mg "len" = none) (mT : mg "tuple" = none) (DA : Df P w K mg base 1 "ascending" ["places"] spAsc) (DR : DfX P w K mg base 3 "require_places" ["places", "size"] (spRqp CP)) : FnOk P w K mg base (L2.CX P w) 4 f fd ["self", "rows"] (spRelI C CP) := by
  refine F.okX sc_relI (fun vs H Q E h => ?_) (fun cdv A outer s H vs Q E hr h => ?_)
  · obtain ⟨i, _, H1, F1, p, dx, as, rfl, _, _, _, _, _, hv, _⟩ := h
    rw [List.length_cons, hv.length]
    rfl
  · obtain ⟨⟨b, c, rs⟩, hok, H1, F1, p, dx, as, rfl, rfl, hp, hdx, hne, ex, hall, q, qe⟩ := h
    have hok : RelOk rs := hok
    have nd := sc_relI.nd
    have tk : Takes (cxOf (L2.CX P w) P w K mg base nRelI "Relation.__init__" (defScope sRelI) f cdv A outer s (upd (upd H1 dx (.own p)) p (.ins C dx [])) E) (fun cls d _ H => E cls d H) := takes_of rfl rfl rfl rfl
    have po : PassesOwn (model P w) (A.deeper (PyProof.Rows.envOfC "Relation.__init__" (defScope sRelI) s.heap.objs.size f cdv)) (PyProof.Rows.envOfC "Relation.__init__" (defScope sRelI) s.heap.objs.size f cdv) (cxOf (L2.CX P w) P w K mg base nRelI "Relation.__init__" (defScope sRelI) f cdv A outer s (upd (upd H1 dx (.own p)) p (.ins C dx [])) E).xe := passes_of (X := cxOf (L2.CX P w) P w K mg base nRelI "Relation.__init__" (defScope sRelI) f cdv A outer s (upd (upd H1 dx (.own p)) p (.ins C dx [])) E) rfl
    obtain ⟨av, rfl, hav⟩ : ∃ v, as = [v] ∧ (rowsIn b c rs).p F1 v := by
      match as, hall with
      | [v], ⟨h, _⟩ => exact ⟨v, rfl, h⟩
    let ρ0 : List En := [.fr (sc (.ref p)), .fr (rowsIn b c rs), .no]
    have noOwn : ρ0.any En.mnB = false := rfl
    have n1 : rs.length < sizeLine := by rw [sizeLine_eq]; have := hok.n; omega
    let W : Wn := { R := ⟨fun _ _ => False, fun _ h => h⟩, er := fun _ => (ocRel C CP rs).E, wx := fun cls d _ H => E cls d H }
    have s1 : SA (cxOf (L2.CX P w) P w K mg base nRelI "Relation.__init__" (defScope sRelI) f cdv A outer s (upd (upd H1 dx (.own p)) p (.ins C dx [])) E) ((defBody sRelI).getD 0 (.Pass ⟨0, 0, 0, 0⟩)) ρ0 (fun ρ' => firstBad rs.length rs = none ∧ ρ' = ρ0) W := by
      refine sa_forS (l := rs.map fun r => sq c (r.map int)) 2 (fun i ρ' => firstBad rs.length (rs.take i) = none ∧ ρ' = ρ0) po rfl nd (es_sq (ea_var 1 rfl)) ⟨_, ⟨rfl, rfl⟩, Le.refl _⟩ ?hs ?hd
      case hs =>
        rintro i A' ρ' hi ⟨hbad, rfl⟩
        rw [List.getElem?_map] at hi
        cases e : rs[i]? with
        | none => rw [e] at hi; cases hi
        | some r =>
          rw [e] at hi
          have hi : sq c (r.map int) = A' := by simpa using hi
          subst hi
          have hr1 := hok.r r (List.mem_of_getElem? e)
          have tk1 : rs.take (i + 1) = rs.take i ++ [r] := by rw [List.take_add_one, e]; rfl
          have hs : rs = rs.take i ++ r :: rs.drop (i + 1) := by
            obtain ⟨hl, hx⟩ := List.getElem?_eq_some_iff.mp e
            rw [← hx, ← List.drop_eq_getElem_cons hl, List.take_append_drop]
          refine ba_one (sa_exprX (o1 := ocPl CP rs.length r) (ex_call DR hr tk (c, r, rs.length) hr1.2 (eas_cons (ea_var 2 rfl) (eas_cons (ea_is (ea_lenSq (ea_var 1 rfl) mL) (by rw [List.length_map])) eas_nil))) (fun F cls d he => ?_) fun ⟨F, v, hv⟩ => ?_)
          · show (ocRel C CP rs).E F cls d
            unfold ocPl at he
            cases hb : badOf rs.length r with
            | none => rw [hb] at he; exact he.elim
            | some x =>
              rw [hb] at he
              have z : firstBad rs.length rs = some x := by
                have z2 : firstBad rs.length (rs.take i ++ r :: rs.drop (i + 1)) = some x := by
                  unfold firstBad at hbad ⊢
                  rw [List.findSome?_append, hbad, List.findSome?_cons, hb]
                  rfl
                rw [← hs] at z2
                exact z2
              unfold ocRel
              rw [z]
              exact he
          · have hb : badOf rs.length r = none := by
              cases hb : badOf rs.length r with
              | none => rfl
              | some x =>
                unfold ocPl at hv
                rw [hb] at hv
                exact hv.elim
            refine ⟨ρ0, ⟨?_, rfl⟩, .same (.same (.no .nil))⟩
            rw [tk1]
            unfold firstBad at hbad ⊢
            rw [List.findSome?_append, hbad, List.findSome?_cons, hb]
            rfl
      case hd =>
        rintro ρ' ⟨hbad, rfl⟩
        rw [List.length_map, List.take_length] at hbad
        exact ⟨hbad, rfl⟩
    have x0 : Ex H1 (upd (upd H1 dx (.own p)) p (.ins C dx [])) := fun a o z => by
      rw [upd_ne (ne_of_none z hp), upd_ne (ne_of_none z hdx)]
      exact z
    have hp0 : upd (upd H1 dx (.own p)) p (.ins C dx []) p = some (.ins C dx []) := upd_same
    have f1p : F1 p = none := ex.none hp
    generalize hH : upd (upd H1 dx (.own p)) p (.ins C dx []) = H at x0 hp0 s1 tk po
    have S0 : Sat H F1 (L2.start nRelI [.ref p, av]) H ρ0 := by
      refine ⟨ex.trans x0, fun i A' e' => ?_, fun i l e' => (no_mn noOwn e' True.intro).elim, fun i j l m p e' _ m1 => (no_mn noOwn e' m1).elim, rfl, fun i B e' => (no_mn noOwn e' True.intro).elim⟩
      match i, e' with
      | 0, e' =>
        have e' : sc (.ref p) = A' := by simpa [ρ0] using e'
        subst e'
        exact ⟨.ref p, rfl, rfl⟩
      | 1, e' =>
        have e' : rowsIn b c rs = A' := by simpa [ρ0] using e'
        subst e'
        exact ⟨av, rfl, hav⟩
      | 2, e' => simp [ρ0] at e'
      | n + 3, e' => simp [ρ0] at e'
    have erq : ∀ cls d ρ' σ' H' F', W.er ρ' F' cls d → Gr F1 H F' H' → Sat H F' σ' H' ρ' → W.wx cls d σ' H' := fun cls d ρ' σ' H' F' he g S => qe cls d H' F' ⟨g.f, x0.trans g.h, g.i, fun a o z1 z2 => g.n a o (x0 a o z1) z2⟩ he
    cases hbad : firstBad rs.length rs with
    | some x => exact ⟨_, pss_cons s1 (⟨fun pins s σ H D I h => h.elim⟩ : PSs _ _ (fun _ _ _ => False)), F1, H, F1, .refl (ex.trans x0), S0, fun ρ' σ' H' F' hn _ _ => (by rw [hbad] at hn; cases hn.1), fun v H' F' g z => z.elim, fun _ _ _ _ z => z.elim, fun _ _ _ _ z => z.elim, erq⟩
    | none =>
    have hin : ∀ r ∈ rs, InR rs.length r := fun r hrm => by
      have z := hbad
      unfold firstBad at z
      rw [List.findSome?_eq_none_iff] at z
      exact badOf_none.mp (z r hrm)
    refine ⟨_, pss_cons s1 (pss_cons (ps_fld (pv 0) (ea_is (B := nat rs.length) (ea_lenSq (ρ := ρ0) (ea_var 1 rfl) mL) (by rw [List.length_map])) rfl)
      (pss_one (ps_fld (pv 0) (ea_tupleL (ρ := ρ0) (l := rs.map fun r => natsT (asc rs.length (hasI r))) ?lc mT) rfl))), F1, H, F1, .refl (ex.trans x0), S0, ?nx, ?rt, ?bk, ?ct, ?er⟩
    case rt => exact fun v H' F' g z => z.elim
    case bk => exact fun _ _ _ _ z => z.elim
    case ct => exact fun _ _ _ _ z => z.elim
    case er => exact erq
    case lc => exact en_l (en_lcSA (own := [("row", 2)]) (enc := fun r => sq c (r.map int)) 2 rfl nd (es_sq (ea_var 1 rfl)) n1 (blkOk_by (N := nRelI) (sc := defScope sRelI) (by decide +kernel)) (fun _ _ _ _ _ => pg_name nd rfl (Or.inl rfl)) fun _ _ _ _ _ r hrm => by
      have hl : r.length < 1000000 := by have := (hok.r r hrm).1; omega
      exact ea_callB DA (hr.mono (show 1 ≤ 3 by decide)) (c, r, rs.length) ⟨hin r hrm, hl⟩ rfl (eas_cons (ea_var 2 rfl) eas_nil))
    case nx =>
      rintro ρ' σ' H' F' ⟨hgood, rfl⟩ g' S'
      obtain ⟨v0, hv0, e0⟩ := S'.fr 0 (sc (.ref p)) rfl
      have e0 : v0 = .ref p := e0
      subst e0
      refine ⟨H, F', S', fun v Ha Fa ga hv => ⟨_, hv0, p, C, dx, [], rfl, ga.h p _ (g'.h p _ hp0), T.cl, T.nS, (by show 0 < 1000; decide), ?_⟩⟩
      have hv : v = .int (rs.length : Int) := hv
      subst hv
      have ha := ga.h p _ (g'.h p _ hp0)
      have fap : Fa p = none := ga.n p _ (g'.h p _ hp0) (g'.n p _ hp0 f1p)
      have hb : upd Ha p (.ins C dx (putF "size" (.int (rs.length : Int)) [])) p = some (.ins C dx [("size", .int (rs.length : Int))]) := upd_same
      have xb : Ex Fa (upd Ha p (.ins C dx (putF "size" (.int (rs.length : Int)) []))) := fun a o z => by
        rw [upd_ne (ne_of_none z fap)]
        exact ga.i a o z
      have hne2 : ∀ b o, b ≠ p → Ha b = some o → upd Ha p (.ins C dx (putF "size" (.int (rs.length : Int)) [])) b = some o := fun b o z h => by
        rw [upd_ne z]
        exact h
      generalize upd Ha p (.ins C dx (putF "size" (.int (rs.length : Int)) [])) = Hb at hb xb hne2
      have Sb : Sat Hb Fa σ' Hb ρ0 := sat_re (S'.gr ga) noOwn xb
      refine ⟨Hb, Fa, Sb, fun v Hc Fc gc hv2 => ⟨_, hv0, p, C, dx, _, rfl, gc.h p _ hb, T.cl, T.nR, (by show 1 < 1000; decide), ?_⟩⟩
      have fcp : Fc p = none := gc.n p _ hb fap
      have x1 : ∀ b o, H1 b = some o → b ≠ p := fun b o z => ne_of_none z hp
      refine q _ (upd Fc p (.ins C dx [("size", .int (rs.length : Int)), ("rows", v)])) ⟨fun b o z => ?_, fun b o z => ?_, fun b o z => ?_, fun b o z1 z2 => ?_⟩ ?_
      · rw [upd_ne (ne_of_none z f1p)]
        exact gc.f b o (ga.f b o (g'.f b o z))
      · rw [upd_ne (x1 b o z)]
        exact gc.h b o (hne2 b o (x1 b o z) (ga.h b o (g'.h b o (x0 b o z))))
      · by_cases hbp : b = p
        · subst hbp
          rw [upd_same] at z ⊢
          exact z
        · rw [upd_ne hbp] at z ⊢
          exact gc.i b o z
      · have y := x1 b o z1
        rw [upd_ne y]
        exact gc.n b o (hne2 b o y (ga.h b o (g'.h b o (x0 b o z1)))) (ga.n b o (g'.h b o (x0 b o z1)) (g'.n b o (x0 b o z1) z2))
      · show (ocRel C CP rs).R.p _ _
        unfold ocRel
        rw [hgood]
        refine ⟨p, dx, [.int (rs.length : Int), v], rfl, upd_same, rfl, ?_, trivial⟩
        have e2 : tupA (rs.map fun r => natsT (asc rs.length (hasI r))) = rowsA rs.length fun p q => hasI (rs.getD p []) q := by
          unfold rowsA
          rw [rows_are rs.length rs rfl]
        rw [e2] at hv2
        exact (rowsA rs.length fun p q => hasI (rs.getD p []) q).mono (Ex.new fcp) hv2
end
end Kv

set_option Elab.async false
set_option linter.all false
set_option maxRecDepth 100000
set_option maxHeartbeats 4000000
namespace Kv
open PySem PySem.Calls L2 Lk
/-! ### what the rows given make -/
theorem firstBad_none {n : Nat} {rs : List (List Int)} (h : ∀ r ∈ rs, InR n r) : firstBad n rs = none := by
  unfold firstBad
  rw [List.findSome?_eq_none_iff]
  exact fun r hr => badOf_none.mpr (h r hr)
theorem ocRel_ok {C CP : Addr} {rs : List (List Int)} {n : Nat} {R : Nat → Nat → Bool} (hn : rs.length = n) (h : ∀ r ∈ rs, InR n r) (hR : ∀ p q, p < n → q < n → hasI (rs.getD p []) q = R p q) : ocRel C CP rs = .ret (relA C n R) := by
  subst hn
  unfold ocRel
  rw [firstBad_none h]
  show Oc.ret _ = Oc.ret _
  rw [relA_congr hR]
theorem big_nat {q : Nat} (h : q < 100000) : okBig (q : Int) := by
  show Nat.log2 ((q : Int).natAbs) < 1000
  rw [Int.natAbs_natCast]
  rcases Nat.eq_zero_or_pos q with z | z
  · subst z; decide
  · exact (Nat.log2_lt (by omega)).mpr (Nat.lt_of_lt_of_le h (Nat.le_trans (by decide : 100000 ≤ 2 ^ 17) (Nat.pow_le_pow_right (by decide) (by decide))))
/-- rows of numbers below n -/
def intsOf (ls : List (List Nat)) : List (List Int) := ls.map fun l => l.map fun q : Nat => (q : Int)
theorem intsOf_ok {n : Nat} {ls : List (List Nat)} (hn : n < 10000) (hl : ls.length = n) (h : ∀ l ∈ ls, l.length ≤ 20000 ∧ ∀ q ∈ l, q < n) : RelOk (intsOf ls) ∧ ∀ r ∈ intsOf ls, InR n r := by
  unfold intsOf
  refine ⟨⟨by rw [List.length_map]; omega, fun r hr => ?_⟩, fun r hr x hx => ?_⟩
  · obtain ⟨l, hl1, rfl⟩ := List.mem_map.mp hr
    obtain ⟨a, b⟩ := h l hl1
    refine ⟨by rw [List.length_map]; omega, fun x hx => ?_⟩
    obtain ⟨q, hq, rfl⟩ := List.mem_map.mp hx
    exact big_nat (by have := b q hq; omega)
  · obtain ⟨l, hl1, rfl⟩ := List.mem_map.mp hr
    obtain ⟨a, b⟩ := h l hl1
    obtain ⟨q, hq, rfl⟩ := List.mem_map.mp hx
    have := b q hq
    omega
theorem intsOf_get (ls : List (List Nat)) (p q : Nat) : hasI ((intsOf ls).getD p []) q = decide (q ∈ ls.getD p []) := by
  unfold hasI intsOf
  rw [List.getD_eq_getElem?_getD, List.getElem?_map, List.getD_eq_getElem?_getD]
  cases ls[p]? with
  | none => simp
  | some l =>
    show decide ((q : Int) ∈ l.map fun q : Nat => (q : Int)) = decide (q ∈ l)
    rw [decide_eq_decide, List.mem_map]
    refine ⟨fun ⟨a, ha, e⟩ => ?_, fun h => ⟨q, h, rfl⟩⟩
    have : a = q := by omega
    rw [← this]
    exact ha
theorem intsOf_as (ls : List (List Nat)) (c : Bool) : ((intsOf ls).map fun r => sq c (r.map int)) = ls.map fun l => sq c (l.map nat) := by
  unfold intsOf
  rw [List.map_map]
  refine List.map_congr_left fun l _ => ?_
  show sq c ((l.map fun q : Nat => (q : Int)).map int) = _
  rw [List.map_map]
  rfl
/-- such rows, as an index of the constructor -/
theorem mk_ok {C CP : Addr} {n : Nat} {ls : List (List Nat)} {R : Nat → Nat → Bool} (hn : n < 10000) (hl : ls.length = n) (h : ∀ l ∈ ls, l.length ≤ 20000 ∧ ∀ q ∈ l, q < n) (hR : ∀ p q, p < n → q < n → decide (q ∈ ls.getD p []) = R p q) : RelOk (intsOf ls) ∧ ocRel C CP (intsOf ls) = .ret (relA C n R) := by
  obtain ⟨h1, h2⟩ := intsOf_ok hn hl h
  exact ⟨h1, ocRel_ok (by unfold intsOf; rw [List.length_map]; exact hl) h2 fun p q hp hq => by rw [intsOf_get]; exact hR p q hp hq⟩
section
variable {P : Program} {w : World} {K : PySem.W.Frag} {mg : Str → Option Value} {base : Heap} {C CP CM : Addr}
/-! ### require_same_size -/
abbrev sRqs : Stmt := (topS 14)
theorem sc_rqs : FnScope ["first", "second"] ["first", "second"] (defScope sRqs) := ⟨rfl, rfl, rfl, by decide +kernel, rfl, by decide +kernel, by decide +kernel⟩
abbrev erSm (CM : Addr) : ErP := erX CM []
structure R2I where
  n : Nat
  R : Nat → Nat → Bool
  m : Nat
  S : Nat → Nat → Bool
def ocSm (CM : Addr) (n m : Nat) (A : As) : Oc := if n = m then .ret A else .exc (erSm CM)
abbrev spRqs (C CM : Addr) : Sp := spO (fun _ : R2I => True) (fun i => [relA C i.n i.R, relA C i.m i.S]) (fun i => ocSm CM i.n i.m non)
theorem ok_rqs {f : Addr} {fd : FuncData} (F : Fun K "require_same_size" "require_same_size" sRqs f fd) (T : RTx K C) (E0 : Er0 K mg "SizeMismatch" CM) : FnOk P w K mg base (L2.CX P w) 1 f fd ["first", "second"] (spRqs C CM) := by
  refine fn_okX F sc_rqs (fun _ _ => rfl) fun ⟨n, R, m, S⟩ cdv B outer s H E _ hr tk po => ?_
  refine ba_one (sa_if (et_cm (ea_w (ea_fld (A := nat n) (ea_var 0 rfl) T.cl T.nS rfl)) (ea_w (ea_fld (A := nat m) (ea_var 1 rfl) T.cl T.nS rfl)) cm_neI rfl) (fun h => ?_) (fun h => ?_))
  · have hne : n ≠ m := fun z => by
      subst z
      simp at h
    refine ba_one (sa_raise0s E0 rfl tk fun F => ?_)
    show (ocSm CM n m non).E F _ _
    unfold ocSm
    rw [if_neg hne]
    exact ⟨rfl, rfl⟩
  · have he : n = m := by
      have z : ((n : Int) = (m : Int)) := by simpa using h
      omega
    refine ba_nil fun F => ?_
    show (ocSm CM n m non).R.p F .non
    unfold ocSm
    rw [if_pos he]
    rfl
/-! ### reached -/
abbrev sRea : Stmt := (topS 15)
abbrev nRea : List Str := ["rows", "places", "place", "end"]
theorem sc_rea : FnScope nRea ["rows", "places"] (defScope sRea) := ⟨rfl, rfl, rfl, by decide +kernel, rfl, by decide +kernel, by decide +kernel⟩
abbrev spRea : Sp := spX (fun i : Nat × (Nat → Nat → Bool) × Bool × List Nat => i.1 ≤ 300 ∧ i.2.2.2.length ≤ 1000 ∧ ∀ p ∈ i.2.2.2, p < i.1) (fun i => [rowsA i.1 i.2.1, sq i.2.2.1 (i.2.2.2.map nat)]) (fun i => natsT (asc i.1 fun q => i.2.2.2.any fun p => i.2.1 p q))
theorem flat_lenR {α : Type} (g : α → List Nat) (k : Nat) (h : ∀ a, (g a).length ≤ k) : ∀ l : List α, (l.flatMap g).length ≤ l.length * k
  | [] => by simp
  | a :: l => by
    rw [List.flatMap_cons, List.length_append, List.length_cons, Nat.succ_mul]
    have := flat_lenR g k h l
    have := h a
    omega
theorem ok_rea {f : Addr} {fd : FuncData} (F : Fun K "reached" "reached" sRea f fd) (DA : Df P w K mg base 1 "ascending" ["places"] spAsc) : FnOk P w K mg base CX0 2 f fd ["rows", "places"] spRea := by
  refine fn_ok F sc_rea (fun _ _ => rfl) fun ⟨n, R, b, ps⟩ cdv B outer s H E ⟨hn, hl, hp⟩ hr => ?_
  have nd := sc_rea.nd
  have hn : n ≤ 300 := hn
  have hl : ps.length ≤ 1000 := hl
  have hp : ∀ p ∈ ps, p < n := hp
  let ns : List Int := ps.flatMap fun p => (asc n (R p)).map fun q : Nat => (q : Int)
  have len : (ps.flatMap fun p => asc n (R p)).length ≤ 300000 := by
    have z := flat_lenR (fun p => asc n (R p)) 300 (fun p => Nat.le_trans (asc_len n _) hn) ps
    omega
  have e1 : ns = (ps.flatMap fun p => asc n (R p)).map fun q : Nat => (q : Int) := by rw [List.map_flatMap]
  have e2 : (ps.flatMap fun p => (asc n (R p)).map fun q => nat q) = ns.map int := by
    rw [e1, List.map_map, List.map_flatMap]
    rfl
  have e3 : asc n (hasI ns) = asc n fun q => ps.any fun p => R p q := by
    refine asc_congr fun k hk => ?_
    rw [Bool.eq_iff_iff, List.any_eq_true]
    unfold hasI
    rw [decide_eq_true_eq, e1, List.mem_map]
    constructor
    · rintro ⟨q, hq, e⟩
      have : q = k := by omega
      subst this
      obtain ⟨p, h1, h2⟩ := List.mem_flatMap.mp hq
      exact ⟨p, h1, (asc_mem.mp h2).2⟩
    · rintro ⟨p, h1, h2⟩
      exact ⟨k, List.mem_flatMap.mpr ⟨p, h1, asc_mem.mpr ⟨hk, h2⟩⟩, rfl⟩
  have hin : InR n ns := fun x hx => by
    rw [e1] at hx
    obtain ⟨q, hq, rfl⟩ := List.mem_map.mp hx
    obtain ⟨p, h1, h2⟩ := List.mem_flatMap.mp hq
    have := (asc_mem.mp h2).1
    omega
  have hz : (ps.flatMap fun p => (asc n (R p)).map fun q => nat q).length < sizeLine := by
    rw [e2, List.length_map, e1, List.length_map, sizeLine_eq]
    omega
  have hns : ns.length < 1000000 := by
    rw [e1, List.length_map]
    omega
  refine ba_one (sa_ret (ea_is (ea_callB DA (hr.mono (show 1 ≤ 1 by decide)) (true, ns, n) ⟨hin, hns⟩ rfl (eas_cons (en_a (en_is (en_lc2 (own := [("place", 2), ("end", 3)]) (l := ps) (enc := nat) (m := fun p => asc n (R p)) (enc1 := fun _ q => nat q) (g := fun _ q => nat q) 2 3 rfl nd (es_sq (ea_var 1 rfl)) hz (blkOk_by (N := nRea) (sc := defScope sRea) (by decide +kernel)) (fun _ _ _ _ _ => pg_name nd rfl (Or.inl rfl)) (fun _ _ _ _ _ p hpm => ?src) (fun _ _ _ _ _ => pg_name nd rfl (Or.inl rfl)) (fun _ _ _ _ _ p _ q _ => ea_var 3 rfl)) e2)) eas_nil)) (by show natsT _ = natsT _; rw [e3])))
  have hpn := hp p hpm
  refine es_t (ea_ixT (j := p) (ea_var 0 rfl) (ea_w (ea_var 2 rfl)) rfl ?_)
  rw [List.getElem?_map, List.getElem?_range hpn]
  rfl
end
end Kv

set_option Elab.async false
set_option linter.all false
set_option maxRecDepth 100000
set_option maxHeartbeats 4000000
namespace Kv
open PySem PySem.Calls L2 Lk
abbrev okSz (i : R2I) : Prop := i.n ≤ 300 ∧ i.m ≤ 300
abbrev andR (R S : Nat → Nat → Bool) : Nat → Nat → Bool := fun p q => R p q && S p q
abbrev orR (R S : Nat → Nat → Bool) : Nat → Nat → Bool := fun p q => R p q || S p q
/-- over all middle places -/
abbrev mulR (n : Nat) (R S : Nat → Nat → Bool) : Nat → Nat → Bool := fun p q => (asc n (R p)).any fun r => S r q
abbrev idR : Nat → Nat → Bool := fun p q => p == q
section
variable {P : Program} {w : World} {K : PySem.W.Frag} {mg : Str → Option Value} {base : Heap} {C CP CM : Addr}
/-- the first statement of an operator: the sizes are the same -/
theorem ba_rqs {X : Cx} {i : R2I} {ρ : List En} {W : Wn} {sts : List Stmt} {Nx : List En → Prop} {p1 p2 p3 p4 p5 : Pos} {A : As} (DQ : DfX X.prog X.w X.K X.mg X.base 1 "require_same_size" ["first", "second"] (spRqs C CM)) (hr : Room 1 X.A) (tk : Takes X W.wx) (h1 : EA X (.Name "self" p2) ρ (relA C i.n i.R)) (h2 : EA X (.Name "other" p3) ρ (relA C i.m i.S))
    (he : ∀ F cls d, (ocSm CM i.n i.m A).E F cls d → W.er ρ F cls d) (hg : Gl X "require_same_size") (hs : starEach [.Name "self" p2, .Name "other" p3] X.env = (false, eval (.Name "self" p2) X.env) :: starEach [.Name "other" p3] X.env) (hs2 : starEach [.Name "other" p3] X.env = (false, eval (.Name "other" p3) X.env) :: starEach [] X.env) (hpl : (backTo p4 (starEach [.Name "other" p3] X.env)).any (·.1) = false)
    (hsw : swapsWith (.Call (.Name "require_same_size" p1) [.Name "self" p2, .Name "other" p3] [] p4) none p5.line X.env = pure false) (k : i.n = i.m → BA X sts ρ Nx W) :
    BA X (.Expr (.Call (.Name "require_same_size" p1) [.Name "self" p2, .Name "other" p3] [] p4) p5 :: sts) ρ Nx W := by
  refine ba_cons (sa_exprX (o1 := ocSm CM i.n i.m non) (ex_call DQ hr tk i trivial (eas_cons h1 (eas_cons h2 eas_nil hs2) hs) hg (by decide) hs hpl) (fun F cls d z => he F cls d ?_) (fun ⟨F, v, hv⟩ => k ?_) hsw)
  · unfold ocSm at z ⊢
    by_cases e : i.n = i.m
    · rw [if_pos e] at z; exact z.elim
    · rw [if_neg e] at z ⊢; exact z
  · by_cases e : i.n = i.m
    · exact e
    · unfold ocSm at hv
      rw [if_neg e] at hv
      exact hv.elim
theorem ocSm_eq {CM : Addr} {n : Nat} {A : As} : ocSm CM n n A = .ret A := if_pos rfl
theorem getD_range {α : Type} {n p : Nat} {f : Nat → α} {d : α} (h : p < n) : ((List.range n).map f).getD p d = f p := by
  rw [List.getD_eq_getElem?_getD, List.getElem?_map, List.getElem?_range h]
  rfl
/-- rows made for all places -/
theorem mk_rows {n : Nat} {T : Nat → Nat → Bool} (hn : n ≤ 300) : RelOk (intsOf ((List.range n).map fun p => asc n (T p))) ∧ ocRel C CP (intsOf ((List.range n).map fun p => asc n (T p))) = .ret (relA C n T) := by
  refine mk_ok (C := C) (CP := CP) (n := n) (by omega) (by rw [List.length_map, List.length_range]) (fun l hl => ?_) fun p q hp hq => ?_
  · obtain ⟨p, _, rfl⟩ := List.mem_map.mp hl
    have := asc_len n (T p)
    exact ⟨by omega, fun q hq => (asc_mem.mp hq).1⟩
  · rw [getD_range hp, Bool.eq_iff_iff, decide_eq_true_eq, asc_mem]
    exact ⟨fun h => h.2, fun h => ⟨hq, h⟩⟩
end
end Kv

set_option Elab.async false
set_option linter.all false
set_option maxRecDepth 100000
set_option maxHeartbeats 4000000
namespace Kv
open PySem PySem.Calls L2 Lk
section
variable {P : Program} {w : World} {K : PySem.W.Frag} {mg : Str → Option Value} {base : Heap} {C CP CM : Addr}
/-! ### a * b -/
abbrev sMul : Stmt := (inClass (topS 17) 4)
abbrev nMul : List Str := ["self", "other", "row"]
theorem sc_mul : FnScope nMul ["self", "other"] (defScope sMul) := ⟨rfl, rfl, rfl, by decide +kernel, rfl, by decide +kernel, by decide +kernel⟩
abbrev spMul (C CM : Addr) : Sp := spO okSz (fun i : R2I => [relA C i.n i.R, relA C i.m i.S]) (fun i => ocSm CM i.n i.m (relA C i.n (mulR i.n i.R i.S)))
theorem ok_mul {f : Addr} {fd : FuncData} (F : Fun K "__mul__" "Relation.__mul__" sMul f fd) (T : RTx K C) (DE : Df P w K mg base 2 "reached" ["rows", "places"] spRea) (DQ : DfX P w K mg base 1 "require_same_size" ["first", "second"] (spRqs C CM)) (DK : MkX P w K mg base 4 C "Relation" ["self", "rows"] (spRelI C CP)) : FnOk P w K mg base (L2.CX P w) 6 f fd ["self", "other"] (spMul C CM) := by
  refine fn_okX F sc_mul (fun _ _ => rfl) fun ⟨n, R, m, S⟩ cdv B outer s H E ⟨hn, hm⟩ hr tk po => ?_
  have nd := sc_mul.nd
  have hn : n ≤ 300 := hn
  refine ba_rqs (i := ⟨n, R, m, S⟩) (A := relA C n (mulR n R S)) DQ (hr.mono (show 1 ≤ 5 by decide)) tk (ea_var 0 rfl) (ea_var 1 rfl) (fun F cls d z => z) rfl rfl rfl rfl rfl fun e => ?_
  have e : n = m := e
  subst e
  let ls : List (List Nat) := (List.range n).map fun p => asc n (mulR n R S p)
  obtain ⟨h1, h2⟩ := mk_rows (C := C) (CP := CP) (n := n) (T := mulR n R S) hn
  refine ba_one (sa_retX (o1 := .ret (relA C n (mulR n R S))) (ex_is (ex_make DK hr tk (true, false, intsOf ls) h1 (eas_cons (en_a (en_is (en_lcSA (own := [("row", 2)]) (l := List.range n) (enc := fun p => natsT (asc n (R p))) (g := fun p => natsT (asc n (mulR n R S p))) 2 rfl nd
      (es_t (ea_fld (A := rowsA n R) (ea_var 0 rfl) T.cl T.nR rfl)) (by rw [List.length_range, sizeLine_eq]; omega) (blkOk_by (N := nMul) (sc := defScope sMul) (by decide +kernel))
      (fun _ _ _ _ _ => pg_name nd rfl (Or.inl rfl)) (fun _ _ _ _ _ p _ => ?el)) ?eq)) eas_nil)) h2) (fun F cls d z => z.elim) (fun F v hv => ?fin))
  case el =>
    have a1 := asc_len n (R p)
    exact ea_is (ea_callB DE (hr.mono (show 2 ≤ 5 by decide)) (n, S, false, asc n (R p)) ⟨hn, by show (asc n (R p)).length ≤ 1000; omega, fun r hr => (asc_mem.mp hr).1⟩ rfl (eas_cons (ea_fld (A := rowsA n S) (ea_var 1 rfl) T.cl T.nR rfl) (eas_cons (ea_var 2 rfl) eas_nil))) rfl
  case eq =>
    rw [intsOf_as, List.map_map]
    rfl
  case fin =>
    show (ocSm CM n n (relA C n (mulR n R S))).R.p F v
    rw [ocSm_eq]
    exact hv
end
section
variable {X : Cx} {a b e : Expr} {ρ : List En} {pos p1 p2 : Pos} {n : Nat} {R S : Nat → Nat → Bool} {C CP CM : Addr}
theorem ea_mulX (D : MfX X.prog X.w X.K X.mg X.base 6 C "__mul__" ["self", "other"] (spMul C CM)) (sf : PySem.W.selfFirst X.K C = true) (hr : Room 6 X.A) (hn : n ≤ 300) (ha : EA X a ρ (relA C n R)) (hb : EA X b ρ (relA C n S)) : EA X (.BinOp a .Mult b pos) ρ (relA C n (mulR n R S)) :=
  ea_binX D (by decide) sf hr ⟨n, R, n, S⟩ ⟨hn, hn⟩ ocSm_eq ha hb rfl
end
end Kv

set_option Elab.async false
set_option linter.all false
set_option maxRecDepth 100000
set_option maxHeartbeats 4000000
namespace Kv
open PySem PySem.Calls L2 Lk
/-! ### names -/
abbrev sNames : Stmt := (topS 41)
abbrev nNames : List Str := ["_law_script", "_law_k", "_law_count", "_law_signs", "_law_digits_here", "_law_left", "_law_right", "_law_names_here", "_law_j", "_law_name"]
theorem sc_names : FnScope nNames ["_law_script", "_law_k", "_law_count"] (defScope sNames) := ⟨rfl, rfl, rfl, by decide +kernel, rfl, by decide +kernel, by decide +kernel⟩
def sgs : Str := "aZ3bY7cX1dW9eV5fU2gT8hS4iR6jQ0kPlOmNnMoLpKqJrIsHtGuFvEwDxCyBzA"
def sgl : List Nat := sgs.cps.toList
theorem sgl_len : sgl.length = 62 := by decide +kernel
theorem sgs_len : sgs.length = 62 := by decide +kernel
theorem sgl_nd : sgl.Nodup := by decide +kernel
theorem sgl_al : ∀ c ∈ sgl, alnum c = true := by decide +kernel
def sg (i : Nat) : Nat := sgl.getD i 0
theorem sg_at {i : Nat} (h : i < 62) : sgs.cps.toList[i]? = some (sg i) := by
  have hl : i < sgl.length := by rw [sgl_len]; exact h
  show sgl[i]? = some (sgl.getD i 0)
  rw [List.getD_eq_getElem?_getD, List.getElem?_eq_getElem hl]
  rfl
theorem sg_al {i : Nat} (h : i < 62) : alnum (sg i) = true := sgl_al _ (List.mem_of_getElem? (sg_at h))
theorem sg_inj {i j : Nat} (h1 : i < 62) (h2 : j < 62) (h : sg i = sg j) : i = j := by
  have a := sg_at h1
  have b := sg_at h2
  rw [h] at a
  exact nd_ix sgl_nd a b
/-- the sign that a number picks -/
def pk (z : Int) : Nat := sg (z % 62).toNat
theorem pk_lt (z : Int) : (z % 62).toNat < 62 := by omega
theorem pk_al (z : Int) : alnum (pk z) = true := sg_al (pk_lt z)
theorem pk_at (z : Int) : sgs.cps.toList[(z % 62).toNat]? = some (pk z) := sg_at (pk_lt z)
theorem join1 (cs : List Nat) : Txt.join (Str.ofString "") (cs.map fun c => S [c]) = S cs := by
  have e0 : (Str.ofString "").cps = #[] := by decide +kernel
  have key : ∀ (cs : List Nat) (acc : Array Nat), (cs.map fun c => S [c]).foldl (fun acc p => acc ++ (Str.ofString "").cps ++ p.cps) acc = acc ++ cs.toArray := by
    intro cs
    induction cs with
    | nil => intro acc; simp
    | cons c cs ih =>
      intro acc
      rw [List.map_cons, List.foldl_cons, ih, e0]
      apply Array.ext'
      simp [S]
  show Builtin.Str.glued (Str.ofString "") (cs.map fun c => S [c]) = S cs
  unfold Builtin.Str.glued S
  congr 1
  cases cs with
  | nil => rfl
  | cons c cs =>
    have k := key cs #[c]
    rw [List.map_cons, List.drop_one, List.tail_cons, List.headD_cons]
    exact k.trans (by simp)
theorem join1_sum (cs : List Nat) : ((cs.map fun c => S [c]).map (·.length)).sum = cs.length := by
  rw [List.map_map]
  induction cs with
  | nil => rfl
  | cons c cs ih =>
    rw [List.map_cons, List.sum_cons, ih]
    show (S [c]).length + cs.length = cs.length + 1
    rw [S_len]
    show 1 + cs.length = cs.length + 1
    omega
/-- the parts of the names -/
def lft (ds : List Int) : List Nat := (List.range (ds.getD 0 0 % 4).toNat).map fun j => pk (5 * ds.getD (4 + j) 0 + 11 * (j : Int))
def rgt (ds : List Int) : List Nat := (List.range (ds.getD 1 0 % 5).toNat).map fun j => pk (5 * ds.getD (7 + j) 0 + 17 * (j : Int))
def nmC (ds : List Int) (j : Nat) : Nat := pk (12 * ds.getD 2 0 + ds.getD 3 0 + 7 * (j : Int))
def nm (ds : List Int) (j : Nat) : List Nat := if (ds.getD 11 0 % 2 = 0 ∨ (j : Int) % 2 = 0) then lft ds ++ [nmC ds j] ++ rgt ds else lft ds ++ [nmC ds j]
/-- names: so many notes, all different -/
def Names (n : Nat) (l : List Str) : Prop := l.length = n ∧ l.Nodup ∧ ∀ s ∈ l, Note s
theorem nm_note (ds : List Int) (j : Nat) : Note (S (nm ds j)) := by
  have l1 : (lft ds).length ≤ 3 := by
    unfold lft
    rw [List.length_map, List.length_range]
    omega
  have l2 : (rgt ds).length ≤ 4 := by
    unfold rgt
    rw [List.length_map, List.length_range]
    omega
  have a1 : ∀ c ∈ lft ds, alnum c = true := fun c hc => by
    obtain ⟨i, _, e⟩ := List.mem_map.mp hc
    rw [← e]
    exact pk_al _
  have a2 : ∀ c ∈ rgt ds, alnum c = true := fun c hc => by
    obtain ⟨i, _, e⟩ := List.mem_map.mp hc
    rw [← e]
    exact pk_al _
  refine ⟨_, rfl, ?_, ?_, fun c hc => ?_⟩
  · unfold nm
    split <;> simp <;> omega
  · unfold nm
    split <;> simp <;> omega
  · unfold nm at hc
    split at hc
    · rcases List.mem_append.mp hc with h | h
      · rcases List.mem_append.mp h with h | h
        · exact a1 c h
        · rw [List.mem_singleton.mp h]
          exact pk_al _
      · exact a2 c h
    · rcases List.mem_append.mp hc with h | h
      · exact a1 c h
      · rw [List.mem_singleton.mp h]
        exact pk_al _
theorem nm_inj (ds : List Int) {i j : Nat} (hi : i < 4) (hj : j < 4) (h : nm ds i = nm ds j) : i = j := by
  have at_ : ∀ j, (nm ds j)[(lft ds).length]? = some (nmC ds j) := fun j => by
    unfold nm
    split <;> simp
  have e : nmC ds i = nmC ds j := by
    have a := at_ i
    rw [h, at_ j] at a
    exact (Option.some.inj a).symm
  have q := sg_inj (pk_lt _) (pk_lt _) e
  omega
theorem nms_names (ds : List Int) {n : Nat} (hn : n ≤ 4) : Names n ((List.range n).map fun j => S (nm ds j)) := by
  refine ⟨by simp, ?_, fun s hs => ?_⟩
  · rw [List.nodup_iff_pairwise_ne, List.pairwise_map]
    refine List.Pairwise.imp_of_mem ?_ (List.nodup_iff_pairwise_ne.mp List.nodup_range)
    intro a b ha hb hab e
    rw [List.mem_range] at ha hb
    exact hab (nm_inj ds (by omega) (by omega) (S_inj e))
  · obtain ⟨j, _, e⟩ := List.mem_map.mp hs
    rw [← e]
    exact nm_note ds j
section
variable {P : Program} {w : World} {K : PySem.W.Frag} {mg : Str → Option Value} {base : Heap}
abbrev strsA (l : List Str) : As := lstA (l.map str)
abbrev namesA (n : Nat) : As := exA (Names n) strsA
abbrev spNames (K : PySem.W.Frag) : Sp := spX (fun i : List Int × Nat × Nat => i.2.1 ≤ 1000 ∧ i.2.2 ≤ 4) (fun i => [scr K i.1, int (i.2.1 : Int), int (i.2.2 : Int)]) (fun i => namesA i.2.2)
theorem ok_names {f : Addr} {fd : FuncData} (F : Fun K "_law_names" "_law_names" sNames f fd) (mI : mg "int" = none) (mR : mg "range" = none) (DD : Df P w K mg base 2 "_law_digits" ["_law_script", "_law_k", "_law_count"] (spDigits K)) : FnOk P w K mg base CX0 3 f fd ["_law_script", "_law_k", "_law_count"] (spNames K) := by
  refine fn_ok F sc_names (fun _ _ => rfl) fun ⟨ns, k, n⟩ cdv B outer s H E ⟨hk, hn⟩ hr => ?_
  have nd := sc_names.nd
  have hk : k ≤ 1000 := hk
  have hn : n ≤ 4 := hn
  refine ba_cons (sa_set 3 nd ea_str ?_)
  refine ba_cons (sa_set 4 nd (ea_call DD hr (ns, k, 12) ⟨hk, (by decide : 12 ≤ 1000)⟩ (eas_cons (ea_var 0 rfl) (eas_cons (ea_var 1 rfl) (eas_cons ea_int eas_nil)))) ?_)
  refine ba_ex (i := 4) rfl fun ds hD => ?_
  have hD : Digs 12 ds := hD
  have b0 := digb hD 0
  have b1 := digb hD 1
  have em : ∀ z n : Int, 0 < n → 0 ≤ z % n ∧ z % n < n := fun z n h => ⟨Int.emod_nonneg _ (by omega), Int.emod_lt_of_pos _ h⟩
  have e4 := em (ds.getD 0 0) 4 (by decide)
  have e5 := em (ds.getD 1 0) 5 (by decide)
  -- left
  refine ba_cons (sa_set 5 nd (A := str (S (lft ds))) (ea_is (ea_joinL (zs := (lft ds).map fun c => S [c]) (ea_w ea_str) ?he ?hz) (by rw [join1])) ?_)
  case hz =>
    rw [join1_sum]
    unfold lft
    rw [List.length_map, List.length_map, List.length_range, show (Str.ofString "").length = 0 by decide +kernel]
    omega
  case he =>
    refine el_is (en_l (en_lcR (own := [("_law_j", 8)]) 8 (z := ds.getD 0 0 % 4) (p := fun _ => true) (g := fun j => str (S [pk (5 * ds.getD (4 + j) 0 + 11 * (j : Int))])) rfl nd mR ?hi ⟨by omega, by omega⟩ (blkOk_by (N := nNames) (sc := defScope sNames) (by decide +kernel)) (fun _ _ _ _ _ => pg_name nd rfl (Or.inl rfl)) (fun _ _ _ _ _ _ _ => pts_yes) (fun _ _ _ _ _ j hj _ => ?el))) ?eq
    case hi => exact ea_w (ea_mod (ea_w (ea_int1 (ea_w (ea_ixL (ea_l (ea_var 4 rfl)) (ea_w ea_int) rfl (dig hD (i := 0) (by decide)))) mI)) (ea_w ea_int) (by decide))
    case eq =>
      rw [flt_true]
      unfold lft
      rw [List.map_map, List.map_map]
      rfl
    case el =>
      have hj : j < 12 - 4 := by
        have z := List.mem_range.mp hj
        omega
      refine ea_ixS (s := sgs) (ea_w (ea_var 3 rfl)) ?_ (by rw [sgs_len]; decide) (Int.toNat_of_nonneg (em _ 62 (by decide)).1).symm (pk_at _)
      exact ea_w (ea_mod (ea_w (ea_int1 (ea_w (ea_add (ea_w (ea_mul (ea_w ea_int) (ea_w (ea_ixL (ea_l (ea_var 4 rfl)) (ea_w (ea_add (ea_w ea_int) (ea_w (ea_var 8 rfl)))) (j := 4 + j) (by omega) (dig hD (i := 4 + j) (by omega)))) (.inl ⟨by decide, by decide⟩))) (ea_w (ea_mul (ea_w ea_int) (ea_w (ea_var 8 rfl)) (.inl ⟨by decide, by decide⟩))))) mI)) (ea_w ea_int) (by decide))
  -- right
  refine ba_cons (sa_set 6 nd (A := str (S (rgt ds))) (ea_is (ea_joinL (zs := (rgt ds).map fun c => S [c]) (ea_w ea_str) ?he ?hz) (by rw [join1])) ?_)
  case hz =>
    rw [join1_sum]
    unfold rgt
    rw [List.length_map, List.length_map, List.length_range, show (Str.ofString "").length = 0 by decide +kernel]
    omega
  case he =>
    refine el_is (en_l (en_lcR (own := [("_law_j", 8)]) 8 (z := ds.getD 1 0 % 5) (p := fun _ => true) (g := fun j => str (S [pk (5 * ds.getD (7 + j) 0 + 17 * (j : Int))])) rfl nd mR ?hi ⟨by omega, by omega⟩ (blkOk_by (N := nNames) (sc := defScope sNames) (by decide +kernel)) (fun _ _ _ _ _ => pg_name nd rfl (Or.inl rfl)) (fun _ _ _ _ _ _ _ => pts_yes) (fun _ _ _ _ _ j hj _ => ?el))) ?eq
    case hi => exact ea_w (ea_mod (ea_w (ea_int1 (ea_w (ea_ixL (ea_l (ea_var 4 rfl)) (ea_w ea_int) rfl (dig hD (i := 1) (by decide)))) mI)) (ea_w ea_int) (by decide))
    case eq =>
      rw [flt_true]
      unfold rgt
      rw [List.map_map, List.map_map]
      rfl
    case el =>
      have hj : j < 12 - 7 := by
        have z := List.mem_range.mp hj
        omega
      refine ea_ixS (s := sgs) (ea_w (ea_var 3 rfl)) ?_ (by rw [sgs_len]; decide) (Int.toNat_of_nonneg (em _ 62 (by decide)).1).symm (pk_at _)
      exact ea_w (ea_mod (ea_w (ea_int1 (ea_w (ea_add (ea_w (ea_mul (ea_w ea_int) (ea_w (ea_ixL (ea_l (ea_var 4 rfl)) (ea_w (ea_add (ea_w ea_int) (ea_w (ea_var 8 rfl)))) (j := 7 + j) (by omega) (dig hD (i := 7 + j) (by omega)))) (.inl ⟨by decide, by decide⟩))) (ea_w (ea_mul (ea_w ea_int) (ea_w (ea_var 8 rfl)) (.inl ⟨by decide, by decide⟩))))) mI)) (ea_w ea_int) (by decide))
  have s1 : (S (lft ds)).length ≤ 4 := by
    rw [S_len]
    unfold lft
    rw [List.length_map, List.length_range]
    omega
  have s2 : (S (rgt ds)).length ≤ 5 := by
    rw [S_len]
    unfold rgt
    rw [List.length_map, List.length_range]
    omega
  -- the names
  refine ba_cons (sa_setN 7 nd (en_lst eas_nil (Nat.zero_le _)) ?_)
  refine ba_cons (sa_forR 8 (fun i ρ' => ρ' = [.fr (scr K ns), .fr (int (k : Int)), .fr (int (n : Int)), .fr (str sgs), .fr (lstA (ds.map int)), .fr (str (S (lft ds))), .fr (str (S (rgt ds))), .own ((List.range i).map fun j => str (S (nm ds j))), .no, .no]) PassesOwn.never rfl nd mR (ea_w (ea_var 2 rfl)) ⟨by omega, by omega⟩ ?h0 ?hs ?hd)
  case h0 => exact ⟨_, rfl, Le.refl _⟩
  case hs =>
    rintro i ρ' hi rfl
    have hi : i < n := by simpa using hi
    have sz : (S [nmC ds i]).length = 1 := S_len _
    refine ba_cons (sa_set 9 nd (A := str (S (lft ds ++ [nmC ds i]))) (ea_is (ea_adds (s := S (lft ds)) (t := S [nmC ds i]) (ea_w (ea_var 5 rfl)) (ea_w ?_) (by rw [sz, sizeLine_eq]; omega)) (by rw [S_app])) ?_)
    · refine ea_ixS (s := sgs) (ea_w (ea_var 3 rfl)) ?_ (by rw [sgs_len]; decide) (Int.toNat_of_nonneg (em _ 62 (by decide)).1).symm (pk_at _)
      exact ea_w (ea_mod (ea_w (ea_int1 (ea_w (ea_add (ea_w (ea_add (ea_w (ea_mul (ea_w ea_int) (ea_w (ea_ixL (ea_l (ea_var 4 rfl)) (ea_w ea_int) rfl (dig hD (i := 2) (by decide)))) (.inl ⟨by decide, by decide⟩))) (ea_w (ea_ixL (ea_l (ea_var 4 rfl)) (ea_w ea_int) rfl (dig hD (i := 3) (by decide)))))) (ea_w (ea_mul (ea_w ea_int) (ea_w (ea_var 8 rfl)) (.inl ⟨by decide, by decide⟩))))) mI)) (ea_w ea_int) (by decide))
    have l8 : (S (lft ds ++ [nmC ds i])).length = (S (lft ds)).length + 1 := by
      rw [S_len, S_len]
      simp
    refine ba_cons (sa_nx (Mid := fun ρ' => ρ' = [.fr (scr K ns), .fr (int (k : Int)), .fr (int (n : Int)), .fr (str sgs), .fr (lstA (ds.map int)), .fr (str (S (lft ds))), .fr (str (S (rgt ds))), .own ((List.range i).map fun j => str (S (nm ds j))), .fr (int (i : Int)), .fr (str (S (nm ds i)))])
      (sa_if (et_w (ewt_or (et_cm (ea_w (ea_mod (ea_w (ea_int1 (ea_w (ea_ixL (ea_l (ea_var 4 rfl)) (ea_w ea_int) rfl (dig hD (i := 11) (by decide)))) mI)) (ea_w ea_int) (by decide))) (ea_w ea_int) cm_eqI rfl) fun _ => ewt_or1 (et_cm (ea_w (ea_mod (ea_w (ea_int1 (ea_w (ea_var 8 rfl)) mI)) (ea_w ea_int) (by decide))) (ea_w ea_int) cm_eqI rfl)))
        (fun h => ?_) (fun h => ?_)) ?_)
    · have h2 : ds.getD 11 0 % 2 = 0 ∨ (i : Int) % 2 = 0 := by
        rcases Bool.or_eq_true_iff.mp h with z | z
        · exact .inl (of_decide_eq_true z)
        · exact .inr (of_decide_eq_true z)
      refine ba_one (sa_set 9 nd (A := str (S (nm ds i))) (ea_is (ea_adds (s := S (lft ds ++ [nmC ds i])) (t := S (rgt ds)) (ea_w (ea_var 9 rfl)) (ea_w (ea_var 6 rfl)) (by rw [l8, sizeLine_eq]; omega)) ?_) rfl)
      rw [S_app]
      unfold nm
      rw [if_pos h2]
    · have h2 : ¬ (ds.getD 11 0 % 2 = 0 ∨ (i : Int) % 2 = 0) := fun z => by
        obtain ⟨z1, z2⟩ := Bool.or_eq_false_iff.mp h
        rcases z with z | z
        · exact of_decide_eq_false z1 z
        · exact of_decide_eq_false z2 z
      refine ba_nil ?_
      have e : nm ds i = lft ds ++ [nmC ds i] := by
        unfold nm
        rw [if_neg h2]
      rw [e]
      rfl
    rintro ρ' rfl
    refine ba_one (sa_app 7 rfl (pe_app 7 (ea_var 9 rfl)) (by rw [List.length_map, List.length_range, sizeLine_eq]; omega) ?_)
    refine ⟨_, rfl, ?_⟩
    rw [List.range_succ, List.map_append]
    exact .same (.same (.same (.same (.same (.same (.same (.same (.no (.no .nil)))))))))
  case hd =>
    rintro ρ' rfl
    refine ba_free (i := 7) rfl (ba_one (sa_ret (ea_imp (ea_var 7 rfl) fun F v hv => ⟨(List.range n).map fun j => S (nm ds j), nms_names ds hn, ?_⟩)))
    show (lstA (List.map str (List.map (fun j => S (nm ds j)) (List.range n)))).p F v
    rw [List.map_map]
    have hv2 : (lstA (List.map (fun j => str (S (nm ds j))) (List.range n))).p F v := by simpa using hv
    exact hv2
end
end Kv

set_option Elab.async false
set_option linter.all false
set_option maxRecDepth 100000
set_option maxHeartbeats 4000000
namespace Kv
open PySem PySem.Calls L2 Lk
/-! ### models -/
abbrev Pr := Str × Str
abbrev prA (p : Pr) : As := tupA [str p.1, str p.2]
abbrev stA (s : Pr × Pr) : As := tupA [prA s.1, prA s.2]
abbrev prsA (l : List Pr) : As := lstA (l.map prA)
abbrev stsA (l : List (Pr × Pr)) : As := lstA (l.map stA)
structure Md where
  names : List Str
  pairs : List Pr
  opens : List Pr
  closes : List Pr
  steps : List (Pr × Pr)
abbrev mdA (m : Md) : As := lstA [strsA m.names, prsA m.pairs, prsA m.opens, prsA m.closes, stsA m.steps]
def prod (l : List Pr) : List (Pr × Pr) := l.flatMap fun a => l.map fun b => (a, b)
def pairsOf (names : List Str) (as : List (List Str)) : List Pr := (names.zip as).flatMap fun p => p.2.map fun a => (p.1, a)
structure Good (m : Md) : Prop where
  nl : m.names.length ≤ 4
  nn : m.names.Nodup
  nt : ∀ s ∈ m.names, Note s
  pr : ∃ as : List (List Str), as.length = m.names.length ∧ m.pairs = pairsOf m.names as ∧ ∀ a ∈ as, a.length ≤ 4 ∧ a.Nodup ∧ ∀ s ∈ a, Note s
  op : m.opens.Sublist m.pairs
  cl : m.closes.Sublist m.pairs
  st : m.steps.Sublist (prod m.pairs)
theorem pairsOf_snoc {names : List Str} {as : List (List Str)} {a : List Str} {s : Str} (h : names[as.length]? = some s) : pairsOf names (as ++ [a]) = pairsOf names as ++ a.map fun x => (s, x) := by
  have hl : as.length < names.length := (List.getElem?_eq_some_iff.mp h).1
  have key : ∀ (names : List Str) (as : List (List Str)), names[as.length]? = some s → names.zip (as ++ [a]) = names.zip as ++ [(s, a)] := by
    intro names as
    induction as generalizing names with
    | nil =>
      intro h
      cases names with
      | nil => simp at h
      | cons n r =>
        have h : n = s := by simpa using h
        subst h
        simp
    | cons b as ih =>
      intro h
      cases names with
      | nil => simp at h
      | cons n r =>
        have h : r[as.length]? = some s := by simpa using h
        simp [ih r h]
  unfold pairsOf
  rw [key names as h, List.flatMap_append]
  simp
theorem range_getD {α : Type} (l : List α) (d : α) : (List.range l.length).map (fun j => l.getD j d) = l := by
  apply List.ext_getElem?
  intro i
  by_cases h : i < l.length
  · rw [List.getElem?_map, List.getElem?_range h]
    show some (l.getD i d) = l[i]?
    rw [List.getD_eq_getElem?_getD, List.getElem?_eq_getElem h]
    rfl
  · rw [List.getElem?_eq_none (by simpa using Nat.le_of_not_lt h), List.getElem?_eq_none (by omega)]
theorem range_sub {α : Type} (l : List α) (d : α) (p : Nat → Bool) : (((List.range l.length).filter p).map fun j => l.getD j d).Sublist l := by
  have h := (List.filter_sublist (p := p) (l := List.range l.length)).map fun j => l.getD j d
  rw [range_getD] at h
  exact h
theorem range_mul {α : Type} (f : Nat → Nat → α) (p : Nat) : ∀ n : Nat, (List.range (n * p)).map (fun j => f (j / p) (j % p)) = (List.range n).flatMap fun a => (List.range p).map fun b => f a b
  | 0 => by simp
  | n + 1 => by
    by_cases hp : p = 0
    · subst hp
      simp
    · rw [Nat.succ_mul, List.range_add, List.map_append, range_mul f p n, List.range_succ, List.flatMap_append, List.map_map]
      congr 1
      rw [List.flatMap_cons, List.flatMap_nil, List.append_nil]
      refine List.map_congr_left fun b hb => ?_
      have hb : b < p := List.mem_range.mp hb
      show f ((n * p + b) / p) ((n * p + b) % p) = f n b
      have e1 : (n * p + b) / p = n := by
        rw [Nat.mul_comm, Nat.mul_add_div (by omega), Nat.div_eq_of_lt hb, Nat.add_zero]
      have e2 : (n * p + b) % p = b := by
        rw [Nat.mul_comm, Nat.mul_add_mod, Nat.mod_eq_of_lt hb]
      rw [e1, e2]
theorem flatMap_range {α β : Type} (l : List α) (d : α) (f : α → List β) : (List.range l.length).flatMap (fun a => f (l.getD a d)) = l.flatMap f := by
  have e : ((List.range l.length).map fun a => l.getD a d).flatMap f = l.flatMap f := by rw [range_getD]
  rw [List.flatMap_map] at e
  exact e
theorem map_range {α β : Type} (l : List α) (d : α) (f : α → β) : (List.range l.length).map (fun a => f (l.getD a d)) = l.map f := by
  have e : ((List.range l.length).map fun a => l.getD a d).map f = l.map f := by rw [range_getD]
  rw [List.map_map] at e
  exact e
theorem prod_range (l : List Pr) (d : Pr) : (List.range (l.length * l.length)).map (fun j => (l.getD (j / l.length) d, l.getD (j % l.length) d)) = prod l := by
  rw [range_mul (fun a b => (l.getD a d, l.getD b d))]
  have e : ∀ a : Nat, ((List.range l.length).map fun b => (l.getD a d, l.getD b d)) = l.map fun b => (l.getD a d, b) := fun a => map_range l d fun b => (l.getD a d, b)
  simp only [e]
  exact flatMap_range l d fun a => l.map fun b => (a, b)
theorem prod_sub (l : List Pr) (d : Pr) (p : Nat → Bool) : (((List.range (l.length * l.length)).filter p).map fun j => (l.getD (j / l.length) d, l.getD (j % l.length) d)).Sublist (prod l) := by
  have h := (List.filter_sublist (p := p) (l := List.range (l.length * l.length))).map fun j => (l.getD (j / l.length) d, l.getD (j % l.length) d)
  rw [prod_range] at h
  exact h
theorem eraseIdx_map {α β : Type} (f : α → β) (l : List α) (i : Nat) : (l.map f).eraseIdx i = (l.eraseIdx i).map f := by
  induction l generalizing i with
  | nil => rfl
  | cons a l ih =>
    cases i with
    | zero => rfl
    | succ i => simp [ih]
theorem zip_take {α β : Type} : ∀ (l : List α) (m : List β), (l.take m.length).zip m = l.zip m
  | [], _ => by simp
  | _ :: _, [] => by simp
  | a :: l, b :: m => by simp [zip_take l m]
/-! ### free -/
abbrev sFree : Stmt := (topS 42)
abbrev nFree : List Str := ["_law_digits_here", "_law_names_here", "_law_marks", "_law_many", "_law_pairs", "_law_j", "_law_size", "_law_i", "_law_p", "_law_bound", "_law_opens", "_law_closes", "_law_steps"]
theorem sc_free : FnScope nFree ["_law_digits_here", "_law_names_here", "_law_marks"] (defScope sFree) := ⟨rfl, rfl, rfl, by decide +kernel, rfl, by decide +kernel, by decide +kernel⟩
def tbMany : List Int := [1, 2, 2, 3, 2, 3, 1, 2, 0, 2, 4, 2]
def tbSize : List Int := [2, 1, 3, 2, 0, 3, 1, 2, 4, 2, 2, 3]
theorem tbMany_b : ∀ x ∈ tbMany, 0 ≤ x ∧ x ≤ 4 := by decide
theorem tbSize_b : ∀ x ∈ tbSize, 0 ≤ x ∧ x ≤ 4 := by decide
local macro_rules | `(tactic| walk_at "ints") => `(tactic| repeat (first | exact eas_nil | refine eas_cons ea_int ?_))
section
variable {P : Program} {w : World} {K : PySem.W.Frag} {mg : Str → Option Value} {base : Heap}
abbrev gmdA : As := exA Good mdA
/-- digits, names, marks -/
abbrev spFree : Sp := spX (fun i : List Int × List Str × List Str => Digs 56 i.1 ∧ Names 4 i.2.1 ∧ Names 4 i.2.2) (fun i => [lstA (i.1.map int), strsA i.2.1, strsA i.2.2]) (fun _ => gmdA)
theorem ok_free {f : Addr} {fd : FuncData} (F : Fun K "_law_free" "_law_free" sFree f fd) (mR : mg "range" = none) (mL : mg "len" = none) : FnOk P w K mg base CX0 1 f fd ["_law_digits_here", "_law_names_here", "_law_marks"] spFree := by
  refine fn_ok F sc_free (fun _ _ => rfl) fun ⟨ds, ns, ms⟩ cdv B outer s H E ⟨hD, hN, hM⟩ hr => ?_
  have nd := sc_free.nd
  have hD : Digs 56 ds := hD
  have hN : Names 4 ns := hN
  have hM : Names 4 ms := hM
  have n1 := hN.1
  have m1 := hM.1
  -- many
  refine ba_cons (sa_set 3 nd (ea_nat 4 (ea_tbl (tb := tbMany) ?_ (ea_w (ea_ixL (ea_l (ea_var 0 rfl)) (ea_w ea_int) rfl (dig hD (i := 1) (by decide)))) (digb hD 1).1 (digb hD 1).2 (by decide)) ?_ ?_) ?_)
  · show EAs _ _ _ [int 1, int 2, int 2, int 3, int 2, int 3, int 1, int 2, int 0, int 2, int 4, int 2]
    walk_at "ints"
  · exact (tbMany_b _ (tb_mem (by have := digb hD 1; show _ < 12; omega))).1
  · exact (tbMany_b _ (tb_mem (by have := digb hD 1; show _ < 12; omega))).2
  refine ba_ex (i := 3) rfl fun many hmany => ?_
  refine ba_cons (sa_setN 4 nd (en_lst eas_nil (Nat.zero_le _)) ?_)
  -- the pairs
  refine ba_cons (sa_forR 5 (fun i ρ' => ∃ ks : List Nat, ks.length = i ∧ (∀ k ∈ ks, k ≤ 4) ∧ (pairsOf ns (ks.map fun k => ms.take k)).length ≤ 6 ∧ ρ' = [.fr (lstA (ds.map int)), .fr (strsA ns), .fr (strsA ms), .fr (int (many : Int)), .own ((pairsOf ns (ks.map fun k => ms.take k)).map prA), .no, .no, .no, .no, .no, .no, .no, .no]) PassesOwn.never rfl nd mR (ea_w (ea_var 3 rfl)) ⟨by omega, by omega⟩ ?h0 ?hs ?hd)
  case h0 => exact ⟨_, ⟨[], rfl, by simp, by simp [pairsOf], rfl⟩, by rw [show pairsOf ns (List.map (fun k => List.take k ms) []) = [] by simp [pairsOf]]; exact Le.refl _⟩
  case hs =>
    rintro i ρ' hi ⟨ks, hks, hk4, hk6, rfl⟩
    have hi : i < many := by simpa using hi
    have hin : i < ns.length := by omega
    refine ba_cons (sa_set 6 nd (ea_nat 4 (ea_tbl (tb := tbSize) ?_ (ea_w (ea_ixL (ea_l (ea_var 0 rfl)) (ea_w (ea_add (ea_w ea_int) (ea_w (ea_var 5 rfl)))) (j := 2 + i) (by omega) (dig hD (i := 2 + i) (by omega)))) (digb hD (2 + i)).1 (digb hD (2 + i)).2 (by decide)) ?_ ?_) ?_)
    · show EAs _ _ _ [int 2, int 1, int 3, int 2, int 0, int 3, int 1, int 2, int 4, int 2, int 2, int 3]
      walk_at "ints"
    · exact (tbSize_b _ (tb_mem (by have := digb hD (2 + i); show _ < 12; omega))).1
    · exact (tbSize_b _ (tb_mem (by have := digb hD (2 + i); show _ < 12; omega))).2
    refine ba_ex (i := 6) rfl fun size0 hsize0 => ?_
    refine ba_cons (sa_nx (Mid := fun ρ' => ∃ size : Nat, size ≤ 4 ∧ ρ' = [.fr (lstA (ds.map int)), .fr (strsA ns), .fr (strsA ms), .fr (int (many : Int)), .own ((pairsOf ns (ks.map fun k => ms.take k)).map prA), .fr (int (i : Int)), .fr (int (size : Int)), .no, .no, .no, .no, .no, .no])
      (sa_if (et_w (ewt_and (et_cm (ea_w (ea_var 3 rfl)) (ea_w ea_int) cm_gt rfl) fun _ => ewt_and1 (et_cm (ea_w (ea_var 6 rfl)) (ea_w ea_int) cm_gt rfl))) (fun h => ?_) (fun h => ?_)) ?_)
    · exact ba_one (sa_set 6 nd ea_int ⟨2, by decide, rfl⟩)
    · exact ba_nil ⟨size0, hsize0, rfl⟩
    rintro ρ' ⟨size, hsize, rfl⟩
    -- the answers to the i-th note
    refine ba_one (sa_forR 7 (fun k ρ' => ∃ c : Nat, c ≤ 4 ∧ (pairsOf ns (ks.map fun k => ms.take k) ++ (ms.take c).map fun x => (ns.getD i Str.empty, x)).length ≤ 6 ∧ (c = k ∨ 6 ≤ (pairsOf ns (ks.map fun k => ms.take k) ++ (ms.take c).map fun x => (ns.getD i Str.empty, x)).length) ∧
      ρ' = [.fr (lstA (ds.map int)), .fr (strsA ns), .fr (strsA ms), .fr (int (many : Int)), .own ((pairsOf ns (ks.map fun k => ms.take k) ++ (ms.take c).map fun x => (ns.getD i Str.empty, x)).map prA), .fr (int (i : Int)), .fr (int (size : Int)), .no, .no, .no, .no, .no, .no]) PassesOwn.never rfl nd mR (ea_w (ea_var 6 rfl)) ⟨by omega, by omega⟩ ?g0 ?gs ?gd)
    case g0 => exact ⟨_, ⟨0, by decide, by simpa using hk6, .inl rfl, rfl⟩, by simp; exact Le.refl _⟩
    case gs =>
      rintro k ρ' hk ⟨c, hc4, hc6, hor, rfl⟩
      have hk : k < size := by simpa using hk
      refine ba_one (sa_if (et_cm (ea_w (ea_lenL (el_var 4 rfl) mL)) (ea_w ea_int) cm_lt rfl) (fun h => ?_) (fun h => ?_))
      · have hlt : (pairsOf ns (ks.map fun k => ms.take k) ++ (ms.take c).map fun x => (ns.getD i Str.empty, x)).length < 6 := by
          have z := of_decide_eq_true h
          rw [List.length_map] at z
          omega
        have ek : c = k := by
          rcases hor with z | z
          · exact z
          · omega
        subst ek
        have hcm : c < ms.length := by omega
        have tk : ms.take (c + 1) = ms.take c ++ [ms.getD c Str.empty] := by
          rw [List.take_add_one, List.getD_eq_getElem?_getD, List.getElem?_eq_getElem hcm]
          rfl
        refine ba_one (sa_app 4 rfl (pe_app 4 (A := prA (ns.getD i Str.empty, ms.getD c Str.empty)) (ea_tup (eas_cons (ea_ixL (ea_l (ea_var 1 rfl)) (ea_w (ea_var 5 rfl)) rfl (map_at hin)) (eas_cons (ea_ixL (ea_l (ea_var 2 rfl)) (ea_w (ea_var 7 rfl)) rfl (map_at hcm)) eas_nil)) (by show 2 ≤ sizeLine; decide))) ?_ ?_)
        · rw [List.length_map, sizeLine_eq]
          omega
        · refine ⟨_, ⟨c + 1, by omega, ?_, .inl rfl, rfl⟩, ?_⟩
          · rw [tk, List.map_append, ← List.append_assoc, List.length_append]
            show _ + 1 ≤ 6
            omega
          · rw [tk]
            simp only [List.map_append, List.append_assoc]
            exact .same (.same (.same (.same (.same (.same (.same (.no (.same (.same (.same (.same (.same .nil))))))))))))
      · have hge : 6 ≤ (pairsOf ns (ks.map fun k => ms.take k) ++ (ms.take c).map fun x => (ns.getD i Str.empty, x)).length := by
          have z := of_decide_eq_false h
          rw [List.length_map] at z
          omega
        exact ba_nil ⟨_, ⟨c, hc4, hc6, .inr hge, rfl⟩, .same (.same (.same (.same (.same (.same (.same (.no (.same (.same (.same (.same (.same .nil))))))))))))⟩
    case gd =>
      rintro ρ' ⟨c, hc4, hc6, hor, rfl⟩
      have e : pairsOf ns ((ks ++ [c]).map fun k => ms.take k) = pairsOf ns (ks.map fun k => ms.take k) ++ (ms.take c).map fun x => (ns.getD i Str.empty, x) := by
        rw [List.map_append]
        refine pairsOf_snoc (s := ns.getD i Str.empty) ?_
        rw [List.length_map, hks, List.getD_eq_getElem?_getD, List.getElem?_eq_getElem hin]
        rfl
      refine ⟨_, ⟨ks ++ [c], by rw [List.length_append, hks]; rfl, fun k hk => ?_, by rw [e]; exact hc6, rfl⟩, ?_⟩
      · rcases List.mem_append.mp hk with z | z
        · exact hk4 k z
        · rw [List.mem_singleton.mp z]
          exact hc4
      · rw [e]
        exact .same (.same (.same (.same (.same (.no (.no (.same (.same (.same (.same (.same (.same .nil))))))))))))
  case hd =>
    rintro ρ' ⟨ks, hks, hk4, hk6, rfl⟩
    have hks : ks.length = many := by simpa using hks
    generalize hprs : pairsOf ns (ks.map fun k => ms.take k) = prs at hk6 ⊢
    have lprs : (prs.map prA).length = prs.length := List.length_map ..
    refine ba_cons (sa_set 8 nd (A := int (prs.length : Int)) (ea_is (ea_lenL (el_var 4 rfl) mL) (by rw [lprs])) ?_)
    have ez : ((prs.length : Int)).toNat = prs.length := Int.toNat_natCast _
    -- opens
    refine ba_cons (sa_set 9 nd (ea_tbl (tb := [12, 12, 9, 6, 12, 10, 12, 8, 12, 12, 11, 12]) ?_ (ea_w (ea_ixL (ea_l (ea_var 0 rfl)) (ea_w ea_int) rfl (dig hD (i := 6) (by decide)))) (digb hD 6).1 (digb hD 6).2 (by decide)) ?_)
    · show EAs _ _ _ [int 12, int 12, int 9, int 6, int 12, int 10, int 12, int 8, int 12, int 12, int 11, int 12]
      walk_at "ints"
    generalize ([12, 12, 9, 6, 12, 10, 12, 8, 12, 12, 11, 12] : List Int).getD _ 0 = b1
    refine ba_cons (sa_setLcR (own := [("_law_j", 5)]) 10 5 (z := (prs.length : Int)) (p := fun j => decide (ds.getD (8 + j) 0 < b1)) (g := fun j => prA (prs.getD j (Str.empty, Str.empty))) rfl nd mR (ea_w (ea_var 8 rfl)) ⟨by omega, by omega⟩ (blkOk_by (N := nFree) (sc := defScope sFree) (by decide +kernel)) (fun _ _ _ _ _ => pg_name nd rfl (Or.inl rfl)) (fun _ _ _ _ _ j hj => ?t1) (fun _ _ _ _ _ j hj _ => ?e1) ?_)
    case t1 =>
      have hj : j < prs.length := by simpa using hj
      exact pts_one (et_cm (ea_w (ea_ixL (ea_l (ea_var 0 rfl)) (ea_w (ea_add (ea_w ea_int) (ea_w (ea_var 5 rfl)))) (j := 8 + j) (by omega) (dig hD (i := 8 + j) (by omega)))) (ea_w (ea_var 9 rfl)) cm_lt rfl)
    case e1 =>
      have hj : j < prs.length := by simpa using hj
      exact ea_ixL (el_var 4 rfl) (ea_w (ea_var 5 rfl)) rfl (map_at hj)
    -- closes
    refine ba_cons (sa_set 9 nd (ea_tbl (tb := [12, 9, 12, 6, 12, 12, 10, 12, 8, 12, 12, 11]) ?_ (ea_w (ea_ixL (ea_l (ea_var 0 rfl)) (ea_w ea_int) rfl (dig hD (i := 6) (by decide)))) (digb hD 6).1 (digb hD 6).2 (by decide)) ?_)
    · show EAs _ _ _ [int 12, int 9, int 12, int 6, int 12, int 12, int 10, int 12, int 8, int 12, int 12, int 11]
      walk_at "ints"
    generalize ([12, 9, 12, 6, 12, 12, 10, 12, 8, 12, 12, 11] : List Int).getD _ 0 = b2
    refine ba_cons (sa_setLcR (own := [("_law_j", 5)]) 11 5 (z := (prs.length : Int)) (p := fun j => decide (ds.getD (14 + j) 0 < b2)) (g := fun j => prA (prs.getD j (Str.empty, Str.empty))) rfl nd mR (ea_w (ea_var 8 rfl)) ⟨by omega, by omega⟩ (blkOk_by (N := nFree) (sc := defScope sFree) (by decide +kernel)) (fun _ _ _ _ _ => pg_name nd rfl (Or.inl rfl)) (fun _ _ _ _ _ j hj => ?t2) (fun _ _ _ _ _ j hj _ => ?e2) ?_)
    case t2 =>
      have hj : j < prs.length := by simpa using hj
      exact pts_one (et_cm (ea_w (ea_ixL (ea_l (ea_var 0 rfl)) (ea_w (ea_add (ea_w ea_int) (ea_w (ea_var 5 rfl)))) (j := 14 + j) (by omega) (dig hD (i := 14 + j) (by omega)))) (ea_w (ea_var 9 rfl)) cm_lt rfl)
    case e2 =>
      have hj : j < prs.length := by simpa using hj
      exact ea_ixL (el_var 4 rfl) (ea_w (ea_var 5 rfl)) rfl (map_at hj)
    -- steps
    refine ba_cons (sa_set 9 nd (ea_tbl (tb := [12, 9, 6, 8, 10, 11, 12, 9, 7, 10, 4, 8]) ?_ (ea_w (ea_ixL (ea_l (ea_var 0 rfl)) (ea_w ea_int) rfl (dig hD (i := 7) (by decide)))) (digb hD 7).1 (digb hD 7).2 (by decide)) ?_)
    · show EAs _ _ _ [int 12, int 9, int 6, int 8, int 10, int 11, int 12, int 9, int 7, int 10, int 4, int 8]
      walk_at "ints"
    generalize ([12, 9, 6, 8, 10, 11, 12, 9, 7, 10, 4, 8] : List Int).getD _ 0 = b3
    have l36 : prs.length * prs.length ≤ 36 := Nat.le_trans (Nat.mul_le_mul hk6 hk6) (by decide)
    have e36 : ((prs.length : Int) * (prs.length : Int)) = ((prs.length * prs.length : Nat) : Int) := by simp
    have ez2 : ((prs.length : Int) * (prs.length : Int)).toNat = prs.length * prs.length := by rw [e36, Int.toNat_natCast]
    refine ba_cons (sa_setLcR (own := [("_law_j", 5)]) 12 5 (z := (prs.length : Int) * (prs.length : Int)) (p := fun j => decide (ds.getD (20 + j) 0 < b3)) (g := fun j => stA (prs.getD (j / prs.length) (Str.empty, Str.empty), prs.getD (j % prs.length) (Str.empty, Str.empty))) rfl nd mR (ea_w (ea_mul (ea_w (ea_var 8 rfl)) (ea_w (ea_var 8 rfl)) (.inl ⟨by omega, by omega⟩))) ⟨by omega, by omega⟩ (blkOk_by (N := nFree) (sc := defScope sFree) (by decide +kernel)) (fun _ _ _ _ _ => pg_name nd rfl (Or.inl rfl)) (fun _ _ _ _ _ j hj => ?t3) (fun _ _ _ _ _ j hj _ => ?e3) ?_)
    case t3 =>
      rw [ez2, List.mem_range] at hj
      exact pts_one (et_cm (ea_w (ea_ixL (ea_l (ea_var 0 rfl)) (ea_w (ea_add (ea_w ea_int) (ea_w (ea_var 5 rfl)))) (j := 20 + j) (by omega) (dig hD (i := 20 + j) (by omega)))) (ea_w (ea_var 9 rfl)) cm_lt rfl)
    case e3 =>
      rw [ez2, List.mem_range] at hj
      have hp : 0 < prs.length := by
        rcases Nat.eq_zero_or_pos prs.length with z | z
        · rw [z] at hj
          omega
        · exact z
      have h1 : j / prs.length < prs.length := Nat.div_lt_of_lt_mul hj
      have h2 : j % prs.length < prs.length := Nat.mod_lt _ hp
      have i1 : (j : Int) / (prs.length : Int) = ((j / prs.length : Nat) : Int) := rfl
      have i2 : (j : Int) - (j : Int) / (prs.length : Int) * (prs.length : Int) = ((j % prs.length : Nat) : Int) := by
        have q := Nat.div_add_mod j prs.length
        rw [i1, Int.mul_comm, ← Int.natCast_mul]
        omega
      exact ea_tup (eas_cons (ea_ixL (el_var 4 rfl) (ea_w (ea_fdiv (ea_w (ea_var 5 rfl)) (ea_w (ea_var 8 rfl)) ⟨by omega, by omega⟩)) i1 (map_at h1)) (eas_cons (ea_ixL (el_var 4 rfl) (ea_w (ea_sub (ea_w (ea_var 5 rfl)) (ea_w (ea_mul (ea_w (ea_fdiv (ea_w (ea_var 5 rfl)) (ea_w (ea_var 8 rfl)) ⟨by omega, by omega⟩)) (ea_w (ea_var 8 rfl)) (.inr ⟨by omega, by omega⟩))))) i2 (map_at h2)) eas_nil)) (by show 2 ≤ sizeLine; decide)
    -- all of it
    refine ba_free (i := 4) rfl (ba_free (i := 10) rfl (ba_free (i := 11) rfl (ba_free (i := 12) rfl (ba_one (sa_ret (ea_imp (en_a (en_lst (eas_cons (en_a (en_slL (ea_l (ea_var 1 rfl)) eo_none (eo_some (ea_w (ea_var 3 rfl))))) (eas_cons (ea_var 4 rfl) (eas_cons (ea_var 10 rfl) (eas_cons (ea_var 11 rfl) (eas_cons (ea_var 12 rfl) eas_nil))))) (by show 5 ≤ sizeLine; decide))) ?_))))))
    rw [cutA_take, ez, ez2, ← List.map_take]
    intro F v hv
    have hl : (ns.take many).length = many := by rw [List.length_take]; omega
    refine ⟨⟨ns.take many, prs, ((List.range prs.length).filter fun j => decide (ds.getD (8 + j) 0 < b1)).map fun j => prs.getD j (Str.empty, Str.empty), ((List.range prs.length).filter fun j => decide (ds.getD (14 + j) 0 < b2)).map fun j => prs.getD j (Str.empty, Str.empty),
      ((List.range (prs.length * prs.length)).filter fun j => decide (ds.getD (20 + j) 0 < b3)).map fun j => (prs.getD (j / prs.length) (Str.empty, Str.empty), prs.getD (j % prs.length) (Str.empty, Str.empty))⟩, ⟨?_, ?_, ?_, ?_, range_sub _ _ _, range_sub _ _ _, prod_sub _ _ _⟩, ?_⟩
    · show (ns.take many).length ≤ 4
      omega
    · exact hN.2.1.sublist (List.take_sublist _ _)
    · exact fun s hs => hN.2.2 s (List.mem_of_mem_take hs)
    · refine ⟨ks.map fun k => ms.take k, ?_, ?_, fun a ha => ?_⟩
      · show _ = (ns.take many).length
        rw [List.length_map, hl, hks]
      · show prs = pairsOf (ns.take many) _
        rw [← hprs]
        unfold pairsOf
        rw [← hks, ← List.length_map (f := fun k => ms.take k) (as := ks)]
        congr 1
        exact (zip_take _ _).symm
      · obtain ⟨k, hk, e⟩ := List.mem_map.mp ha
        rw [← e]
        refine ⟨?_, hM.2.1.sublist (List.take_sublist _ _), fun s hs => hM.2.2 s (List.mem_of_mem_take hs)⟩
        rw [List.length_take]
        have := hk4 k hk
        omega
    · show (lstA [strsA (ns.take many), prsA prs, lstA (List.map prA (List.map _ _)), lstA (List.map prA (List.map _ _)), lstA (List.map stA (List.map _ _))]).p F v
      rw [List.map_map, List.map_map, List.map_map]
      exact hv
end
end Kv

set_option Elab.async false
set_option linter.all false
set_option maxRecDepth 100000
set_option maxHeartbeats 4000000
namespace Kv
open PySem PySem.Calls L2 Lk
local macro_rules | `(tactic| walk_at "ints") => `(tactic| repeat (first | exact eas_nil | refine eas_cons ea_int ?_))
/-! ### fits -/
abbrev sFits : Stmt := (topS 43)
abbrev nFits : List Str := ["_law_kind", "_law_odd", "_law_one", "_law_two"]
theorem sc_fits : FnScope nFits ["_law_kind", "_law_odd", "_law_one", "_law_two"] (defScope sFits) := ⟨rfl, rfl, rfl, by decide +kernel, rfl, by decide +kernel, by decide +kernel⟩
def fitsF (kind odd a b c d : Int) : Bool :=
  if kind < 9 then decide (b = c)
  else if kind = 9 then (if 0 < a then true else if c = 0 then decide (b = d) else decide (c = b + 1))
  else if kind = 10 then (if a = 0 ∧ c = 1 then decide (b = d) else if a = 1 ∧ 1 < c then decide (b = c - 2) else true)
  else if odd = 1 then !decide (b = d) else decide (b = 0)
abbrev spotA (p : Int × Int) : As := tupA [int p.1, int p.2]
section
variable {P : Program} {w : World} {K : PySem.W.Frag} {mg : Str → Option Value} {base : Heap}
abbrev spFits : Sp := spX (fun _ : Int × Int × (Int × Int) × (Int × Int) => True) (fun i => [int i.1, int i.2.1, spotA i.2.2.1, spotA i.2.2.2]) (fun i => bl (fitsF i.1 i.2.1 i.2.2.1.1 i.2.2.1.2 i.2.2.2.1 i.2.2.2.2))
theorem ok_fits {f : Addr} {fd : FuncData} (F : Fun K "_law_fits" "_law_fits" sFits f fd) : FnOk P w K mg base CX0 1 f fd ["_law_kind", "_law_odd", "_law_one", "_law_two"] spFits := by
  refine fn_ok F sc_fits (fun _ _ => rfl) fun ⟨kind, odd, ⟨a, b⟩, ⟨c, d⟩⟩ cdv B outer s H E _ hr => ?_
  show BA _ _ _ _ { R := bl (fitsF kind odd a b c d) }
  refine ba_cons (sa_if (et_cm (ea_w (ea_var 0 rfl)) (ea_w ea_int) cm_lt rfl) (fun h => ?_) (fun h => ?_))
  · have h : kind < 9 := of_decide_eq_true h
    refine ba_one (sa_ret (ea_is (ea_cm (ea_w (ea_ixT (ea_var 2 rfl) (ea_w ea_int) (j := 1) rfl rfl)) (ea_w (ea_ixT (ea_var 3 rfl) (ea_w ea_int) (j := 0) rfl rfl)) cm_eqI rfl) ?_))
    unfold fitsF
    rw [if_pos h]
  have h9 : ¬ kind < 9 := of_decide_eq_false h
  refine ba_nil (ba_cons (sa_if (et_cm (ea_w (ea_var 0 rfl)) (ea_w ea_int) cm_eqI rfl) (fun h => ?_) (fun h => ?_)))
  · have hk : kind = 9 := of_decide_eq_true h
    refine ba_cons (sa_if (et_cm (ea_w (ea_ixT (ea_var 2 rfl) (ea_w ea_int) (j := 0) rfl rfl)) (ea_w ea_int) cm_gt rfl) (fun h => ?_) (fun h => ?_))
    · have h : 0 < a := of_decide_eq_true h
      refine ba_one (sa_ret (ea_is ea_bl ?_))
      unfold fitsF
      rw [if_neg h9, if_pos hk, if_pos h]
    have ha : ¬ 0 < a := of_decide_eq_false h
    refine ba_nil (ba_cons (sa_if (et_cm (ea_w (ea_ixT (ea_var 3 rfl) (ea_w ea_int) (j := 0) rfl rfl)) (ea_w ea_int) cm_eqI rfl) (fun h => ?_) (fun h => ?_)))
    · have h : c = 0 := of_decide_eq_true h
      refine ba_one (sa_ret (ea_is (ea_cm (ea_w (ea_ixT (ea_var 2 rfl) (ea_w ea_int) (j := 1) rfl rfl)) (ea_w (ea_ixT (ea_var 3 rfl) (ea_w ea_int) (j := 1) rfl rfl)) cm_eqI rfl) ?_))
      unfold fitsF
      rw [if_neg h9, if_pos hk, if_neg ha, if_pos h]
    · have h : ¬ c = 0 := of_decide_eq_false h
      refine ba_nil (ba_one (sa_ret (ea_is (ea_cm (ea_w (ea_ixT (ea_var 3 rfl) (ea_w ea_int) (j := 0) rfl rfl)) (ea_w (ea_add (ea_w (ea_ixT (ea_var 2 rfl) (ea_w ea_int) (j := 1) rfl rfl)) (ea_w ea_int))) cm_eqI rfl) ?_)))
      unfold fitsF
      rw [if_neg h9, if_pos hk, if_neg ha, if_neg h]
  have hk9 : ¬ kind = 9 := of_decide_eq_false h
  refine ba_nil (ba_cons (sa_if (et_cm (ea_w (ea_var 0 rfl)) (ea_w ea_int) cm_eqI rfl) (fun h => ?_) (fun h => ?_)))
  · have hk : kind = 10 := of_decide_eq_true h
    refine ba_cons (sa_if (et_w (ewt_and (et_cm (ea_w (ea_ixT (ea_var 2 rfl) (ea_w ea_int) (j := 0) rfl rfl)) (ea_w ea_int) cm_eqI rfl) fun _ => ewt_and1 (et_cm (ea_w (ea_ixT (ea_var 3 rfl) (ea_w ea_int) (j := 0) rfl rfl)) (ea_w ea_int) cm_eqI rfl))) (fun h => ?_) (fun h => ?_))
    · have h : a = 0 ∧ c = 1 := by simpa using h
      refine ba_one (sa_ret (ea_is (ea_cm (ea_w (ea_ixT (ea_var 2 rfl) (ea_w ea_int) (j := 1) rfl rfl)) (ea_w (ea_ixT (ea_var 3 rfl) (ea_w ea_int) (j := 1) rfl rfl)) cm_eqI rfl) ?_))
      unfold fitsF
      rw [if_neg h9, if_neg hk9, if_pos hk, if_pos h]
    have ha : ¬ (a = 0 ∧ c = 1) := by simpa using h
    refine ba_nil (ba_cons (sa_if (et_w (ewt_and (et_cm (ea_w (ea_ixT (ea_var 2 rfl) (ea_w ea_int) (j := 0) rfl rfl)) (ea_w ea_int) cm_eqI rfl) fun _ => ewt_and1 (et_cm (ea_w (ea_ixT (ea_var 3 rfl) (ea_w ea_int) (j := 0) rfl rfl)) (ea_w ea_int) cm_gt rfl))) (fun h => ?_) (fun h => ?_)))
    · have h : a = 1 ∧ 1 < c := by simpa using h
      refine ba_one (sa_ret (ea_is (ea_cm (ea_w (ea_ixT (ea_var 2 rfl) (ea_w ea_int) (j := 1) rfl rfl)) (ea_w (ea_sub (ea_w (ea_ixT (ea_var 3 rfl) (ea_w ea_int) (j := 0) rfl rfl)) (ea_w ea_int))) cm_eqI rfl) ?_))
      unfold fitsF
      rw [if_neg h9, if_neg hk9, if_pos hk, if_neg ha, if_pos h]
    · have h : ¬ (a = 1 ∧ 1 < c) := by simpa using h
      refine ba_nil (ba_one (sa_ret (ea_is ea_bl ?_)))
      unfold fitsF
      rw [if_neg h9, if_neg hk9, if_pos hk, if_neg ha, if_neg h]
  have hk10 : ¬ kind = 10 := of_decide_eq_false h
  refine ba_nil (ba_cons (sa_if (et_cm (ea_w (ea_var 1 rfl)) (ea_w ea_int) cm_eqI rfl) (fun h => ?_) (fun h => ?_)))
  · have h : odd = 1 := of_decide_eq_true h
    refine ba_one (sa_ret (ea_is (ea_cm (ea_w (ea_ixT (ea_var 2 rfl) (ea_w ea_int) (j := 1) rfl rfl)) (ea_w (ea_ixT (ea_var 3 rfl) (ea_w ea_int) (j := 1) rfl rfl)) cm_neI rfl) ?_))
    unfold fitsF
    rw [if_neg h9, if_neg hk9, if_neg hk10, if_pos h]
  · have h : ¬ odd = 1 := of_decide_eq_false h
    refine ba_nil (ba_one (sa_ret (ea_is (ea_cm (ea_w (ea_ixT (ea_var 2 rfl) (ea_w ea_int) (j := 1) rfl rfl)) (ea_w ea_int) cm_eqI rfl) ?_)))
    unfold fitsF
    rw [if_neg h9, if_neg hk9, if_neg hk10, if_neg h]
/-! ### recipe -/
abbrev sRec : Stmt := (topS 44)
abbrev nRec : List Str := ["_law_digits_here", "_law_names_here", "_law_marks", "_law_kind", "_law_odd", "_law_sizes", "_law_pairs", "_law_spots", "_law_j", "_law_i", "_law_p", "_law_steps", "_law_closes", "_law_drop"]
theorem sc_rec : FnScope nRec ["_law_digits_here", "_law_names_here", "_law_marks"] (defScope sRec) := ⟨rfl, rfl, rfl, by decide +kernel, rfl, by decide +kernel, by decide +kernel⟩
def tbRec : List (List Nat) := [[2, 2], [3, 3, 3], [2, 1, 1], [2, 2, 1, 1], [2]]
def GoodSz (sz : List Nat) : Prop := sz.length ≤ 4 ∧ (∀ x ∈ sz, x ≤ 3) ∧ 2 ≤ sz.sum ∧ sz.sum ≤ 9
theorem tbRec_ok : ∀ sz ∈ tbRec, GoodSz sz := by
  intro sz h
  simp only [tbRec, List.mem_cons, List.not_mem_nil, or_false] at h
  unfold GoodSz
  rcases h with rfl | rfl | rfl | rfl | rfl <;> decide
theorem pairsOf_len {ns ms : List Str} : ∀ {ks : List Nat}, ks.length ≤ ns.length → (∀ k ∈ ks, k ≤ ms.length) → (pairsOf ns (ks.map fun k => ms.take k)).length = ks.sum := by
  induction ns with
  | nil =>
    intro ks h1 _
    have e : ks = [] := List.length_eq_zero_iff.mp (Nat.le_zero.mp h1)
    subst e
    simp [pairsOf]
  | cons n ns ih =>
    intro ks h1 h2
    cases ks with
    | nil => simp [pairsOf]
    | cons k ks =>
      have e := ih (ks := ks) (by simpa using h1) fun k hk => h2 k (List.mem_cons_of_mem _ hk)
      have hk := h2 k List.mem_cons_self
      unfold pairsOf at e ⊢
      rw [List.map_cons, List.zip_cons_cons, List.flatMap_cons, List.length_append, e, List.sum_cons]
      rw [List.length_map, List.length_take]
      show min k ms.length + ks.sum = k + ks.sum
      omega
/-- digits, names, marks -/
abbrev spRec : Sp := spX (fun i : List Int × List Str × List Str => Digs 56 i.1 ∧ Names 4 i.2.1 ∧ Names 4 i.2.2 ∧ 7 ≤ i.1.getD 0 0) (fun i => [lstA (i.1.map int), strsA i.2.1, strsA i.2.2]) (fun _ => gmdA)
theorem ok_rec {f : Addr} {fd : FuncData} (F : Fun K "_law_recipe" "_law_recipe" sRec f fd) (mR : mg "range" = none) (mL : mg "len" = none) (mI : mg "int" = none) (mLs : mg "list" = none) (DF : Df P w K mg base 1 "_law_fits" ["_law_kind", "_law_odd", "_law_one", "_law_two"] spFits) : FnOk P w K mg base CX0 2 f fd ["_law_digits_here", "_law_names_here", "_law_marks"] spRec := by
  refine fn_ok F sc_rec (fun _ _ => rfl) fun ⟨ds, ns, ms⟩ cdv B outer s H E ⟨hD, hN, hM, h7⟩ hr => ?_
  have nd := sc_rec.nd
  have hD : Digs 56 ds := hD
  have hN : Names 4 ns := hN
  have hM : Names 4 ms := hM
  have h7 : 7 ≤ ds.getD 0 0 := h7
  have n1 := hN.1
  have m1 := hM.1
  have d0 := digb hD 0
  have em : ∀ z n : Int, 0 < n → 0 ≤ z % n ∧ z % n < n := fun z n h => ⟨Int.emod_nonneg _ (by omega), Int.emod_lt_of_pos _ h⟩
  refine ba_cons (sa_set 3 nd (ea_ixL (ea_l (ea_var 0 rfl)) (ea_w ea_int) rfl (dig hD (i := 0) (by decide))) ?_)
  refine ba_cons (sa_set 4 nd (ea_mod (ea_w (ea_int1 (ea_w (ea_ixL (ea_l (ea_var 0 rfl)) (ea_w ea_int) rfl (dig hD (i := 1) (by decide)))) mI)) (ea_w ea_int) (by decide)) ?_)
  have eo := em (ds.getD 1 0) 2 (by decide)
  generalize ds.getD 1 0 % 2 = odd at eo ⊢
  generalize hkind : ds.getD 0 0 = kind at d0 h7 ⊢
  -- sizes
  have hsz : (kind - 7).toNat < tbRec.length := by
    show _ < 5
    omega
  refine ba_cons (sa_set 5 nd (A := exA GoodSz (fun sz => lstA (sz.map fun x : Nat => int (x : Int)))) (ea_imp (ea_ixL (l := tbRec.map fun sz => lstA (sz.map fun x : Nat => int (x : Int))) (j := (kind - 7).toNat) (en_l (en_lst ?_ (by rw [List.length_map]; decide))) (ea_w (ea_sub (ea_w (ea_var 3 rfl)) (ea_w ea_int))) (Int.toNat_of_nonneg (by omega)).symm (map_at (d := []) hsz)) fun F v hv => ⟨_, tbRec_ok _ ?_, hv⟩) ?_)
  · show EAs _ _ _ [lstA [int 2, int 2], lstA [int 3, int 3, int 3], lstA [int 2, int 1, int 1], lstA [int 2, int 2, int 1, int 1], lstA [int 2]]
    refine eas_cons (en_a (en_lst ?_ (by show 2 ≤ sizeLine; decide))) (eas_cons (en_a (en_lst ?_ (by show 3 ≤ sizeLine; decide))) (eas_cons (en_a (en_lst ?_ (by show 3 ≤ sizeLine; decide))) (eas_cons (en_a (en_lst ?_ (by show 4 ≤ sizeLine; decide))) (eas_cons (en_a (en_lst ?_ (by show 1 ≤ sizeLine; decide))) eas_nil))))
    all_goals walk_at "ints"
  · rw [List.getD_eq_getElem?_getD, List.getElem?_eq_getElem hsz]
    exact List.getElem_mem hsz
  refine ba_ex (i := 5) rfl fun sz hsz => ?_
  have hsz : GoodSz sz := hsz
  obtain ⟨z1, z2, z3, z4⟩ := hsz
  refine ba_cons (sa_setN 6 nd (en_lst eas_nil (Nat.zero_le _)) ?_)
  refine ba_cons (sa_setN 7 nd (en_lst eas_nil (Nat.zero_le _)) ?_)
  have sum_take : ∀ (l : List Nat) (i : Nat), (l.take i).sum ≤ l.sum := by
    intro l
    induction l with
    | nil => intro i; simp
    | cons a l ih =>
      intro i
      cases i with
      | zero => simp
      | succ i =>
        have := ih i
        simp
        omega
  have plen : ∀ i : Nat, (pairsOf ns ((sz.take i).map fun k => ms.take k)).length = (sz.take i).sum := fun i => pairsOf_len (by rw [List.length_take]; omega) fun k hk => by
    have := z2 k (List.mem_of_mem_take hk)
    omega
  have lsz : (sz.map fun x : Nat => int (x : Int)).length = sz.length := List.length_map ..
  refine ba_cons (sa_forR 8 (fun i ρ' => i ≤ sz.length ∧ ∃ sp : List (Int × Int), sp.length = (sz.take i).sum ∧ ρ' = [.fr (lstA (ds.map int)), .fr (strsA ns), .fr (strsA ms), .fr (int kind), .fr (int odd), .fr (lstA (sz.map fun x : Nat => int (x : Int))), .own ((pairsOf ns ((sz.take i).map fun k => ms.take k)).map prA), .own (sp.map spotA), .no, .no, .no, .no, .no, .no]) PassesOwn.never rfl nd mR (z := (sz.length : Int)) (ea_w (ea_is (ea_lenL (ea_l (ea_var 5 rfl)) mL) (by rw [lsz]))) ⟨by omega, by omega⟩ ?h0 ?hs ?hd)
  case h0 => exact ⟨_, ⟨Nat.zero_le _, [], by simp, rfl⟩, by rw [show pairsOf ns ((sz.take 0).map fun k => ms.take k) = [] by simp [pairsOf]]; exact Le.refl _⟩
  case hs =>
    rintro i ρ' hi ⟨_, sp, hsp, rfl⟩
    have hi : i < sz.length := by simpa using hi
    have hin : i < ns.length := by omega
    have hx := z2 (sz.getD i 0) (by
      rw [List.getD_eq_getElem?_getD, List.getElem?_eq_getElem hi]
      exact List.getElem_mem hi)
    have tks : sz.take (i + 1) = sz.take i ++ [sz.getD i 0] := by
      rw [List.take_add_one, List.getD_eq_getElem?_getD, List.getElem?_eq_getElem hi]
      rfl
    have hsum := sum_take sz (i + 1)
    rw [tks, List.sum_append] at hsum
    have hsum : (sz.take i).sum + sz.getD i 0 ≤ sz.sum := by simpa using hsum
    generalize hbs : pairsOf ns ((sz.take i).map fun k => ms.take k) = bs
    have hbl : bs.length = (sz.take i).sum := by rw [← hbs]; exact plen i
    refine ba_one (sa_forR 9 (fun k ρ' => k ≤ sz.getD i 0 ∧ ∃ sp : List (Int × Int), sp.length = (sz.take i).sum + k ∧ ρ' = [.fr (lstA (ds.map int)), .fr (strsA ns), .fr (strsA ms), .fr (int kind), .fr (int odd), .fr (lstA (sz.map fun x : Nat => int (x : Int))), .own ((bs ++ (ms.take k).map fun x => (ns.getD i Str.empty, x)).map prA), .own (sp.map spotA), .fr (int (i : Int)), .no, .no, .no, .no, .no]) PassesOwn.never rfl nd mR (z := ((sz.getD i 0 : Nat) : Int)) (ea_w (ea_ixL (ea_l (ea_var 5 rfl)) (ea_w (ea_var 8 rfl)) rfl (map_at hi))) ⟨by omega, by omega⟩ ?g0 ?gs ?gd)
    case g0 => exact ⟨_, ⟨Nat.zero_le _, sp, hsp, rfl⟩, by simp; exact Le.refl _⟩
    case gs =>
      rintro k ρ' hk ⟨_, sp, hsp, rfl⟩
      have hk : k < sz.getD i 0 := by rw [Int.toNat_natCast] at hk; exact hk
      have hkm : k < ms.length := by omega
      have tk : ms.take (k + 1) = ms.take k ++ [ms.getD k Str.empty] := by
        rw [List.take_add_one, List.getD_eq_getElem?_getD, List.getElem?_eq_getElem hkm]
        rfl
      have l1 : ((bs ++ (ms.take k).map fun x => (ns.getD i Str.empty, x)).map prA).length < sizeLine := by
        rw [List.length_map, List.length_append, List.length_map, List.length_take, hbl, sizeLine_eq]
        omega
      have l2 : (sp.map spotA).length < sizeLine := by
        rw [List.length_map, hsp, sizeLine_eq]
        omega
      refine ba_cons (sa_app 6 rfl (pe_app 6 (A := prA (ns.getD i Str.empty, ms.getD k Str.empty)) (ea_tup (eas_cons (ea_ixL (ea_l (ea_var 1 rfl)) (ea_w (ea_var 8 rfl)) rfl (map_at hin)) (eas_cons (ea_ixL (ea_l (ea_var 2 rfl)) (ea_w (ea_var 9 rfl)) rfl (map_at hkm)) eas_nil)) (by show 2 ≤ sizeLine; decide))) l1 ?_)
      refine ba_one (sa_app 7 rfl (pe_app 7 (A := spotA ((i : Int), (k : Int))) (ea_tup (eas_cons (ea_var 8 rfl) (eas_cons (ea_var 9 rfl) eas_nil)) (by show 2 ≤ sizeLine; decide))) l2 ?_)
      refine ⟨_, ⟨hk, sp ++ [((i : Int), (k : Int))], by rw [List.length_append, hsp]; rfl, rfl⟩, ?_⟩
      rw [tk]
      simp only [List.map_append, List.append_assoc]
      exact .same (.same (.same (.same (.same (.same (.same (.same (.same (.no (.same (.same (.same (.same .nil)))))))))))))
    case gd =>
      rintro ρ' ⟨_, sp, hsp, rfl⟩
      rw [Int.toNat_natCast] at hsp ⊢
      have e : pairsOf ns ((sz.take (i + 1)).map fun k => ms.take k) = bs ++ (ms.take (sz.getD i 0)).map fun x => (ns.getD i Str.empty, x) := by
        rw [tks, List.map_append, ← hbs]
        refine pairsOf_snoc (s := ns.getD i Str.empty) ?_
        rw [List.length_map, List.length_take, Nat.min_eq_left (by omega), List.getD_eq_getElem?_getD, List.getElem?_eq_getElem hin]
        rfl
      refine ⟨_, ⟨hi, sp, by rw [hsp, tks, List.sum_append]; simp, rfl⟩, ?_⟩
      rw [e]
      exact .same (.same (.same (.same (.same (.same (.same (.same (.no (.no (.same (.same (.same (.same .nil)))))))))))))
  case hd =>
    rintro ρ' ⟨_, sp, hsp, rfl⟩
    rw [Int.toNat_natCast] at hsp ⊢
    rw [List.take_length] at hsp ⊢
    have hpl : (pairsOf ns (sz.map fun k => ms.take k)).length = sz.sum := by
      have q := plen sz.length
      rw [List.take_length] at q
      exact q
    generalize hprs : pairsOf ns (sz.map fun k => ms.take k) = prs at hpl ⊢
    have lprs : (prs.map prA).length = prs.length := List.length_map ..
    refine ba_cons (sa_set 10 nd (A := int (prs.length : Int)) (ea_is (ea_lenL (el_var 6 rfl) mL) (by rw [lprs])) ?_)
    have l81 : prs.length * prs.length ≤ 81 := Nat.le_trans (Nat.mul_le_mul (show prs.length ≤ 9 by omega) (show prs.length ≤ 9 by omega)) (by decide)
    have e36 : ((prs.length : Int) * (prs.length : Int)) = ((prs.length * prs.length : Nat) : Int) := by simp
    have ez2 : ((prs.length : Int) * (prs.length : Int)).toNat = prs.length * prs.length := by rw [e36, Int.toNat_natCast]
    have hpos : 0 < prs.length := by omega
    have spl : sp.length = prs.length := by omega
    have i1 : ∀ j : Nat, (j : Int) / (prs.length : Int) = ((j / prs.length : Nat) : Int) := fun j => rfl
    have i2 : ∀ j : Nat, (j : Int) - (j : Int) / (prs.length : Int) * (prs.length : Int) = ((j % prs.length : Nat) : Int) := fun j => by
      have q := Nat.div_add_mod j prs.length
      rw [i1, Int.mul_comm, ← Int.natCast_mul]
      omega
    -- steps
    refine ba_cons (sa_setLcR (own := [("_law_j", 8)]) 11 8 (z := (prs.length : Int) * (prs.length : Int)) (p := fun j => fitsF kind odd (sp.getD (j / prs.length) (0, 0)).1 (sp.getD (j / prs.length) (0, 0)).2 (sp.getD (j % prs.length) (0, 0)).1 (sp.getD (j % prs.length) (0, 0)).2) (g := fun j => stA (prs.getD (j / prs.length) (Str.empty, Str.empty), prs.getD (j % prs.length) (Str.empty, Str.empty))) rfl nd mR (ea_w (ea_mul (ea_w (ea_var 10 rfl)) (ea_w (ea_var 10 rfl)) (.inl ⟨by omega, by omega⟩))) ⟨by omega, by omega⟩ (blkOk_by (N := nRec) (sc := defScope sRec) (by decide +kernel)) (fun _ _ _ _ _ => pg_name nd rfl (Or.inl rfl)) (fun _ _ _ _ _ j hj => ?t3) (fun _ _ _ _ _ j hj _ => ?e3) ?_)
    case t3 =>
      rw [ez2, List.mem_range] at hj
      have h1 : j / prs.length < sp.length := by rw [spl]; exact Nat.div_lt_of_lt_mul hj
      have h2 : j % prs.length < sp.length := by rw [spl]; exact Nat.mod_lt _ hpos
      refine pts_one (et_v (k := fitsF kind odd (sp.getD (j / prs.length) (0, 0)).1 (sp.getD (j / prs.length) (0, 0)).2 (sp.getD (j % prs.length) (0, 0)).1 (sp.getD (j % prs.length) (0, 0)).2) (ea_w ?_))
      refine ea_callB DF hr (kind, odd, sp.getD (j / prs.length) (0, 0), sp.getD (j % prs.length) (0, 0)) trivial rfl ?_
      refine eas_cons (ea_var 3 rfl) (eas_cons (ea_var 4 rfl) (eas_cons (ea_ixL (el_var 7 rfl) (ea_w (ea_fdiv (ea_w (ea_var 8 rfl)) (ea_w (ea_var 10 rfl)) ⟨by omega, by omega⟩)) (i1 j) (map_at h1)) (eas_cons (ea_ixL (el_var 7 rfl) (ea_w (ea_sub (ea_w (ea_var 8 rfl)) (ea_w (ea_mul (ea_w (ea_fdiv (ea_w (ea_var 8 rfl)) (ea_w (ea_var 10 rfl)) ⟨by omega, by omega⟩)) (ea_w (ea_var 10 rfl)) (.inr ⟨by omega, by omega⟩))))) (i2 j) (map_at h2)) eas_nil)))
    case e3 =>
      rw [ez2, List.mem_range] at hj
      have h1 : j / prs.length < prs.length := Nat.div_lt_of_lt_mul hj
      have h2 : j % prs.length < prs.length := Nat.mod_lt _ hpos
      exact ea_tup (eas_cons (ea_ixL (el_var 6 rfl) (ea_w (ea_fdiv (ea_w (ea_var 8 rfl)) (ea_w (ea_var 10 rfl)) ⟨by omega, by omega⟩)) (i1 j) (map_at h1)) (eas_cons (ea_ixL (el_var 6 rfl) (ea_w (ea_sub (ea_w (ea_var 8 rfl)) (ea_w (ea_mul (ea_w (ea_fdiv (ea_w (ea_var 8 rfl)) (ea_w (ea_var 10 rfl)) ⟨by omega, by omega⟩)) (ea_w (ea_var 10 rfl)) (.inr ⟨by omega, by omega⟩))))) (i2 j) (map_at h2)) eas_nil)) (by show 2 ≤ sizeLine; decide)
    rw [ez2]
    have hsub := prod_sub prs (Str.empty, Str.empty) fun j => fitsF kind odd (sp.getD (j / prs.length) (0, 0)).1 (sp.getD (j / prs.length) (0, 0)).2 (sp.getD (j % prs.length) (0, 0)).1 (sp.getD (j % prs.length) (0, 0)).2
    have hmap : (((List.range (prs.length * prs.length)).filter fun j => fitsF kind odd (sp.getD (j / prs.length) (0, 0)).1 (sp.getD (j / prs.length) (0, 0)).2 (sp.getD (j % prs.length) (0, 0)).1 (sp.getD (j % prs.length) (0, 0)).2).map fun j => stA (prs.getD (j / prs.length) (Str.empty, Str.empty), prs.getD (j % prs.length) (Str.empty, Str.empty))) = (((List.range (prs.length * prs.length)).filter fun j => fitsF kind odd (sp.getD (j / prs.length) (0, 0)).1 (sp.getD (j / prs.length) (0, 0)).2 (sp.getD (j % prs.length) (0, 0)).1 (sp.getD (j % prs.length) (0, 0)).2).map fun j => (prs.getD (j / prs.length) (Str.empty, Str.empty), prs.getD (j % prs.length) (Str.empty, Str.empty))).map stA := by
      rw [List.map_map]
      rfl
    rw [hmap]
    have hlen : (((List.range (prs.length * prs.length)).filter fun j => fitsF kind odd (sp.getD (j / prs.length) (0, 0)).1 (sp.getD (j / prs.length) (0, 0)).2 (sp.getD (j % prs.length) (0, 0)).1 (sp.getD (j % prs.length) (0, 0)).2).map fun j => (prs.getD (j / prs.length) (Str.empty, Str.empty), prs.getD (j % prs.length) (Str.empty, Str.empty))).length ≤ 81 := by
      rw [List.length_map]
      have q := List.length_filter_le (fun j => fitsF kind odd (sp.getD (j / prs.length) (0, 0)).1 (sp.getD (j / prs.length) (0, 0)).2 (sp.getD (j % prs.length) (0, 0)).1 (sp.getD (j % prs.length) (0, 0)).2) (List.range (prs.length * prs.length))
      rw [List.length_range] at q
      omega
    generalize (((List.range (prs.length * prs.length)).filter fun j => fitsF kind odd (sp.getD (j / prs.length) (0, 0)).1 (sp.getD (j / prs.length) (0, 0)).2 (sp.getD (j % prs.length) (0, 0)).1 (sp.getD (j % prs.length) (0, 0)).2).map fun j => (prs.getD (j / prs.length) (Str.empty, Str.empty), prs.getD (j % prs.length) (Str.empty, Str.empty))) = sts at hsub hlen ⊢
    clear hmap
    -- closes
    refine ba_cons (sa_setN 12 nd (en_listL (el_var 6 rfl) mLs) ?_)
    refine ba_cons (sa_nx (Mid := fun ρ' => ∃ cl : List Pr, cl.Sublist prs ∧ ρ' = [.fr (lstA (ds.map int)), .fr (strsA ns), .fr (strsA ms), .fr (int kind), .fr (int odd), .fr (lstA (sz.map fun x : Nat => int (x : Int))), .own (prs.map prA), .own (sp.map spotA), .no, .no, .fr (int (prs.length : Int)), .own (sts.map stA), .own (cl.map prA), .no]) (sa_if (et_cm (ea_w (ea_var 3 rfl)) (ea_w ea_int) cm_eqI rfl) (fun h => ?_) (fun h => ?_)) ?_)
    · have h1 : (1 - odd).toNat < prs.length := by omega
      refine ba_one (sa_setN 12 nd (en_lst (l := [prA (prs.getD (1 - odd).toNat (Str.empty, Str.empty))]) (eas_cons (ea_ixL (el_var 6 rfl) (ea_w (ea_sub (ea_w ea_int) (ea_w (ea_var 4 rfl)))) (Int.toNat_of_nonneg (by omega)).symm (map_at h1)) eas_nil) (by show 1 ≤ sizeLine; decide)) ⟨[prs.getD (1 - odd).toNat (Str.empty, Str.empty)], ?_, rfl⟩)
      rw [List.singleton_sublist, List.getD_eq_getElem?_getD, List.getElem?_eq_getElem h1]
      exact List.getElem_mem h1
    · exact ba_nil ⟨prs, List.Sublist.refl _, rfl⟩
    rintro ρ' ⟨cl, hcl, rfl⟩
    have hcll := hcl.length_le
    refine ba_cons (sa_set 13 nd (ea_add (ea_w (ea_mul (ea_w ea_int) (ea_w (ea_ixL (ea_l (ea_var 0 rfl)) (ea_w ea_int) rfl (dig hD (i := 2) (by decide)))) (.inl ⟨by decide, by decide⟩))) (ea_w (ea_ixL (ea_l (ea_var 0 rfl)) (ea_w ea_int) rfl (dig hD (i := 3) (by decide))))) ?_)
    generalize 12 * ds.getD 2 0 + ds.getD 3 0 = drop
    have lsts : (sts.map stA).length = sts.length := List.length_map ..
    have lcl : (cl.map prA).length = cl.length := List.length_map ..
    refine ba_cons (sa_nx (Mid := fun ρ' => ∃ (sts2 : List (Pr × Pr)) (cl2 : List Pr), sts2.Sublist (prod prs) ∧ cl2.Sublist prs ∧ ρ' = [.fr (lstA (ds.map int)), .fr (strsA ns), .fr (strsA ms), .fr (int kind), .fr (int odd), .fr (lstA (sz.map fun x : Nat => int (x : Int))), .own (prs.map prA), .own (sp.map spotA), .no, .no, .fr (int (prs.length : Int)), .own (sts2.map stA), .own (cl2.map prA), .fr (int drop)])
      (sa_if (et_w (ewt_and (et_cm (ea_w ea_int) (ea_w (ea_var 13 rfl)) cm_lt rfl) fun _ => ewt_and1 (et_cm (ea_w (ea_var 13 rfl)) (ea_w (ea_lenL (el_var 11 rfl) mL)) cm_le rfl))) (fun h => ?_) (fun h => ?_)) ?_)
    · have h : 0 < drop ∧ drop ≤ ((sts.map stA).length : Int) := by
        obtain ⟨q1, q2⟩ := Bool.and_eq_true_iff.mp h
        exact ⟨of_decide_eq_true q1, of_decide_eq_true q2⟩
      refine ba_one (sa_popAt 11 (j := (drop - 1).toNat) rfl (ea_w (ea_sub (ea_w (ea_var 13 rfl)) (ea_w ea_int))) (Int.toNat_of_nonneg (by omega)).symm (by omega) (by omega) ⟨sts.eraseIdx (drop - 1).toNat, cl, (List.eraseIdx_sublist ..).trans hsub, hcl, ?_⟩)
      rw [eraseIdx_map]
      rfl
    · refine ba_one (sa_if (et_w (ewt_and (et_cm (ea_w ea_int) (ea_w (ea_var 13 rfl)) cm_lt rfl) fun _ => ewt_and1 (et_cm (ea_w (ea_var 13 rfl)) (ea_w (ea_add (ea_w ea_int) (ea_w (ea_lenL (el_var 12 rfl) mL)))) cm_le rfl))) (fun h => ?_) (fun h => ?_))
      · have h : 100 < drop ∧ drop ≤ 100 + ((cl.map prA).length : Int) := by
          obtain ⟨q1, q2⟩ := Bool.and_eq_true_iff.mp h
          exact ⟨of_decide_eq_true q1, of_decide_eq_true q2⟩
        refine ba_one (sa_popAt 12 (j := (drop - 101).toNat) rfl (ea_w (ea_sub (ea_w (ea_var 13 rfl)) (ea_w ea_int))) (Int.toNat_of_nonneg (by omega)).symm (by omega) (by omega) ⟨sts, cl.eraseIdx (drop - 101).toNat, hsub, (List.eraseIdx_sublist ..).trans hcl, ?_⟩)
        rw [eraseIdx_map]
        rfl
      · exact ba_nil ⟨sts, cl, hsub, hcl, rfl⟩
    rintro ρ' ⟨sts2, cl2, hs2, hc2, rfl⟩
    refine ba_free (i := 6) rfl (ba_free (i := 11) rfl (ba_free (i := 12) rfl (ba_one (sa_ret (ea_imp (en_a (en_lst (eas_cons (en_a (en_slL (ea_l (ea_var 1 rfl)) eo_none (eo_some (ea_w (ea_lenL (ea_l (ea_var 5 rfl)) mL))))) (eas_cons (ea_var 6 rfl) (eas_cons (en_a (en_listL (ea_l (ea_var 6 rfl)) mLs)) (eas_cons (ea_var 12 rfl) (eas_cons (ea_var 11 rfl) eas_nil))))) (by show 5 ≤ sizeLine; decide))) ?_)))))
    rw [cutA_take, lsz, ← List.map_take]
    intro F v hv
    have hl : (ns.take sz.length).length = sz.length := by rw [List.length_take]; omega
    refine ⟨⟨ns.take sz.length, prs, prs, cl2, sts2⟩, ⟨?_, ?_, ?_, ?_, List.Sublist.refl _, hc2, hs2⟩, hv⟩
    · show (ns.take sz.length).length ≤ 4
      omega
    · exact hN.2.1.sublist (List.take_sublist _ _)
    · exact fun s hs => hN.2.2 s (List.mem_of_mem_take hs)
    · refine ⟨sz.map fun k => ms.take k, ?_, ?_, fun a ha => ?_⟩
      · show _ = (ns.take sz.length).length
        rw [List.length_map, hl]
      · show prs = pairsOf (ns.take sz.length) _
        rw [← hprs]
        unfold pairsOf
        rw [← List.length_map (f := fun k => ms.take k) (as := sz)]
        congr 1
        exact (zip_take _ _).symm
      · obtain ⟨k, hk, e⟩ := List.mem_map.mp ha
        rw [← e]
        refine ⟨?_, hM.2.1.sublist (List.take_sublist _ _), fun s hs => hM.2.2 s (List.mem_of_mem_take hs)⟩
        rw [List.length_take]
        have := z2 k hk
        omega
/-! ### book -/
abbrev sBook : Stmt := (topS 45)
abbrev nBook : List Str := ["_law_script", "_law_k", "_law_digits_here", "_law_names_here", "_law_marks"]
theorem sc_book : FnScope nBook ["_law_script", "_law_k"] (defScope sBook) := ⟨rfl, rfl, rfl, by decide +kernel, rfl, by decide +kernel, by decide +kernel⟩
abbrev spBook (K : PySem.W.Frag) : Sp := spX (fun i : List Int × Nat => i.2 ≤ 900) (fun i => [scr K i.1, int (i.2 : Int)]) (fun _ => gmdA)
theorem ok_book {f : Addr} {fd : FuncData} (F : Fun K "_law_book" "_law_book" sBook f fd) (mI : mg "int" = none) (DC : Df P w K mg base 1 "_law_cell" ["_law_script", "_law_k"] (spCl K)) (DD : Df P w K mg base 2 "_law_digits" ["_law_script", "_law_k", "_law_count"] (spDigits K)) (DN : Df P w K mg base 3 "_law_names" ["_law_script", "_law_k", "_law_count"] (spNames K))
    (DF : Df P w K mg base 1 "_law_free" ["_law_digits_here", "_law_names_here", "_law_marks"] spFree) (DR : Df P w K mg base 2 "_law_recipe" ["_law_digits_here", "_law_names_here", "_law_marks"] spRec) : FnOk P w K mg base CX0 4 f fd ["_law_script", "_law_k"] (spBook K) := by
  refine fn_ok F sc_book (fun _ _ => rfl) fun ⟨ns, k⟩ cdv B outer s H E hk hr => ?_
  have nd := sc_book.nd
  have hk : k ≤ 900 := hk
  refine ba_cons (sa_set 2 nd (ea_call DD (hr.mono (by decide)) (ns, k, 56) ⟨show k ≤ 1000 by omega, (by decide : 56 ≤ 1000)⟩ (eas_cons (ea_var 0 rfl) (eas_cons (ea_var 1 rfl) (eas_cons ea_int eas_nil)))) ?_)
  refine ba_ex (i := 2) rfl fun ds hD => ?_
  have hD : Digs 56 ds := hD
  refine ba_cons (sa_set 3 nd (ea_call DN hr (ns, k + 1, 4) ⟨show k + 1 ≤ 1000 by omega, (by decide : 4 ≤ 4)⟩ (eas_cons (ea_var 0 rfl) (eas_cons (ea_is (A := int ((k : Int) + 1)) (ea_add (ea_w (ea_var 1 rfl)) (ea_w ea_int)) rfl) (eas_cons ea_int eas_nil)))) ?_)
  refine ba_ex (i := 3) rfl fun nms hN => ?_
  have hN : Names 4 nms := hN
  refine ba_cons (sa_set 4 nd (ea_var 3 rfl) ?_)
  refine ba_cons (sa_nx (Mid := fun ρ' => ∃ ms, Names 4 ms ∧ ρ' = [.fr (scr K ns), .fr (int (k : Int)), .fr (lstA (ds.map int)), .fr (strsA nms), .fr (strsA ms)])
    (sa_if (et_cm (ea_w (ea_mod (ea_w (ea_int1 (ea_w (ea_callB DC (hr.mono (show 1 ≤ 3 by decide)) (ns, k + 2) trivial (show _ = int (cellA ns (k + 2)) from rfl) (eas_cons (ea_var 0 rfl) (eas_cons (ea_is (A := int ((k : Int) + 2)) (ea_add (ea_w (ea_var 1 rfl)) (ea_w ea_int)) rfl) eas_nil)))) mI)) (ea_w ea_int) (by decide))) (ea_w ea_int) cm_gt rfl) (fun h => ?_) (fun h => ?_)) ?_)
  · refine ba_cons (sa_set 4 nd (ea_call DN hr (ns, k + 2, 4) ⟨show k + 2 ≤ 1000 by omega, (by decide : 4 ≤ 4)⟩ (eas_cons (ea_var 0 rfl) (eas_cons (ea_is (A := int ((k : Int) + 2)) (ea_add (ea_w (ea_var 1 rfl)) (ea_w ea_int)) rfl) (eas_cons ea_int eas_nil)))) ?_)
    exact ba_ex (i := 4) rfl fun ms hM => ba_nil ⟨ms, hM, rfl⟩
  · exact ba_nil ⟨nms, hN, rfl⟩
  rintro ρ' ⟨ms, hM, rfl⟩
  refine ba_cons (sa_if (et_cm (ea_w (ea_ixL (ea_l (ea_var 2 rfl)) (ea_w ea_int) rfl (dig hD (i := 0) (by decide)))) (ea_w ea_int) cm_lt rfl) (fun h => ?_) (fun h => ?_))
  · exact ba_one (sa_ret (ea_callB DF (hr.mono (show 1 ≤ 3 by decide)) (ds, nms, ms) ⟨hD, hN, hM⟩ rfl (eas_cons (ea_var 2 rfl) (eas_cons (ea_var 3 rfl) (eas_cons (ea_var 4 rfl) eas_nil)))))
  · have h7 : ¬ ds.getD 0 0 < 7 := of_decide_eq_false h
    exact ba_nil (ba_one (sa_ret (ea_callB DR (hr.mono (show 2 ≤ 3 by decide)) (ds, nms, ms) ⟨hD, hN, hM, by show 7 ≤ ds.getD 0 0; omega⟩ rfl (eas_cons (ea_var 2 rfl) (eas_cons (ea_var 3 rfl) (eas_cons (ea_var 4 rfl) eas_nil))))))
end
end Kv

set_option Elab.async false
set_option linter.all false
set_option maxRecDepth 100000
set_option maxHeartbeats 4000000
namespace Kv
open PySem PySem.Calls L2 Lk
/-! ### rules of a model -/
abbrev ruleA (r : List Str) : As := tupA (r.map str)
abbrev rulesA (l : List (List Str)) : As := lstA (l.map ruleA)
def rulesOf (m : Md) : List (List Str) :=
  m.pairs.map (fun p => [("pair" : Str), p.1, p.2]) ++ (m.pairs.filter fun p => decide (p ∈ m.opens)).map (fun p => [("open" : Str), p.1, p.2]) ++ (m.pairs.filter fun p => decide (p ∈ m.closes)).map (fun p => [("close" : Str), p.1, p.2]) ++ m.steps.map fun s => [("step" : Str), s.1.1, s.1.2, s.2.1, s.2.2]
theorem note_ok {s : Str} (h : Note s) : okS s := by
  obtain ⟨l, rfl, _, _, h⟩ := h
  show (l.toArray.all fun c => decide (c < 0x110000)) = true
  rw [List.all_toArray, List.all_eq_true]
  intro c hc
  have q := h c hc
  unfold alnum at q
  simp only [Bool.or_eq_true, Bool.and_eq_true, decide_eq_true_eq] at q ⊢
  omega
def okPr (p : Pr) : Prop := okL okS [p.1, p.2]
theorem okPr_of {p : Pr} (h1 : okS p.1) (h2 : okS p.2) : okPr p := fun s hs => by
  rcases List.mem_cons.mp hs with e | hs
  · rw [e]
    exact h1
  · rw [List.mem_singleton.mp hs]
    exact h2
theorem enc_pr {K : PySem.W.Frag} : Enc K 1 prA okPr := enc_of (enc_tup enc_str) (fun p : Pr => [p.1, p.2]) fun x y h => by
  have h1 : x.1 = y.1 ∧ x.2 = y.2 := by simpa using h
  exact Prod.ext h1.1 h1.2
theorem enc_rule {K : PySem.W.Frag} : Enc K 1 ruleA (okL okS) := enc_tup enc_str
theorem pairsOf_mem {ns : List Str} {as : List (List Str)} {p : Pr} (h : p ∈ pairsOf ns as) : p.1 ∈ ns ∧ ∃ a ∈ as, p.2 ∈ a := by
  unfold pairsOf at h
  obtain ⟨z, hz, hp⟩ := List.mem_flatMap.mp h
  obtain ⟨x, hx, e⟩ := List.mem_map.mp hp
  rw [← e]
  exact ⟨(List.of_mem_zip hz).1, z.2, (List.of_mem_zip hz).2, hx⟩
theorem Good.mem {m : Md} (g : Good m) {p : Pr} (h : p ∈ m.pairs) : p.1 ∈ m.names ∧ Note p.1 ∧ Note p.2 := by
  obtain ⟨as, h1, h2, h3⟩ := g.pr
  rw [h2] at h
  obtain ⟨q1, a, q2, q3⟩ := pairsOf_mem h
  exact ⟨q1, g.nt _ q1, (h3 a q2).2.2 _ q3⟩
theorem Good.okp {m : Md} (g : Good m) {p : Pr} (h : p ∈ m.pairs) : okPr p := okPr_of (note_ok (g.mem h).2.1) (note_ok (g.mem h).2.2)
theorem pairsOf_le {ns : List Str} {as : List (List Str)} (h : ∀ a ∈ as, a.length ≤ 4) : (pairsOf ns as).length ≤ 4 * ns.length := by
  induction ns generalizing as with
  | nil => simp [pairsOf]
  | cons n ns ih =>
    cases as with
    | nil => simp [pairsOf]
    | cons a as =>
      have e := ih (as := as) fun b hb => h b (List.mem_cons_of_mem _ hb)
      have e1 := h a List.mem_cons_self
      unfold pairsOf at e ⊢
      rw [List.zip_cons_cons, List.flatMap_cons, List.length_append, List.length_map, List.length_cons]
      show a.length + _ ≤ _
      omega
theorem Good.pl {m : Md} (g : Good m) : m.pairs.length ≤ 16 := by
  obtain ⟨as, h1, h2, h3⟩ := g.pr
  have q := pairsOf_le (ns := m.names) fun a ha => (h3 a ha).1
  have := g.nl
  rw [h2]
  omega
theorem prod_len (l : List Pr) : (prod l).length = l.length * l.length := by
  rw [← prod_range l (Str.empty, Str.empty), List.length_map, List.length_range]
theorem Good.sl {m : Md} (g : Good m) : m.steps.length ≤ 256 := by
  have h1 := g.st.length_le
  rw [prod_len] at h1
  exact Nat.le_trans h1 (Nat.mul_le_mul g.pl g.pl)
theorem rules_len {m : Md} (g : Good m) : (rulesOf m).length ≤ 400 := by
  unfold rulesOf
  simp only [List.length_append, List.length_map]
  have h1 := List.length_filter_le (fun p => decide (p ∈ m.opens)) m.pairs
  have h2 := List.length_filter_le (fun p => decide (p ∈ m.closes)) m.pairs
  have h3 := g.pl
  have h4 := g.sl
  omega
def noteB (s : Str) : Bool := decide (1 ≤ s.cps.toList.length) && decide (s.cps.toList.length ≤ 8) && s.cps.toList.all alnum
theorem noteB_ok {s : Str} : noteB s = true ↔ Note s := by
  unfold noteB
  simp only [Bool.and_eq_true, decide_eq_true_eq, List.all_eq_true]
  constructor
  · rintro ⟨⟨h1, h2⟩, h3⟩
    exact ⟨s.cps.toList, (S_of s).symm, h1, h2, h3⟩
  · rintro ⟨l, rfl, h1, h2, h3⟩
    have e : (S l).cps.toList = l := by simp [S]
    rw [e]
    exact ⟨⟨h1, h2⟩, h3⟩
section
variable {P : Program} {w : World} {K : PySem.W.Frag} {mg : Str → Option Value} {base : Heap}
abbrev sRules : Stmt := (topS 46)
abbrev nRules : List Str := ["_law_model", "_law_rules_here", "_law_pair", "_law_step"]
theorem sc_rules : FnScope nRules ["_law_model"] (defScope sRules) := ⟨rfl, rfl, rfl, by decide +kernel, rfl, by decide +kernel, by decide +kernel⟩
abbrev spRules : Sp := spX (fun m : Md => Good m) (fun m => [mdA m]) (fun m => rulesA (rulesOf m))
theorem ok_rules {f : Addr} {fd : FuncData} (F : Fun K "_law_rules" "_law_rules" sRules f fd) : FnOk P w K mg base CX0 1 f fd ["_law_model"] spRules := by
  refine fn_ok F sc_rules (fun _ _ => rfl) fun m cdv B outer s H E g hr => ?_
  have nd := sc_rules.nd
  have hpl := g.pl
  have hsl := g.sl
  have zpl : m.pairs.length < sizeLine := by rw [sizeLine_eq]; omega
  have zsl : m.steps.length < sizeLine := by rw [sizeLine_eq]; omega
  have lo : okL okPr m.opens := fun p hp => g.okp (g.op.subset hp)
  have lc : okL okPr m.closes := fun p hp => g.okp (g.cl.subset hp)
  refine ba_cons (sa_setLc (own := [("_law_pair", 2)]) 1 2 (l := m.pairs) (enc := prA) (p := fun _ => true) (g := fun p => ruleA ["pair", p.1, p.2]) rfl nd (ea_l (ea_ixL (ea_l (ea_var 0 rfl)) (ea_w ea_int) rfl (j := 1) rfl)) zpl (blkOk_by (N := nRules) (sc := defScope sRules) (by decide +kernel)) (fun _ _ _ _ _ => pg_name nd rfl (Or.inl rfl)) (fun _ _ _ _ _ _ _ => pts_yes) (fun _ _ _ _ _ p hp _ => ?e1) ?_)
  case e1 => exact ea_is (ea_catT (l := [str "pair"]) (m := [str p.1, str p.2]) (ea_tup (eas_cons ea_str eas_nil) (by show 1 ≤ sizeLine; decide)) (ea_var 2 rfl) (by simp) (by show 1 + 2 ≤ sizeLine; decide)) rfl
  refine ba_cons (sa_setN 1 nd (en_cat (el_var 1 rfl) (en_l (en_lc (own := [("_law_pair", 2)]) 2 (l := m.pairs) (enc := prA) (p := fun p => decide (p ∈ m.opens)) (g := fun p => ruleA ["open", p.1, p.2]) rfl nd (ea_l (ea_ixL (ea_l (ea_var 0 rfl)) (ea_w ea_int) rfl (j := 1) rfl)) zpl (blkOk_by (N := nRules) (sc := defScope sRules) (by decide +kernel)) (fun _ _ _ _ _ => pg_name nd rfl (Or.inl rfl)) (fun _ _ _ _ _ p hp => ?t2) (fun _ _ _ _ _ p hp _ => ?e2))) ?z2) ?_)
  case t2 => exact pts_one (et_cm (ea_w (ea_var 2 rfl)) (ea_w (ea_ixL (ea_l (ea_var 0 rfl)) (ea_w ea_int) rfl (j := 2) rfl)) (cm_inD hr enc_pr (g.okp hp) lo) rfl)
  case e2 => exact ea_is (ea_catT (l := [str "open"]) (m := [str p.1, str p.2]) (ea_tup (eas_cons ea_str eas_nil) (by show 1 ≤ sizeLine; decide)) (ea_var 2 rfl) (by simp) (by show 1 + 2 ≤ sizeLine; decide)) rfl
  case z2 =>
    have q := List.length_filter_le (fun p => decide (p ∈ m.opens)) m.pairs
    rw [flt_true, List.length_map, List.length_map, sizeLine_eq]
    omega
  refine ba_cons (sa_setN 1 nd (en_cat (el_var 1 rfl) (en_l (en_lc (own := [("_law_pair", 2)]) 2 (l := m.pairs) (enc := prA) (p := fun p => decide (p ∈ m.closes)) (g := fun p => ruleA ["close", p.1, p.2]) rfl nd (ea_l (ea_ixL (ea_l (ea_var 0 rfl)) (ea_w ea_int) rfl (j := 1) rfl)) zpl (blkOk_by (N := nRules) (sc := defScope sRules) (by decide +kernel)) (fun _ _ _ _ _ => pg_name nd rfl (Or.inl rfl)) (fun _ _ _ _ _ p hp => ?t3) (fun _ _ _ _ _ p hp _ => ?e3))) ?z3) ?_)
  case t3 => exact pts_one (et_cm (ea_w (ea_var 2 rfl)) (ea_w (ea_ixL (ea_l (ea_var 0 rfl)) (ea_w ea_int) rfl (j := 3) rfl)) (cm_inD hr enc_pr (g.okp hp) lc) rfl)
  case e3 => exact ea_is (ea_catT (l := [str "close"]) (m := [str p.1, str p.2]) (ea_tup (eas_cons ea_str eas_nil) (by show 1 ≤ sizeLine; decide)) (ea_var 2 rfl) (by simp) (by show 1 + 2 ≤ sizeLine; decide)) rfl
  case z3 =>
    have q := List.length_filter_le (fun p => decide (p ∈ m.opens)) m.pairs
    have q2 := List.length_filter_le (fun p => decide (p ∈ m.closes)) m.pairs
    rw [flt_true, List.length_append, List.length_map, List.length_map, List.length_map, sizeLine_eq]
    omega
  refine ba_one (sa_ret (ea_is (en_a (en_cat (el_var 1 rfl) (en_l (en_lc (own := [("_law_step", 3)]) 3 (l := m.steps) (enc := stA) (p := fun _ => true) (g := fun s => ruleA ["step", s.1.1, s.1.2, s.2.1, s.2.2]) rfl nd (ea_l (ea_ixL (ea_l (ea_var 0 rfl)) (ea_w ea_int) rfl (j := 4) rfl)) zsl (blkOk_by (N := nRules) (sc := defScope sRules) (by decide +kernel)) (fun _ _ _ _ _ => pg_name nd rfl (Or.inl rfl)) (fun _ _ _ _ _ _ _ => pts_yes) (fun _ _ _ _ _ s hs _ => ?e4))) ?z4)) ?_))
  case e4 => exact ea_is (ea_catT (l := [str "step", str s.1.1, str s.1.2]) (m := [str s.2.1, str s.2.2]) (ea_is (ea_catT (l := [str "step"]) (m := [str s.1.1, str s.1.2]) (ea_tup (eas_cons ea_str eas_nil) (by show 1 ≤ sizeLine; decide)) (ea_ixT (ea_var 3 rfl) (ea_w ea_int) (j := 0) rfl rfl) (by simp) (by show 1 + 2 ≤ sizeLine; decide)) rfl) (ea_ixT (ea_var 3 rfl) (ea_w ea_int) (j := 1) rfl rfl) (by simp) (by show 3 + 2 ≤ sizeLine; decide)) rfl
  case z4 =>
    have q := List.length_filter_le (fun p => decide (p ∈ m.opens)) m.pairs
    have q2 := List.length_filter_le (fun p => decide (p ∈ m.closes)) m.pairs
    rw [flt_true, flt_true, List.length_append, List.length_append, List.length_map, List.length_map, List.length_map, List.length_map, sizeLine_eq]
    omega
  rw [flt_true, flt_true]
  unfold rulesOf
  show lstA _ = lstA (List.map ruleA _)
  rw [List.map_append, List.map_append, List.map_append, List.map_map, List.map_map, List.map_map, List.map_map]
  rfl
/-! ### an unknown name -/
abbrev sUnk : Stmt := (topS 51)
abbrev nUnk : List Str := ["_law_names_here", "_law_name"]
theorem sc_unk : FnScope nUnk ["_law_names_here"] (defScope sUnk) := ⟨rfl, rfl, rfl, by decide +kernel, rfl, by decide +kernel, by decide +kernel⟩
def cand : List Str := ["q", "Q2", "q33", "7", "qqqqqqqq"]
theorem cand_nd : cand.Nodup := by decide +kernel
theorem cand_note : ∀ s ∈ cand, Note s := fun s hs => noteB_ok.mp ((by decide +kernel : ∀ s ∈ cand, noteB s = true) s hs)
abbrev unkA (ns : List Str) : As := exA (fun s => s ∉ ns ∧ Note s) str
abbrev spUnk : Sp := spX (fun ns : List Str => ns.length ≤ 4 ∧ okL okS ns) (fun ns => [strsA ns]) (fun ns => unkA ns)
theorem ok_unk {f : Addr} {fd : FuncData} (F : Fun K "_law_unknown" "_law_unknown" sUnk f fd) : FnOk P w K mg base CX0 1 f fd ["_law_names_here"] spUnk := by
  refine fn_ok F sc_unk (fun _ _ => rfl) fun ns cdv B outer s H E ⟨hl, hok⟩ hr => ?_
  have nd := sc_unk.nd
  refine ba_cons (sa_for (l := cand.map str) 1 (fun n ρ' => (∀ i, i < n → ∀ s, cand[i]? = some s → s ∈ ns) ∧ ρ' = [.fr (strsA ns), .no]) PassesOwn.never rfl nd (en_a (en_lst (l := cand.map str) ?it (by show 5 ≤ sizeLine; decide))) ?h0 ?hs ?hd)
  case it => exact eas_cons ea_str (eas_cons ea_str (eas_cons ea_str (eas_cons ea_str (eas_cons ea_str eas_nil))))
  case h0 => exact ⟨_, ⟨fun i h => absurd h (by omega), rfl⟩, Le.refl _⟩
  case hs =>
    rintro n A ρ' hn ⟨hI, rfl⟩
    have hnl : n < cand.length := by
      have z := (List.getElem?_eq_some_iff.mp hn).1
      rw [List.length_map] at z
      exact z
    have hc : cand[n]? = some cand[n] := List.getElem?_eq_getElem hnl
    have hA : A = str cand[n] := by
      rw [List.getElem?_map, hc] at hn
      exact (Option.some.inj hn).symm
    subst hA
    have hcn := cand_note _ (List.mem_of_getElem? hc)
    generalize cand[n] = c at hc hcn
    refine ba_one (sa_if (et_cm (ea_w (ea_var 1 rfl)) (ea_w (ea_var 0 rfl)) (cm_notin hr enc_str (note_ok hcn) hok) rfl) (fun h => ?_) (fun h => ?_))
    · have h : c ∉ ns := by simpa using h
      exact ba_one (sa_ret (ea_imp (ea_var 1 rfl) fun F v hv => ⟨c, ⟨h, hcn⟩, hv⟩))
    · have h : c ∈ ns := by simpa using h
      refine ba_nil ⟨_, ⟨fun i hi s hs => ?_, rfl⟩, .same (.no .nil)⟩
      by_cases e : i = n
      · subst e
        rw [hc] at hs
        rw [← Option.some.inj hs]
        exact h
      · exact hI i (by omega) s hs
  case hd =>
    rintro ρ' ⟨hI, rfl⟩
    have q := pigeon cand_nd (m := ns) fun s hs => by
      obtain ⟨i, hi, e⟩ := List.getElem_of_mem hs
      exact hI i (by rw [List.length_map]; exact hi) s (by rw [List.getElem?_eq_getElem hi, e])
    have z : cand.length = 5 := rfl
    omega
end
end Kv

set_option Elab.async false
set_option linter.all false
set_option maxRecDepth 100000
set_option maxHeartbeats 4000000
namespace Kv
open PySem PySem.Calls L2 Lk
/-! ### the program: notes and rules -/
theorem isascii_eq (s : Str) : Txt.isascii s = s.cps.toList.all (fun c => decide (c < 128)) := by
  show s.cps.all (fun c => decide (c < 128)) = _
  rw [Array.all_toList]
theorem alnum_of : ∀ c : Nat, c < 128 → Unicode.isAlnum c = alnum c := by decide +kernel
theorem alnum_lt {c : Nat} (h : alnum c = true) : c < 128 := by
  unfold alnum at h
  simp only [Bool.or_eq_true, Bool.and_eq_true, decide_eq_true_eq] at h
  omega
theorem note_val (s : Str) : ((decide ((1 : Int) ≤ (s.length : Int)) && decide ((s.length : Int) ≤ 8)) && (Txt.isascii s && Txt.isalnum s)) = noteB s := by
  have hlen : s.length = s.cps.toList.length := by
    show s.cps.size = _
    simp
  have e2 : Txt.isalnum s = (decide (s.length > 0) && s.cps.toList.all Unicode.isAlnum) := by
    show (decide (s.length > 0) && s.cps.all Unicode.isAlnum) = _
    rw [Array.all_toList]
  rw [isascii_eq, e2, Bool.eq_iff_iff]
  unfold noteB
  rw [← hlen]
  simp only [Bool.and_eq_true, decide_eq_true_eq, List.all_eq_true]
  constructor
  · rintro ⟨⟨h1, h2⟩, h3, h4, h5⟩
    refine ⟨⟨by omega, by omega⟩, fun c hc => ?_⟩
    rw [← alnum_of c (h3 c hc)]
    exact h5 c hc
  · rintro ⟨⟨h1, h2⟩, h3⟩
    refine ⟨⟨by omega, by omega⟩, fun c hc => alnum_lt (h3 c hc), by omega, fun c hc => ?_⟩
    rw [alnum_of c (alnum_lt (h3 c hc))]
    exact h3 c hc
def rlen (w : Str) : Option Nat := if w = "pair" then some 3 else if w = "open" then some 3 else if w = "close" then some 3 else if w = "step" then some 5 else none
def wfB : List Str → Bool
  | [] => false
  | w :: r => match rlen w with
    | none => false
    | some n => decide ((r.length + 1 : Nat) = n)
/-- the table of lengths -/
structure RLen (K : PySem.W.Frag) (w : World) (mg : Str → Option Value) : Prop where
  ex : ∃ d es n, mg "RULE_LENGTHS" = some (.ref d) ∧ KDict K w d es n ∧ (∀ z m, rlen z = some m → ∃ t, PySem.W.nsIn K d z = some (some (.int m t))) ∧ ∀ z, rlen z = none → PySem.W.nsIn K d z = some none
def prs : List Str → List Pr
  | a :: b :: r => (a, b) :: prs r
  | _ => []
def named (r : List Str) : List Pr := prs r.tail
def Odd35 (r : List Str) : Prop := r.length = 3 ∨ r.length = 5
theorem rlen_cases (w : Str) : (rlen w = some 3 ∧ (w = "pair" ∨ w = "open" ∨ w = "close")) ∨ (rlen w = some 5 ∧ w = "step") ∨ rlen w = none := by
  unfold rlen
  by_cases h1 : w = "pair"
  · rw [if_pos h1]
    exact .inl ⟨rfl, .inl h1⟩
  rw [if_neg h1]
  by_cases h2 : w = "open"
  · rw [if_pos h2]
    exact .inl ⟨rfl, .inr (.inl h2)⟩
  rw [if_neg h2]
  by_cases h3 : w = "close"
  · rw [if_pos h3]
    exact .inl ⟨rfl, .inr (.inr h3)⟩
  rw [if_neg h3]
  by_cases h4 : w = "step"
  · rw [if_pos h4]
    exact .inr (.inl ⟨rfl, h4⟩)
  rw [if_neg h4]
  exact .inr (.inr rfl)
theorem wf_odd {r : List Str} (h : wfB r = true) : Odd35 r := by
  cases r with
  | nil => cases h
  | cons w r =>
    unfold Odd35
    rw [List.length_cons]
    rcases rlen_cases w with ⟨e, _⟩ | ⟨e, _⟩ | e
    · simp only [wfB, e] at h
      exact .inl (of_decide_eq_true h)
    · simp only [wfB, e] at h
      exact .inr (of_decide_eq_true h)
    · simp only [wfB, e] at h
      cases h
/-! ### a book -/
structure Bk where
  given : List Str
  ans : List (List Str)
  marks : List (List Str × Bool)
def markA (CM : Addr) (h : Bool) : As := insA CM [("held", bl h)]
def ansL (B : Bk) : List (Str × As) := B.given.zip (B.ans.map fun a => lstA (a.map str))
def marksL (CM : Addr) (B : Bk) : List (List Str × As) := B.marks.map fun x => (x.1, markA CM x.2)
def bookF (CM : Addr) (B : Bk) : List (Str × As) := [("given", tupA (B.given.map str)), ("_answers", dkA (ansL B)), ("_marks", dtA (marksL CM B))]
abbrev bookA (C CM : Addr) (B : Bk) : As := insA C (bookF CM B)
def heldB (B : Bk) (r : List Str) : Option Bool := B.marks.lookup r
def pairR (p : Pr) : List Str := ["pair", p.1, p.2]
def conB (B : Bk) (r : List Str) : Bool := match heldB B r with
  | some false => !((named r).map fun p => (heldB B (pairR p)).getD false).any id
  | _ => false
/-- rules name pairs that the book has -/
structure Okb (B : Bk) : Prop where
  len : B.ans.length = B.given.length
  nm : ∀ r b, heldB B r = some b → Odd35 r ∧ ∀ p ∈ named r, ∃ h, heldB B (pairR p) = some h
theorem marks_look (CM : Addr) (B : Bk) (r : List Str) : (marksL CM B).lookup r = (heldB B r).map (markA CM) := by
  unfold marksL heldB
  induction B.marks with
  | nil => rfl
  | cons x l ih =>
    rw [List.map_cons]
    unfold List.lookup
    by_cases h : r = x.1
    · have hb : (r == x.1) = true := by simpa using h
      simp only [hb, Option.map_some]
    · have hb : (r == x.1) = false := by simpa using h
      simp only [hb]
      exact ih
def ansOf (B : Bk) (n : Str) : List Str := ((B.given.zip B.ans).lookup n).getD []
theorem ans_look (B : Bk) (hl : B.ans.length = B.given.length) {n : Str} (h : n ∈ B.given) : (ansL B).lookup n = some (lstA ((ansOf B n).map str)) := by
  unfold ansL ansOf
  obtain ⟨g, an, mk⟩ := B
  simp only at hl h ⊢
  clear mk
  induction g generalizing an with
  | nil => simp at h
  | cons x g ih =>
    cases an with
    | nil => simp at hl
    | cons a an =>
      rw [List.map_cons, List.zip_cons_cons, List.zip_cons_cons]
      unfold List.lookup
      by_cases e : n = x
      · have hb : (n == x) = true := by simpa using e
        simp only [hb, Option.getD_some]
      · have hb : (n == x) = false := by simpa using e
        simp only [hb]
        exact ih an (by simpa using hl) (by simpa [e] using h)
theorem ans_has (B : Bk) (hl : B.ans.length = B.given.length) {n : Str} (h : n ∈ B.given) : ((ansL B).lookup n).isSome = true := by rw [ans_look B hl h]; rfl
/-- what the walk asks of the two classes -/
structure BTx (K : PySem.W.Frag) (C CM : Addr) : Prop where
  cl : Cls K C
  cm : Cls K CM
  nG : NoAttr K C "given"
  nA : NoAttr K C "_answers"
  nM : NoAttr K C "_marks"
  nH : NoAttr K CM "held"
section
variable {P : Program} {w : World} {K : PySem.W.Frag} {mg : Str → Option Value} {base : Heap}
abbrev sNote : Stmt := (topS 32)
theorem sc_note : FnScope ["name"] ["name"] (defScope sNote) := ⟨rfl, rfl, rfl, by decide +kernel, rfl, by decide +kernel, by decide +kernel⟩
abbrev spNote : Sp := spX (fun s : Str => s.length ≤ 1000) (fun s => [str s]) (fun s => bl (noteB s))
theorem ok_note {f : Addr} {fd : FuncData} (F : Fun K "is_note" "is_note" sNote f fd) (mL : mg "len" = none) (mN : ∃ t, mg "LONGEST_NAME" = some (.int 8 t)) : FnOk P w K mg base CX0 1 f fd ["name"] spNote := by
  refine fn_ok F sc_note (fun _ _ => rfl) fun s cdv B outer sh H E hs hr => ?_
  have hs : s.length ≤ 1000 := hs
  obtain ⟨t, mN⟩ := mN
  have hz : s.length ≤ sizeLine := by rw [sizeLine_eq]; omega
  refine ba_one (sa_ret (ea_is (ea_and (ea_w (ea_chainLe (ea_w ea_int) (ea_w (ea_lenS (ea_w (ea_var 0 rfl)) hz mL)) (ea_w (ea_glob (v := V.int 8) rfl mN ⟨t, rfl⟩)) rfl)) (fun _ => ea_and (ea_w (ea_isascii (ea_w (ea_var 0 rfl)))) (fun _ => ea_one (ea_isalnum (ea_w (ea_var 0 rfl)))))) ?_))
  show bl _ = bl _
  rw [note_val]
abbrev sWf : Stmt := (topS 33)
theorem sc_wf : FnScope ["rule"] ["rule"] (defScope sWf) := ⟨rfl, rfl, rfl, by decide +kernel, rfl, by decide +kernel, by decide +kernel⟩
abbrev spWf : Sp := spX (fun r : List Str => r.length ≤ 1000) (fun r => [ruleA r]) (fun r => bl (wfB r))
abbrev sNamed : Stmt := (topS 34)
theorem sc_named : FnScope ["rule", "at"] ["rule"] (defScope sNamed) := ⟨rfl, rfl, rfl, by decide +kernel, rfl, by decide +kernel, by decide +kernel⟩
abbrev spNamed : Sp := spX (fun r : List Str => Odd35 r) (fun r => [ruleA r]) (fun r => lstA ((named r).map prA))
theorem ok_named {f : Addr} {fd : FuncData} (F : Fun K "named_pairs" "named_pairs" sNamed f fd) (mL : mg "len" = none) (mR : mg "range" = none) : FnOk P w K mg base CX0 1 f fd ["rule"] spNamed := by
  refine fn_ok F sc_named (fun _ _ => rfl) fun r cdv B outer sh H E hs hr => ?_
  have nd := sc_named.nd
  have hs : Odd35 r := hs
  have at_ : ∀ {i : Nat}, i < r.length → (r.map str)[i]? = some (str (r.getD i Str.empty)) := fun {i} h => by
    rw [List.getElem?_map, List.getD_eq_getElem?_getD, List.getElem?_eq_getElem h]
    rfl
  obtain ⟨n, hn, hc, he⟩ : ∃ n : Nat, (∀ k, k < n → 1 + k * 2 + 1 < r.length) ∧ RgC 1 ((r.map str).length : Int) 2 n ∧ (List.range n).map (fun k : Nat => prA (r.getD (1 + k * 2) Str.empty, r.getD (1 + k * 2 + 1) Str.empty)) = (named r).map prA := by
    rcases hs with h | h
    · match r, h with
      | [a, b, c], _ => exact ⟨1, fun k hk => by show 1 + k * 2 + 1 < 3; omega, ⟨by decide, by decide, (by decide +kernel : Builtin.Range.small 1 3 2 = true), (by decide +kernel : Builtin.Range.rangeSize 1 3 2 = 1)⟩, rfl⟩
    · match r, h with
      | [a, b, c, d, e], _ => exact ⟨2, fun k hk => by show 1 + k * 2 + 1 < 5; omega, ⟨by decide, by decide, (by decide +kernel : Builtin.Range.small 1 5 2 = true), (by decide +kernel : Builtin.Range.rangeSize 1 5 2 = 2)⟩, rfl⟩
  have hn3 : n ≤ 5 := by
    cases n with
    | zero => omega
    | succ n =>
      have := hn n (by omega)
      rcases hs with h | h <;> omega
  refine ba_one (sa_ret (ea_is (en_a (en_lcS (own := [("at", 1)]) 1 (l := List.range n) (enc := fun k : Nat => int (1 + (k : Int) * 2)) (p := fun _ => true) (g := fun k : Nat => prA (r.getD (1 + k * 2) Str.empty, r.getD (1 + k * 2 + 1) Str.empty)) rfl nd (es_rng3 mR (eas_cons ea_int (eas_cons (ea_lenTp (ea_var 0 rfl) mL) (eas_cons ea_int eas_nil))) hc) (by rw [List.length_range, sizeLine_eq]; omega) (blkOk_by (N := ["rule", "at"]) (sc := defScope sNamed) (by decide +kernel)) (fun _ _ _ _ _ => pg_name nd rfl (Or.inl rfl)) (fun _ _ _ _ _ _ _ => pts_yes) (fun _ _ _ _ _ k hk _ => ?e1))) ?_))
  case e1 =>
    have hk := hn k (List.mem_range.mp hk)
    exact ea_tup (eas_cons (ea_ixT (ea_var 0 rfl) (ea_w (ea_var 1 rfl)) (j := 1 + k * 2) (by omega) (at_ (by omega))) (eas_cons (ea_ixT (ea_var 0 rfl) (ea_w (ea_add (ea_w (ea_var 1 rfl)) (ea_w ea_int))) (j := 1 + k * 2 + 1) (by omega) (at_ hk)) eas_nil)) (by show 2 ≤ sizeLine; decide)
  rw [flt_true, he]
end
end Kv

set_option Elab.async false
set_option linter.all false
set_option maxRecDepth 100000
set_option maxHeartbeats 4000000
namespace Kv
open PySem PySem.Calls L2 Lk
section
variable {P : Program} {w : World} {K : PySem.W.Frag} {mg : Str → Option Value} {base : Heap} {C CM : Addr}
/-! ### the given notes, checked -/
abbrev sChk : Stmt := (topS 35)
abbrev nChk : List Str := ["given", "seen", "name"]
theorem sc_chk : FnScope nChk ["given"] (defScope sChk) := ⟨rfl, rfl, rfl, by decide +kernel, rfl, by decide +kernel, by decide +kernel⟩
def Giv (g : List Str) : Prop := g.length ≤ 4 ∧ g.Nodup ∧ ∀ s ∈ g, Note s
abbrev spChk : Sp := spX (fun g : List Str => Giv g) (fun g => [strsA g]) (fun g => tupA (g.map str))
theorem note_len {s : Str} (h : Note s) : s.length ≤ 1000 := by
  obtain ⟨l, rfl, _, h, _⟩ := h
  show (S l).cps.size ≤ 1000
  have e : (S l).cps.size = l.length := by simp [S]
  omega
theorem ok_chk {f : Addr} {fd : FuncData} (F : Fun K "checked_given" "checked_given" sChk f fd) (mL : mg "len" = none) (mT : mg "tuple" = none) (mG : ∃ t, mg "MOST_GIVEN" = some (.int 4 t)) (DN : Df P w K mg base 1 "is_note" ["name"] spNote) : FnOk P w K mg base CX0 2 f fd ["given"] spChk := by
  refine fn_ok F sc_chk (fun _ _ => rfl) fun g cdv B outer sh H E hg hr => ?_
  have nd := sc_chk.nd
  obtain ⟨g1, g2, g3⟩ : Giv g := hg
  obtain ⟨t, mG⟩ := mG
  have lg : (g.map str).length = g.length := List.length_map ..
  refine ba_cons (sa_if (et_cm (ea_w (ea_is (ea_lenL (ea_l (ea_var 0 rfl)) mL) (by rw [lg]))) (ea_w (ea_glob (v := V.int 4) rfl mG ⟨t, rfl⟩)) cm_gt rfl) (fun h => ?_) (fun h => ?_))
  · have h : (4 : Int) < (g.length : Int) := of_decide_eq_true h
    omega
  refine ba_nil (ba_cons (sa_setN 1 nd (en_lst eas_nil (Nat.zero_le _)) ?_))
  refine ba_cons (sa_for (l := g.map str) 2 (fun n ρ' => n ≤ g.length ∧ ρ' = [.fr (strsA g), .own ((g.take n).map str), .no]) PassesOwn.never rfl nd (ea_var 0 rfl) ?h0 ?hs ?hd)
  case h0 => exact ⟨_, ⟨Nat.zero_le _, rfl⟩, Le.refl _⟩
  case hs =>
    rintro n A ρ' hn ⟨hl, rfl⟩
    have hnl : n < g.length := by
      have z := (List.getElem?_eq_some_iff.mp hn).1
      rw [List.length_map] at z
      exact z
    have hc : g[n]? = some g[n] := List.getElem?_eq_getElem hnl
    have hA : A = str g[n] := by
      rw [List.getElem?_map, hc] at hn
      exact (Option.some.inj hn).symm
    subst hA
    have tk : g.take (n + 1) = g.take n ++ [g[n]] := by
      rw [List.take_add_one, hc]
      rfl
    have hN := g3 _ (List.getElem_mem hnl)
    have hnew : g[n] ∉ g.take n := fun z => by
      obtain ⟨i, hi, e⟩ := List.mem_iff_getElem.mp z
      rw [List.length_take] at hi
      rw [List.getElem_take] at e
      have q := nd_ix g2 (i := i) (j := n) (by rw [List.getElem?_eq_getElem (by omega)]) (by rw [hc, e])
      omega
    have hok : okL okS (g.take n) := fun s hs => note_ok (g3 s (List.mem_of_mem_take hs))
    generalize g[n] = c at hN hnew tk
    refine ba_cons (sa_if (et_not (et_v (k := noteB c) (ea_w (ea_callB DN hr c (note_len hN) rfl (eas_cons (ea_var 2 rfl) eas_nil))))) (fun h => ?_) (fun h => ?_))
    · rw [noteB_ok.mpr hN] at h
      cases h
    refine ba_nil (ba_cons (sa_if (et_cm (ea_w (ea_var 2 rfl)) (el_w (el_var 1 rfl)) (cm_in hr enc_str (note_ok hN) hok) rfl) (fun h => ?_) (fun h => ?_)))
    · exact (hnew (of_decide_eq_true h)).elim
    refine ba_nil (ba_one (sa_app 1 rfl (pe_app 1 (A := str c) (ea_var 2 rfl)) (by rw [List.length_map, List.length_take, sizeLine_eq]; omega) ?_))
    refine ⟨_, ⟨hnl, rfl⟩, ?_⟩
    rw [tk, List.map_append]
    exact .same (.same (.no .nil))
  case hd =>
    rintro ρ' ⟨_, rfl⟩
    rw [List.length_map, List.take_length]
    exact ba_one (sa_ret (ea_tupleL (el_var 1 rfl) mT))
/-! ### in -/
abbrev sCon : Stmt := (inClass (topS 37) 7)
abbrev nCon : List Str := ["self", "rule", "pair_rules", "pair", "pair_rule"]
theorem sc_con : FnScope nCon ["self", "rule"] (defScope sCon) := ⟨rfl, rfl, rfl, by decide +kernel, rfl, by decide +kernel, by decide +kernel⟩
abbrev spCon (C CM : Addr) : Sp := spX (fun i : Bk × List Str => Okb i.1) (fun i => [bookA C CM i.1, ruleA i.2]) (fun i => bl (conB i.1 i.2))
theorem named_len {r : List Str} (h : Odd35 r) : (named r).length ≤ 2 := by
  rcases h with h | h
  · match r, h with
    | [a, b, c], _ => exact (by decide : (1 : Nat) ≤ 2)
  · match r, h with
    | [a, b, c, d, e], _ => exact (by decide : (2 : Nat) ≤ 2)
theorem ea_marks {X : Cx} {e : Expr} {ρ : List En} {pos : Pos} {B : Bk} (he : EA X e ρ (bookA C CM B)) (T : BTx X.K C CM) (hb : attributeBase e "_marks" X.env (eval e X.env) = eval e X.env := by rfl) : EA X (.Attribute e "_marks" pos) ρ (dtA (marksL CM B)) := ea_fld he T.cl T.nM (by rfl) hb
theorem ea_ansD {X : Cx} {e : Expr} {ρ : List En} {pos : Pos} {B : Bk} (he : EA X e ρ (bookA C CM B)) (T : BTx X.K C CM) (hb : attributeBase e "_answers" X.env (eval e X.env) = eval e X.env := by rfl) : EA X (.Attribute e "_answers" pos) ρ (dkA (ansL B)) := ea_fld he T.cl T.nA (by rfl) hb
theorem ea_given {X : Cx} {e : Expr} {ρ : List En} {pos : Pos} {B : Bk} (he : EA X e ρ (bookA C CM B)) (T : BTx X.K C CM) (hb : attributeBase e "given" X.env (eval e X.env) = eval e X.env := by rfl) : EA X (.Attribute e "given" pos) ρ (tupA (B.given.map str)) := ea_fld he T.cl T.nG (by rfl) hb
/-- self._marks[r].held -/
theorem ea_held {X : Cx} {e i : Expr} {ρ : List En} {p1 p2 p3 : Pos} {B : Bk} {r : List Str} {h : Bool} {k : Nat} (hr : Room k X.A) (he : EA X e ρ (bookA C CM B)) (T : BTx X.K C CM) (hi : EA X i ρ (ruleA r)) (hh : heldB B r = some h) (hb : attributeBase e "_marks" X.env (eval e X.env) = eval e X.env := by rfl) (hs : NoSl i := by exact fun _ _ => rfl)
    (hb2 : attributeBase (.Subscript (.Attribute e "_marks" p1) i p2) "held" X.env (eval (.Subscript (.Attribute e "_marks" p1) i p2) X.env) = eval (.Subscript (.Attribute e "_marks" p1) i p2) X.env := by rfl) : EA X (.Attribute (.Subscript (.Attribute e "_marks" p1) i p2) "held" p3) ρ (bl h) :=
  ea_fld (ea_getT hr (ea_marks he T hb) hi (by rw [marks_look, hh]; rfl) hs) T.cm T.nH (by rfl) hb2
theorem ok_con {f : Addr} {fd : FuncData} (F : Fun K "__contains__" "Book.__contains__" sCon f fd) (T : BTx K C CM) (mA : mg "any" = none) (DN : Df P w K mg base 1 "named_pairs" ["rule"] spNamed) : FnOk P w K mg base CX0 2 f fd ["self", "rule"] (spCon C CM) := by
  refine fn_ok F sc_con (fun _ _ => rfl) fun ⟨B, r⟩ cdv B0 outer sh H E hB hr => ?_
  have nd := sc_con.nd
  have hB : Okb B := hB
  show BA _ _ _ _ { R := bl (conB B r) }
  have hlk : ((marksL CM B).lookup r).isSome = (heldB B r).isSome := by
    rw [marks_look]
    cases heldB B r <;> rfl
  cases hh : heldB B r with
  | none =>
    have e : conB B r = false := by unfold conB; rw [hh]
    refine ba_cons (sa_if (k := true) (et_is (et_w (ewt_or (k := true) (et_notinT hr (ea_var 1 rfl) (ea_marks (ea_var 0 rfl) T) rfl) (fun z => ?_))) ?_) (fun _ => ?_) (fun z => ?_))
    · rw [hlk, hh] at z
      cases z
    · rw [hlk, hh]
      rfl
    · rw [e]
      exact ba_one (sa_ret ea_bl)
    · cases z
  | some h =>
    obtain ⟨ho, hn⟩ := hB.nm r h hh
    refine ba_cons (sa_if (k := h) (et_is (et_w (ewt_or (k := h) (et_notinT hr (ea_var 1 rfl) (ea_marks (ea_var 0 rfl) T) rfl) (fun _ => ewt_or1 (et_v (ea_w (ea_held hr (ea_var 0 rfl) T (ea_var 1 rfl) hh)))))) ?_) (fun z => ?_) (fun z => ?_))
    · rw [hlk, hh]
      rfl
    · subst z
      have e : conB B r = false := by unfold conB; rw [hh]
      rw [e]
      exact ba_one (sa_ret ea_bl)
    · subst z
      have hl2 := named_len ho
      refine ba_nil (ba_cons (sa_setLc (own := [("pair", 3)]) 2 3 (l := named r) (enc := prA) (p := fun _ => true) (g := fun p => ruleA (pairR p)) rfl nd (ea_l (ea_callB DN (hr.mono (show 1 ≤ 1 by decide)) r ho rfl (eas_cons (ea_var 1 rfl) eas_nil))) (by rw [sizeLine_eq]; omega) (blkOk_by (N := nCon) (sc := defScope sCon) (by decide +kernel)) (fun _ _ _ _ _ => pg_name nd rfl (Or.inl rfl)) (fun _ _ _ _ _ _ _ => pts_yes) (fun _ _ _ _ _ p hp _ => ?e1) ?_))
      case e1 => exact ea_is (ea_tup (l := [str "pair", str p.1, str p.2]) (eas_cons ea_str (eas_star (la := [str p.1, str p.2]) (lb := []) (ea_var 3 rfl) eas_nil)) (by show 3 ≤ sizeLine; decide)) rfl
      rw [flt_true]
      refine ba_one (sa_ret (ea_is (ea_not (ea_w (ea_any (bs := (named r).map fun p => (heldB B (pairR p)).getD false) (by
        rw [List.map_map]
        refine en_l (en_lcA (own := [("pair_rule", 4)]) 4 (l := named r) (enc := fun p => ruleA (pairR p)) rfl nd (el_var 2 rfl) (by rw [sizeLine_eq]; omega) (blkOk_by (N := nCon) (sc := defScope sCon) (by decide +kernel)) (fun _ _ _ _ _ => pg_name nd rfl (Or.inl rfl)) (fun _ _ _ _ _ p hp => ?e2))
        case e2 =>
          obtain ⟨hb, hhp⟩ := hn p hp
          exact ea_is (ea_held hr (ea_var 0 rfl) T (ea_var 4 rfl) hhp) (by show bl hb = bl ((heldB B (pairR p)).getD false); rw [hhp]; rfl)) rfl mA))) ?_))
      · unfold conB
        rw [hh]
end
end Kv

set_option Elab.async false
set_option linter.all false
set_option maxRecDepth 100000
set_option maxHeartbeats 4000000
namespace Kv
open PySem PySem.Calls L2 Lk
def knownL (B : Bk) : List Pr := B.given.flatMap fun n => (ansOf B n).map fun a => (n, a)
def pairsL (B : Bk) : List Pr := (knownL B).filter fun p => conB B (pairR p)
def allR (ps : List Pr) : List (List Str) := ([("pair" : Str), "open", "close"].flatMap fun w => ps.map fun p => [w, p.1, p.2]) ++ ps.flatMap fun p => ps.map fun q => [("step" : Str), p.1, p.2, q.1, q.2]
def rulesL (B : Bk) : List (List Str) := (allR (pairsL B)).filter fun r => conB B r
section
variable {P : Program} {w : World} {K : PySem.W.Frag} {mg : Str → Option Value} {base : Heap} {C CM : Addr}
abbrev sReqN : Stmt := (inClass (topS 37) 10)
theorem sc_reqN : FnScope ["self", "note"] ["self", "note"] (defScope sReqN) := ⟨rfl, rfl, rfl, by decide +kernel, rfl, by decide +kernel, by decide +kernel⟩
abbrev spReqN (C CM : Addr) : Sp := spX (fun i : Bk × Str => i.1.ans.length = i.1.given.length ∧ i.2 ∈ i.1.given) (fun i => [bookA C CM i.1, str i.2]) (fun _ => non)
theorem ok_reqN {f : Addr} {fd : FuncData} (F : Fun K "_require_note" "Book._require_note" sReqN f fd) (T : BTx K C CM) : FnOk P w K mg base CX0 1 f fd ["self", "note"] (spReqN C CM) := by
  refine fn_ok F sc_reqN (fun _ _ => rfl) fun ⟨B, n⟩ cdv B0 outer sh H E hB hr => ?_
  have hl : B.ans.length = B.given.length := hB.1
  have hn : n ∈ B.given := hB.2
  refine ba_one (sa_if (et_notinK hr (ea_w (ea_var 1 rfl)) (ea_ansD (ea_var 0 rfl) T) rfl) (fun z => ?_) (fun _ => ba_nil fun _ => rfl))
  rw [ans_has B hl hn] at z
  cases z
abbrev sReqP : Stmt := (inClass (topS 37) 11)
theorem sc_reqP : FnScope ["self", "pair"] ["self", "pair"] (defScope sReqP) := ⟨rfl, rfl, rfl, by decide +kernel, rfl, by decide +kernel, by decide +kernel⟩
abbrev spReqP (C CM : Addr) : Sp := spX (fun i : Bk × Pr => Okb i.1 ∧ conB i.1 (pairR i.2) = true) (fun i => [bookA C CM i.1, prA i.2]) (fun _ => non)
theorem ea_pairR {X : Cx} {ρ : List En} {pos p1 : Pos} {j x1} {e : Expr} {p : Pr} (he : EA X e ρ (prA p)) (hs : starEach (.Constant (.str "pair") j p1 :: [.Starred e pos']) X.env = (false, eval (.Constant (.str "pair") j p1) X.env) :: starEach [.Starred e pos'] X.env := by rfl)
    (hs2 : starEach (.Starred e pos' :: []) X.env = (true, eval e X.env) :: starEach [] X.env := by rfl) : EA X (.Tuple [.Constant (.str "pair") j p1, .Starred e pos'] x1 pos) ρ (ruleA (pairR p)) :=
  ea_is (ea_tup (l := [str "pair", str p.1, str p.2]) (eas_cons ea_str (eas_star (la := [str p.1, str p.2]) (lb := []) he eas_nil hs2) hs) (by show 3 ≤ sizeLine; decide)) rfl
theorem ok_reqP {f : Addr} {fd : FuncData} (F : Fun K "_require_pair" "Book._require_pair" sReqP f fd) (T : BTx K C CM) (DC : Mf P w K mg base 2 C "__contains__" ["self", "rule"] (spCon C CM)) : FnOk P w K mg base CX0 3 f fd ["self", "pair"] (spReqP C CM) := by
  refine fn_ok F sc_reqP (fun _ _ => rfl) fun ⟨B, p⟩ cdv B0 outer sh H E hB hr => ?_
  have hk : Okb B := hB.1
  have hc : conB B (pairR p) = true := hB.2
  refine ba_one (sa_if (et_notinO (bb := true) DC hr (B, pairR p) hk (ea_pairR (ea_var 1 rfl)) (ea_var 0 rfl) rfl (by show bl _ = bl _; rw [hc]) rfl) (fun z => ?_) (fun _ => ba_nil fun _ => rfl))
  cases z
abbrev sPairs : Stmt := (inClass (topS 37) 1)
abbrev nPairs : List Str := ["self", "known", "note", "answer", "pair"]
theorem sc_pairs : FnScope nPairs ["self"] (defScope sPairs) := ⟨rfl, rfl, rfl, by decide +kernel, rfl, by decide +kernel, by decide +kernel⟩
def OkP (B : Bk) : Prop := Okb B ∧ (knownL B).length ≤ 100
abbrev spPairs (C CM : Addr) : Sp := spX (fun B : Bk => OkP B) (fun B => [bookA C CM B]) (fun B => lstA ((pairsL B).map prA))
theorem knownL_As (B : Bk) : (B.given.flatMap fun n => (ansOf B n).map fun a => prA (n, a)) = (knownL B).map prA := by
  unfold knownL
  rw [List.map_flatMap]
  congr 1
  funext n
  rw [List.map_map]
  rfl
theorem ok_pairs {f : Addr} {fd : FuncData} (F : Fun K "pairs" "Book.pairs" sPairs f fd) (T : BTx K C CM) (DC : Mf P w K mg base 2 C "__contains__" ["self", "rule"] (spCon C CM)) : FnOk P w K mg base CX0 3 f fd ["self"] (spPairs C CM) := by
  refine fn_ok F sc_pairs (fun _ _ => rfl) fun B cdv B0 outer sh H E hB hr => ?_
  have nd := sc_pairs.nd
  have hk : Okb B := hB.1
  have hl : (knownL B).length ≤ 100 := hB.2
  refine ba_cons (sa_setLc2 (own := [("note", 2), ("answer", 3)]) 1 2 3 (l := B.given) (enc := str) (m := ansOf B) (enc1 := fun _ => str) (g := fun n a => prA (n, a)) rfl nd (es_t (ea_given (ea_var 0 rfl) T)) (by rw [knownL_As, List.length_map, sizeLine_eq]; omega) (blkOk_by (N := nPairs) (sc := defScope sPairs) (by decide +kernel)) (fun _ _ _ _ _ => pg_name nd rfl (Or.inl rfl)) (fun _ _ _ _ _ n hn => es_l (ea_getK hr (ea_ansD (ea_var 0 rfl) T) (ea_w (ea_var 2 rfl)) (ans_look B hk.len hn))) (fun _ _ _ _ _ => pg_name nd rfl (Or.inl rfl)) (fun _ _ _ _ _ n hn a ha => ea_tup (eas_cons (ea_var 2 rfl) (eas_cons (ea_var 3 rfl) eas_nil)) (by show 2 ≤ sizeLine; decide)) ?_)
  rw [knownL_As]
  refine ba_one (sa_ret (en_a (en_lc (own := [("pair", 4)]) 4 (l := knownL B) (enc := prA) (p := fun p => conB B (pairR p)) (g := prA) rfl nd (el_var 1 rfl) (by rw [sizeLine_eq]; omega) (blkOk_by (N := nPairs) (sc := defScope sPairs) (by decide +kernel)) (fun _ _ _ _ _ => pg_name nd rfl (Or.inl rfl)) (fun _ _ _ _ _ p hp => ?t1) (fun _ _ _ _ _ p hp _ => ea_var 4 rfl))))
  case t1 => exact pts_one (et_inO DC hr (B, pairR p) hk (ea_pairR (ea_var 4 rfl)) (ea_var 0 rfl) rfl rfl rfl)
abbrev sRulesP : Stmt := (inClass (topS 37) 2)
abbrev nRulesP : List Str := ["self", "pairs", "single", "steps", "word", "pair", "following", "rule"]
theorem sc_rulesP : FnScope nRulesP ["self"] (defScope sRulesP) := ⟨rfl, rfl, rfl, by decide +kernel, rfl, by decide +kernel, by decide +kernel⟩
abbrev spRulesP (C CM : Addr) : Sp := spX (fun B : Bk => OkP B) (fun B => [bookA C CM B]) (fun B => rulesA (rulesL B))
theorem pairsL_le {B : Bk} (h : OkP B) : (pairsL B).length ≤ 100 := Nat.le_trans (List.length_filter_le _ _) h.2
theorem flat_len {α β : Type} (l : List α) (f : α → List β) (k : Nat) (h : ∀ a ∈ l, (f a).length ≤ k) : (l.flatMap f).length ≤ l.length * k := by
  induction l with
  | nil => simp
  | cons a l ih =>
    rw [List.flatMap_cons, List.length_append, List.length_cons, Nat.succ_mul]
    have h1 := h a List.mem_cons_self
    have h2 := ih fun b hb => h b (List.mem_cons_of_mem _ hb)
    omega
theorem ok_rulesP {f : Addr} {fd : FuncData} (F : Fun K "rules" "Book.rules" sRulesP f fd) (T : BTx K C CM) (DC : Mf P w K mg base 2 C "__contains__" ["self", "rule"] (spCon C CM)) (DP : Pf P w K mg base 3 C "pairs" (spPairs C CM)) : FnOk P w K mg base CX0 5 f fd ["self"] (spRulesP C CM) := by
  refine fn_ok F sc_rulesP (fun _ _ => rfl) fun B cdv B0 outer sh H E hB hr => ?_
  have nd := sc_rulesP.nd
  have hP : OkP B := hB
  have hk : Okb B := hP.1
  have hl := pairsL_le hP
  refine ba_cons (sa_set 1 nd (A := lstA ((pairsL B).map prA)) (ea_propB DP hr T.cl B hP rfl (ea_var 0 rfl) rfl) ?_)
  have e1 : ([("pair" : Str), "open", "close"].flatMap fun w => (pairsL B).map fun p => ruleA [w, p.1, p.2]) = ([("pair" : Str), "open", "close"].flatMap fun w => (pairsL B).map fun p => [w, p.1, p.2]).map ruleA := by
    rw [List.map_flatMap]
    congr 1
    funext n
    rw [List.map_map]
    rfl
  have l1 : ([("pair" : Str), "open", "close"].flatMap fun w => (pairsL B).map fun p => [w, p.1, p.2]).length ≤ 300 := by
    have q := flat_len [("pair" : Str), "open", "close"] (fun w => (pairsL B).map fun p => [w, p.1, p.2]) 100 fun a _ => by rw [List.length_map]; exact hl
    exact q
  have e2 : ((pairsL B).flatMap fun p => (pairsL B).map fun q => ruleA [("step" : Str), p.1, p.2, q.1, q.2]) = ((pairsL B).flatMap fun p => (pairsL B).map fun q => [("step" : Str), p.1, p.2, q.1, q.2]).map ruleA := by
    rw [List.map_flatMap]
    congr 1
    funext n
    rw [List.map_map]
    rfl
  have l2 : ((pairsL B).flatMap fun p => (pairsL B).map fun q => [("step" : Str), p.1, p.2, q.1, q.2]).length ≤ 10000 := by
    have q := flat_len (pairsL B) (fun p => (pairsL B).map fun q => [("step" : Str), p.1, p.2, q.1, q.2]) 100 fun a _ => by rw [List.length_map]; exact hl
    exact Nat.le_trans q (Nat.mul_le_mul hl (Nat.le_refl 100))
  refine ba_cons (sa_setLc2 (own := [("word", 4), ("pair", 5)]) 2 4 5 (l := [("pair" : Str), "open", "close"]) (enc := str) (m := fun _ => pairsL B) (enc1 := fun _ => prA) (g := fun w p => ruleA [w, p.1, p.2]) rfl nd (es_t (ea_tup (eas_cons ea_str (eas_cons ea_str (eas_cons ea_str eas_nil))) (by show 3 ≤ sizeLine; decide))) (by rw [e1, List.length_map, sizeLine_eq]; omega) (blkOk_by (N := nRulesP) (sc := defScope sRulesP) (by decide +kernel)) (fun _ _ _ _ _ => pg_name nd rfl (Or.inl rfl)) (fun _ _ _ _ _ w hw => es_l (ea_var 1 rfl)) (fun _ _ _ _ _ => pg_name nd rfl (Or.inl rfl)) (fun _ _ _ _ _ w hw p hp => ?g1) ?_)
  case g1 => exact ea_is (ea_tup (l := [str w, str p.1, str p.2]) (eas_cons (ea_var 4 rfl) (eas_star (la := [str p.1, str p.2]) (lb := []) (ea_var 5 rfl) eas_nil)) (by show 3 ≤ sizeLine; decide)) rfl
  rw [e1]
  refine ba_cons (sa_setLc2 (own := [("pair", 5), ("following", 6)]) 3 5 6 (l := pairsL B) (enc := prA) (m := fun _ => pairsL B) (enc1 := fun _ => prA) (g := fun p q => ruleA ["step", p.1, p.2, q.1, q.2]) rfl nd (es_l (ea_var 1 rfl)) (by rw [e2, List.length_map, sizeLine_eq]; omega) (blkOk_by (N := nRulesP) (sc := defScope sRulesP) (by decide +kernel)) (fun _ _ _ _ _ => pg_name nd rfl (Or.inl rfl)) (fun _ _ _ _ _ w hw => es_l (ea_var 1 rfl)) (fun _ _ _ _ _ => pg_name nd rfl (Or.inl rfl)) (fun _ _ _ _ _ p hp q hq => ?g2) ?_)
  case g2 => exact ea_is (ea_tup (l := [str "step", str p.1, str p.2, str q.1, str q.2]) (eas_cons ea_str (eas_star (la := [str p.1, str p.2]) (lb := [str q.1, str q.2]) (ea_var 5 rfl) (eas_star (la := [str q.1, str q.2]) (lb := []) (ea_var 6 rfl) eas_nil))) (by show 5 ≤ sizeLine; decide)) rfl
  rw [e2]
  refine ba_one (sa_ret (ea_is (en_a (en_lc (own := [("rule", 7)]) 7 (l := allR (pairsL B)) (enc := ruleA) (p := fun r => conB B r) (g := ruleA) rfl nd ?_ (by unfold allR; rw [List.length_append, sizeLine_eq]; omega) (blkOk_by (N := nRulesP) (sc := defScope sRulesP) (by decide +kernel)) (fun _ _ _ _ _ => pg_name nd rfl (Or.inl rfl)) (fun _ _ _ _ _ r hr' => ?t1) (fun _ _ _ _ _ r hr' _ => ea_var 7 rfl))) rfl))
  · unfold allR
    rw [List.map_append]
    exact en_l (en_cat (el_var 2 rfl) (el_var 3 rfl) (by rw [List.length_map, List.length_map, sizeLine_eq]; omega))
  case t1 => exact pts_one (et_inO DC (hr.mono (show 2 ≤ 4 by decide)) (B, r) hk (ea_var 7 rfl) (ea_var 0 rfl) rfl rfl rfl)
end
end Kv

set_option Elab.async false
set_option linter.all false
set_option maxRecDepth 100000
set_option maxHeartbeats 4000000
namespace Kv
open PySem PySem.Calls L2 Lk
/-! ### a book that is being filled: where its parts stand -/
structure Rg where
  p : Addr
  dx : Addr
  g : Addr
  an : Addr
  kk : Addr
  ls : List Addr
  ms : List Addr
def kRow (x : List Str × Bool) : List Key := kT x.1
def anV (B : Bk) (ls : List Addr) : List (Key × V) := (B.given.map fun n => (Sum.inr n : Key)).zip (ls.map V.ref)
def mkV (B : Bk) (ms : List Addr) : List (List Key × V) := (B.marks.map kRow).zip (ms.map V.ref)
structure At (C CM : Addr) (H : Hp) (R : Rg) (B : Bk) : Prop where
  ob : H R.p = some (.ins C R.dx [("given", .ref R.g), ("_answers", .ref R.an), ("_marks", .ref R.kk)])
  gv : H R.g = some (.tup (B.given.map V.str))
  an : H R.an = some (.dK (anV B R.ls))
  kk : H R.kk = some (.dT (mkV B R.ms))
  ll : R.ls.length = B.given.length
  la : B.ans.length = B.given.length
  lm : R.ms.length = B.marks.length
  ls : ∀ (i : Nat) (a : Addr) (l : List Str), R.ls[i]? = some a → B.ans[i]? = some l → H a = some (.lst (l.map V.str))
  ms : ∀ (i : Nat) (a : Addr) (x : List Str × Bool), R.ms[i]? = some a → B.marks[i]? = some x → ∃ d, H a = some (.ins CM d [("held", .bl x.2)])
  nd : R.ls.Nodup
theorem At.mono {C CM : Addr} {H H' : Hp} {R : Rg} {B : Bk} (A : At C CM H R B) (e : Ex H H') : At C CM H' R B :=
  ⟨e _ _ A.ob, e _ _ A.gv, e _ _ A.an, e _ _ A.kk, A.ll, A.la, A.lm, fun i a l h1 h2 => e _ _ (A.ls i a l h1 h2), fun i a x h1 h2 => let ⟨d, h⟩ := A.ms i a x h1 h2; ⟨d, e _ _ h⟩, A.nd⟩
theorem allV_of {F : Hp} : ∀ {vs : List V} {l : List As}, vs.length = l.length → (∀ (i : Nat) v A, vs[i]? = some v → l[i]? = some A → A.p F v) → AllV F vs l
  | [], [], _, _ => trivial
  | v :: vs, A :: l, h, k => ⟨k 0 v A rfl rfl, allV_of (by simpa using h) fun i v A h1 h2 => k (i + 1) v A (by simpa using h1) (by simpa using h2)⟩
  | [], _ :: _, h, _ => by simp at h
  | _ :: _, [], h, _ => by simp at h
theorem zip_keys {α : Type} (g : List Str) (as : List α) (h : as.length = g.length) : (g.zip as).map (fun x => (Sum.inr x.1 : Key)) = g.map fun n => (Sum.inr n : Key) := by
  induction g generalizing as with
  | nil => rfl
  | cons x g ih =>
    cases as with
    | nil => simp at h
    | cons a as =>
      rw [List.zip_cons_cons, List.map_cons, List.map_cons, ih as (by simpa using h)]
theorem zip_snd {α β : Type} (g : List α) (as : List β) (h : as.length = g.length) : (g.zip as).map Prod.snd = as := by
  induction g generalizing as with
  | nil =>
    have e : as = [] := List.length_eq_zero_iff.mp (by simpa using h)
    subst e
    rfl
  | cons x g ih =>
    cases as with
    | nil => simp at h
    | cons a as => rw [List.zip_cons_cons, List.map_cons, ih as (by simpa using h)]
theorem At.book {C CM : Addr} {H : Hp} {R : Rg} {B : Bk} (A : At C CM H R B) : (bookA C CM B).p H (.ref R.p) := by
  refine ⟨R.p, R.dx, [.ref R.g, .ref R.an, .ref R.kk], rfl, A.ob, strs_of A.gv, ?_, ?_, trivial⟩
  · have hl : (B.ans.map fun a => lstA (a.map str)).length = B.given.length := by rw [List.length_map]; exact A.la
    refine ⟨R.an, R.ls.map V.ref, rfl, ?_, ?_⟩
    · unfold ansL
      rw [zip_keys _ _ hl]
      exact A.an
    · show AllV H _ ((B.given.zip (B.ans.map fun a => lstA (a.map str))).map Prod.snd)
      rw [zip_snd _ _ hl]
      refine allV_of (by rw [List.length_map, List.length_map, A.ll, A.la]) fun i v As h1 h2 => ?_
      rw [List.getElem?_map] at h1 h2
      cases e1 : R.ls[i]? with
      | none => rw [e1] at h1; cases h1
      | some a =>
        cases e2 : B.ans[i]? with
        | none => rw [e2] at h2; cases h2
        | some l =>
          rw [e1] at h1
          rw [e2] at h2
          have h1 : V.ref a = v := by simpa using h1
          have h2 : lstA (l.map str) = As := by simpa using h2
          subst h1 h2
          exact lsts_of (A.ls i a l e1 e2)
  · refine ⟨R.kk, R.ms.map V.ref, rfl, ?_, ?_⟩
    · unfold marksL
      rw [List.map_map]
      exact A.kk
    · show AllV H _ ((B.marks.map fun x => (x.1, markA CM x.2)).map Prod.snd)
      rw [List.map_map]
      refine allV_of (by rw [List.length_map, List.length_map, A.lm]) fun i v As h1 h2 => ?_
      rw [List.getElem?_map] at h1 h2
      cases e1 : R.ms[i]? with
      | none => rw [e1] at h1; cases h1
      | some a =>
        cases e2 : B.marks[i]? with
        | none => rw [e2] at h2; cases h2
        | some x =>
          rw [e1] at h1
          rw [e2] at h2
          have h1 : V.ref a = v := by simpa using h1
          have h2 : markA CM x.2 = As := by simpa using h2
          subst h1 h2
          obtain ⟨d, h⟩ := A.ms i a x e1 e2
          exact ⟨a, d, [.bl x.2], rfl, h, rfl, trivial⟩
/-! ### a rule read -/
def addA : List Str → List (List Str) → Str → Str → List (List Str)
  | x :: g, l :: an, n, a => if x = n then (if a ∈ l then l else l ++ [a]) :: an else l :: addA g an n a
  | _, an, _, _ => an
def hasK (m : List (List Str × Bool)) (r : List Str) : Bool := m.any fun x => decide (x.1 = r)
def putM (m : List (List Str × Bool)) (r : List Str) : List (List Str × Bool) := if hasK m r = true then m else m ++ [(r, false)]
def putS (m : List (List Str × Bool)) (ms : List Addr) (r : List Str) (a : Addr) : List Addr := if hasK m r = true then ms else ms ++ [a]
def addB (B : Bk) (r : List Str) : Bk := ⟨B.given, if r.headD Str.empty = "pair" then addA B.given B.ans (r.getD 1 Str.empty) (r.getD 2 Str.empty) else B.ans, putM B.marks r⟩
theorem any_zip : ∀ (m : List (List Str × Bool)) (ms : List Addr) (r : List Str), ms.length = m.length → (((m.map kRow).zip (ms.map V.ref)).any fun kv => decide (kv.1 = kT r)) = hasK m r
  | [], _, _, _ => by simp [hasK]
  | x :: m, a :: ms, r, h => by
    have q := any_zip m ms r (by simpa using h)
    unfold hasK at q ⊢
    rw [List.map_cons, List.map_cons, List.zip_cons_cons, List.any_cons, List.any_cons, q]
    congr 1
    rw [decide_eq_decide]
    exact ⟨fun e => kT_inj e, fun e => by rw [← e]; rfl⟩
  | _ :: _, [], _, h => by simp at h
theorem putK_mk (B : Bk) (ms : List Addr) (r : List Str) (a : Addr) (h : ms.length = B.marks.length) (hk : hasK B.marks r = false) : putK (mkV B ms) (kT r) (V.ref a) = mkV (addB B r) (putS B.marks ms r a) := by
  unfold putK mkV
  rw [any_zip _ _ _ h, hk]
  show _ = ((putM B.marks r).map kRow).zip _
  unfold putM putS
  rw [hk]
  simp only [Bool.false_eq_true, if_false]
  rw [List.map_append, List.map_append, List.zip_append (by rw [List.length_map, List.length_map, h])]
  rfl
theorem val_mk (B : Bk) (ms : List Addr) (r : List Str) (h : ms.length = B.marks.length) : (valV (mkV B ms) (kT r)).isSome = hasK B.marks r := by
  rw [← any_zip B.marks ms r h]
  unfold valV mkV
  rw [Option.isSome_map, Bool.eq_iff_iff, List.find?_isSome, List.any_eq_true]
theorem putS_len (m : List (List Str × Bool)) (ms : List Addr) (r : List Str) (a : Addr) (h : ms.length = m.length) : (putS m ms r a).length = (putM m r).length := by
  unfold putS putM
  by_cases e : hasK m r = true
  · rw [if_pos e, if_pos e, h]
  · rw [if_neg e, if_neg e, List.length_append, List.length_append, h]
    rfl
theorem putS_at (m : List (List Str × Bool)) (ms : List Addr) (r : List Str) (a : Addr) (h : ms.length = m.length) {i : Nat} {b : Addr} {x : List Str × Bool} (h1 : (putS m ms r a)[i]? = some b) (h2 : (putM m r)[i]? = some x) : (b = a ∧ x.2 = false) ∨ (∃ y : List Str × Bool, ms[i]? = some b ∧ m[i]? = some y ∧ y.2 = x.2) := by
  unfold putS at h1
  unfold putM at h2
  by_cases e : hasK m r = true
  · rw [if_pos e] at h1 h2
    exact .inr ⟨x, h1, h2, rfl⟩
  · rw [if_neg e] at h1 h2
    by_cases hi : i < m.length
    · rw [List.getElem?_append_left (by omega)] at h1
      rw [List.getElem?_append_left hi] at h2
      exact .inr ⟨x, h1, h2, rfl⟩
    · rw [List.getElem?_append_right (by omega)] at h1
      rw [List.getElem?_append_right (by omega)] at h2
      have z1 : i - ms.length = 0 := by
        have := (List.getElem?_eq_some_iff.mp h1).1
        simp at this
        omega
      have z2 : i - m.length = 0 := by omega
      rw [z1] at h1
      rw [z2] at h2
      have h1 : a = b := by simpa using h1
      have h2 : (r, false) = x := by simpa using h2
      exact .inl ⟨h1.symm, by rw [← h2]⟩
theorem addA_len : ∀ (g : List Str) (an : List (List Str)) (n a : Str), (addA g an n a).length = an.length
  | [], _, _, _ => by simp [addA]
  | _ :: _, [], _, _ => by simp [addA]
  | x :: g, l :: an, n, a => by
    unfold addA
    by_cases e : x = n
    · rw [if_pos e]; simp
    · rw [if_neg e, List.length_cons, List.length_cons, addA_len g an n a]
/-- a given note's place -/
theorem ans_at (g : List Str) (an : List (List Str)) (ls : List Addr) (n : Str) (h1 : an.length = g.length) (h2 : ls.length = g.length) (hn : n ∈ g) :
    ∃ (i : Nat) (a : Addr) (l : List Str), ls[i]? = some a ∧ an[i]? = some l ∧ (g.zip an).lookup n = some l ∧ valV ((g.map fun n => (Sum.inr n : Key)).zip (ls.map V.ref)) (Sum.inr n) = some (.ref a) ∧ ∀ x, addA g an n x = if x ∈ l then an else an.set i (l ++ [x]) := by
  induction g generalizing an ls with
  | nil => simp at hn
  | cons y g ih =>
    cases an with
    | nil => simp at h1
    | cons l an =>
      cases ls with
      | nil => simp at h2
      | cons a ls =>
        by_cases e : y = n
        · subst e
          refine ⟨0, a, l, rfl, rfl, by simp [List.lookup], valV_pos rfl, fun x => ?_⟩
          unfold addA
          rw [if_pos rfl]
          by_cases hx : x ∈ l
          · rw [if_pos hx, if_pos hx]
          · rw [if_neg hx, if_neg hx]
            rfl
        · have hn' : n ∈ g := by
            rcases List.mem_cons.mp hn with z | z
            · exact (e z.symm).elim
            · exact z
          obtain ⟨i, b, m, q1, q2, q3, q4, q5⟩ := ih an ls (by simpa using h1) (by simpa using h2) hn'
          have hb : (n == y) = false := by simpa using fun z => e z.symm
          refine ⟨i + 1, b, m, by simpa using q1, by simpa using q2, ?_, ?_, fun x => ?_⟩
          · rw [List.zip_cons_cons, List.lookup, hb]
            exact q3
          · rw [List.map_cons, List.map_cons, List.zip_cons_cons, valV_neg fun z => e (by simpa using z)]
            exact q4
          · unfold addA
            rw [if_neg e, q5 x]
            by_cases hx : x ∈ m
            · rw [if_pos hx, if_pos hx]
            · rw [if_neg hx, if_neg hx, List.set_cons_succ]
end Kv

set_option Elab.async false
set_option linter.all false
set_option maxRecDepth 100000
set_option maxHeartbeats 4000000
namespace Kv
open PySem PySem.Calls L2 Lk
/-! ### all that is there, frozen -/
inductive FzS (H : Hp) : List (Option V) → List En → Prop
  | nil : FzS H [] []
  | no {x : Option V} {σ : List (Option V)} {ρ : List En} : FzS H σ ρ → FzS H (x :: σ) (.no :: ρ)
  | fr {A : As} {v : V} {σ : List (Option V)} {ρ : List En} : A.p H v → FzS H σ ρ → FzS H (some v :: σ) (.fr A :: ρ)
theorem FzS.len {H : Hp} {σ : List (Option V)} {ρ : List En} (h : FzS H σ ρ) : ρ.length = σ.length := by
  induction h with
  | nil => rfl
  | no _ ih => simp [ih]
  | fr _ _ ih => simp [ih]
theorem FzS.at_ {H : Hp} {σ : List (Option V)} {ρ : List En} (h : FzS H σ ρ) : ∀ {i : Nat} {A : As}, ρ[i]? = some (En.fr A) → ∃ v : V, σ[i]? = some (some v) ∧ A.p H v := by
  induction h with
  | nil => intro i A e; simp at e
  | no _ ih => intro i A e; cases i with
    | zero => simp at e
    | succ i => simpa using ih (by simpa using e)
  | @fr A0 v0 _ _ k _ ih => intro i A e; cases i with
    | zero =>
      have e : A0 = A := by simpa using e
      subst e
      exact ⟨v0, by simp, k⟩
    | succ i => simpa using ih (by simpa using e)
theorem FzS.mn {H : Hp} {σ : List (Option V)} {ρ : List En} (h : FzS H σ ρ) : ∀ {i : Nat} {x : En}, ρ[i]? = some x → ¬ x.Mn := by
  induction h with
  | nil => intro i x e; simp at e
  | no _ ih => intro i x e m; cases i with
    | zero =>
      have e : En.no = x := by simpa using e
      rw [← e] at m
      exact m
    | succ i => exact ih (by simpa using e) m
  | @fr A0 _ _ _ k _ ih => intro i x e m; cases i with
    | zero =>
      have e : En.fr A0 = x := by simpa using e
      rw [← e] at m
      exact m
    | succ i => exact ih (by simpa using e) m
theorem FzS.sat {H0 F H : Hp} {σ : List (Option V)} {ρ : List En} (h : FzS F σ ρ) (x : Ex F H) : Sat H0 F σ H ρ :=
  ⟨x, fun i A e => h.at_ e, fun i l e => (h.mn e True.intro).elim, fun i j y z p e _ m => (h.mn e m).elim, h.len, fun i B e => (h.mn e True.intro).elim⟩
theorem FzS.all {H : Hp} {σ : List (Option V)} {ρ : List En} (h : FzS H σ ρ) : Sat H H σ H ρ := h.sat (Ex.refl H)
def andA (A B : As) : As := ⟨fun F v => A.p F v ∧ B.p F v, fun e h => ⟨A.mono e h.1, B.mono e h.2⟩⟩
theorem ea_l1 {X : Cx} {e : Expr} {ρ : List En} {A B : As} (h : EA X e ρ (andA A B)) : EA X e ρ A := ea_imp h fun _ _ q => q.1
def noA : As := ⟨fun _ _ => False, fun _ h => h⟩
/-! ### the parts change -/
section
variable {C CM : Addr} {H : Hp} {R : Rg} {B : Bk}
theorem At.app (A : At C CM H R B) {i : Nat} {a : Addr} {l : List Str} {x : Str} (hi : R.ls[i]? = some a) (hl : B.ans[i]? = some l) : At C CM (upd H a (.lst ((l ++ [x]).map V.str))) R ⟨B.given, B.ans.set i (l ++ [x]), B.marks⟩ := by
  have ha := A.ls i a l hi hl
  refine ⟨by rw [upd_ne (ne_of A.ob ha (by intro z; cases z))]; exact A.ob, by rw [upd_ne (ne_of A.gv ha (by intro z; cases z))]; exact A.gv, by rw [upd_ne (ne_of A.an ha (by intro z; cases z))]; exact A.an, by rw [upd_ne (ne_of A.kk ha (by intro z; cases z))]; exact A.kk, A.ll, by rw [List.length_set]; exact A.la, A.lm, fun j b m h1 h2 => ?_, fun j b m h1 h2 => ?_, A.nd⟩
  · by_cases e : i = j
    · subst e
      rw [hi] at h1
      have h1 : a = b := by simpa using h1
      subst h1
      have hil : i < B.ans.length := (List.getElem?_eq_some_iff.mp hl).1
      rw [List.getElem?_set_self hil] at h2
      have h2 : l ++ [x] = m := by simpa using h2
      rw [upd_same, h2]
    · rw [List.getElem?_set_ne e] at h2
      have nb : b ≠ a := fun z => e (nd_ix A.nd hi (z ▸ h1))
      rw [upd_ne nb]
      exact A.ls j b m h1 h2
  · obtain ⟨d, h⟩ := A.ms j b m h1 h2
    exact ⟨d, by rw [upd_ne (ne_of h ha (by intro z; cases z))]; exact h⟩
theorem At.put (A : At C CM H R B) {r : List Str} {m : Addr} (hk : hasK B.marks r = false) (hm : ∃ d, H m = some (.ins CM d [("held", .bl false)])) : At C CM (upd H R.kk (.dT (putK (mkV B R.ms) (kT r) (.ref m)))) ⟨R.p, R.dx, R.g, R.an, R.kk, R.ls, putS B.marks R.ms r m⟩ ⟨B.given, B.ans, putM B.marks r⟩ := by
  refine ⟨by rw [upd_ne (ne_of A.ob A.kk (by intro z; cases z))]; exact A.ob, by rw [upd_ne (ne_of A.gv A.kk (by intro z; cases z))]; exact A.gv, by rw [upd_ne (ne_of A.an A.kk (by intro z; cases z))]; exact A.an, ?_, A.ll, A.la, putS_len _ _ _ _ A.lm, fun j b l h1 h2 => ?_, fun j b x h1 h2 => ?_, A.nd⟩
  · show upd H R.kk _ R.kk = _
    rw [upd_same, putK_mk _ _ _ _ A.lm hk]
    rfl
  · have q := A.ls j b l h1 h2
    rw [upd_ne (ne_of q A.kk (by intro z; cases z))]
    exact q
  · rcases putS_at _ _ _ _ A.lm h1 h2 with ⟨rfl, e⟩ | ⟨y, e1, e2, e3⟩
    · obtain ⟨d, hd⟩ := hm
      exact ⟨d, by rw [upd_ne (ne_of hd A.kk (by intro z; cases z)), hd, e]⟩
    · obtain ⟨d, hd⟩ := A.ms j b y e1 e2
      exact ⟨d, by rw [upd_ne (ne_of hd A.kk (by intro z; cases z)), hd, e3]⟩
end
section
variable {P : Program} {w : World} {K : PySem.W.Frag} {mg : Str → Option Value} {base : Heap} {C CM : Addr}
/-! ### well formed -/
theorem ea_kd {X : Cx} {a b : Expr} {ρ : List En} {pos : Pos} {d : Addr} {z : Str} {v : V} (ha : EW X a ρ (sc (.ref d))) (hb : EW X b ρ (str z)) (h : KDct X.K X.w d z v) (hs : PlainIx b := by exact fun _ _ => rfl) : EA X (.Subscript a b pos) ρ (sc v) :=
  pe_imp (pe_ix ix_kdict ha hb hs) fun σ H Q ⟨H0, F, S, k⟩ => ⟨H0, F, S, fun x H1 F1 g1 h1 => ⟨H0, F1, S.gr g1, fun y H2 F2 g2 h2 => ⟨d, z, v, h1, h2, h, k _ H2 F2 (g1.trans g2) rfl⟩⟩⟩
theorem ok_wf {f : Addr} {fd : FuncData} (F : Fun K "is_well_formed" "is_well_formed" sWf f fd) (mL : mg "len" = none) (hR : RLen K w mg) : FnOk P w K mg base CX0 1 f fd ["rule"] spWf := by
  refine fn_ok F sc_wf (fun _ _ => rfl) fun r cdv B outer sh H E hs hr => ?_
  obtain ⟨d, es, n, mD, D, h1, h2⟩ := hR.ex
  have lr : (r.map str).length = r.length := List.length_map ..
  show BA _ _ _ _ { R := bl (wfB r) }
  cases r with
  | nil =>
    refine ba_one (sa_ret (ea_is (ea_and (k := false) (ea_w (ea_cm (ea_w (ea_lenTp (ea_var 0 rfl) mL)) (ea_w ea_int) cm_gt rfl)) (fun z => ?_)) ?_))
    · exact absurd (of_decide_eq_true z) (by simp)
    · rw [Bool.and_false]
      rfl
  | cons x r =>
    have hx : ((x :: r).map str)[0]? = some (str x) := rfl
    have cin : Cm (cxOf CX0 P w K mg base ["rule"] "is_well_formed" (defScope sWf) f cdv B outer sh H E).nox .In (str x) (sc (.ref d)) (rlen x).isSome := ⟨_, op_in_kd D, fun u v H Q p q z => by
      have p : u = .str x := p
      have q : v = .ref d := q
      subst p q
      cases e : rlen x with
      | none => exact ⟨x, none, rfl, rfl, h2 x e, by rw [e] at z; exact z⟩
      | some m =>
        obtain ⟨t, ht⟩ := h1 x m e
        exact ⟨x, some _, rfl, rfl, ht, by rw [e] at z; exact z⟩⟩
    have lr2 : (((x :: r).map str).length : Int) = ((r.length + 1 : Nat) : Int) := by simp
    refine ba_one (sa_ret (ea_is (ea_and (ea_w (ea_cm (ea_w (ea_lenTp (ea_var 0 rfl) mL)) (ea_w ea_int) cm_gt rfl)) (fun _ => ea_and (k := (match rlen x with | none => false | some m => decide ((r.length + 1 : Nat) = m))) (ea_w (ea_cm (ea_w (ea_ixT (ea_var 0 rfl) (ea_w ea_int) (j := 0) rfl hx)) (ea_w (ea_glob (v := V.ref d) rfl mD rfl)) cin rfl)) (fun z => ea_one ?_))) ?_))
    · cases e : rlen x with
      | none => rw [e] at z; cases z
      | some m =>
        obtain ⟨t, ht⟩ := h1 x m e
        refine ea_is (ea_cm (ea_w (ea_lenTp (ea_var 0 rfl) mL)) (ea_w (ea_kd (v := V.int (m : Int)) (ea_w (ea_glob (v := V.ref d) rfl mD rfl)) (ea_w (ea_ixT (ea_var 0 rfl) (ea_w ea_int) (j := 0) rfl hx)) ⟨es, n, _, D.at_, D.lit, ht, t, rfl⟩)) cm_eqI rfl) ?_
        show bl _ = bl _
        rw [lr2]
        have e3 : decide (((r.length + 1 : Nat) : Int) = (m : Int)) = decide (r.length + 1 = m) := by
          rw [decide_eq_decide]
          omega
        rw [e3]
    · show bl _ = bl _
      have e1 : decide ((0 : Int) < (((x :: r).map str).length : Int)) = true := decide_eq_true (by rw [lr2]; omega)
      rw [e1, Bool.true_and]
      cases e : rlen x with
      | none => simp [wfB, e]
      | some m => simp [wfB, e]
end
end Kv

set_option Elab.async false
set_option linter.all false
set_option maxRecDepth 100000
set_option maxHeartbeats 4000000
namespace Kv
open PySem PySem.Calls L2 Lk
section
variable {P : Program} {w : World} {K : PySem.W.Frag} {mg : Str → Option Value} {base : Heap} {C CM : Addr}
/-! ### a mark -/
abbrev sMarkI : Stmt := (inClass (topS 36) 0)
theorem sc_markI : FnScope ["self"] ["self"] (defScope sMarkI) := ⟨rfl, rfl, rfl, by decide +kernel, rfl, by decide +kernel, by decide +kernel⟩
abbrev spMarkI (CM : Addr) : Sp := spMk CM (fun _ : Unit => True) (fun _ => []) (fun _ => markA CM false)
theorem allV_nil {F : Hp} {vs : List V} (h : AllV F vs []) : vs = [] := by
  cases vs with
  | nil => rfl
  | cons _ _ => exact h.elim
/-- what a constructor has laid, given back: p the object, o what stands there behind -/
theorem gr_make {F H1 H' : Hp} {p : Addr} {o : HO} (e : Ex F H1) (hp : H1 p = none) (h : Ex H1 H') (ho : H' p = some o) : Gr F H1 (upd F p o) H' := by
  have hF := e.none hp
  refine ⟨Ex.new hF, h, fun a u z => ?_, fun a u z1 z2 => ?_⟩
  · by_cases q : a = p
    · subst q
      rw [upd_same] at z
      rw [ho]
      exact z
    · rw [upd_ne q] at z
      exact h a u (e a u z)
  · have q : a ≠ p := ne_of_none z1 hp
    rw [upd_ne q]
    exact z2
theorem ex_make {H1 : Hp} {p dx : Addr} {o u : HO} (hp : H1 p = none) (hd : H1 dx = none) : Ex H1 (upd (upd H1 dx o) p u) := fun a z e => by
  rw [upd_ne (ne_of_none e hp), upd_ne (ne_of_none e hd)]
  exact e
theorem ok_markI {f : Addr} {fd : FuncData} (F : Fun K "__init__" "RuleMark.__init__" sMarkI f fd) (T : BTx K C CM) : FnOk P w K mg base CX0 1 f fd ["self"] (spMarkI CM) := by
  refine F.ok sc_markI (fun vs H Q E h => ?_) (fun cdv A outer s H vs Q E hr h => ?_)
  · obtain ⟨_, _, H1, F1, p, dx, as, rfl, _, _, _, _, _, hv, _⟩ := h
    rw [allV_nil hv]
    rfl
  · obtain ⟨_, _, H1, F1, p, dx, as, rfl, rfl, hp, hdx, hne, e, hv, q⟩ := h
    rw [allV_nil hv]
    refine ⟨_, pss_one (ps_fld (pv 0) pe_bl rfl), ?_⟩
    refine ⟨_, rfl, p, CM, dx, [], rfl, upd_same, T.cm, T.nH, (by show 0 < 1000; decide), ?_⟩
    have x : Ex H1 (upd (upd (upd H1 dx (.own p)) p (.ins CM dx [])) p (.ins CM dx (putF "held" (.bl false) []))) := fun a z e => by
      rw [upd_ne (ne_of_none e hp)]
      exact ex_make hp hdx a z e
    exact q _ _ (gr_make e hp x upd_same) ⟨p, dx, [.bl false], rfl, upd_same, rfl, trivial⟩
/-! ### an answer read -/
abbrev sRP : Stmt := (inClass (topS 37) 9)
abbrev nRP : List Str := ["self", "note", "answer", "answers"]
theorem sc_rp : FnScope nRP ["self", "note", "answer"] (defScope sRP) := ⟨rfl, rfl, rfl, by decide +kernel, rfl, by decide +kernel, by decide +kernel⟩
structure PairOk (B : Bk) (n a : Str) : Prop where
  nn : n ∈ B.given
  aa : Note a
  ok : okL okS (ansOf B n)
  few : a ∈ ansOf B n ∨ (ansOf B n).length < 4
abbrev spRP (C CM : Addr) : Sp := fun vs H Q _ => ∃ (R : Rg) (B : Bk) (n a : Str), vs = [.ref R.p, .str n, .str a] ∧ At C CM H R B ∧ PairOk B n a ∧
  ∀ H', At C CM H' R ⟨B.given, addA B.given B.ans n a, B.marks⟩ → (∀ c o, H c = some o → c ∉ R.ls → H' c = some o) → Q .non H'
theorem ok_rp {f : Addr} {fd : FuncData} (F : Fun K "_read_pair" "Book._read_pair" sRP f fd) (T : BTx K C CM) (mL : mg "len" = none) (mA : ∃ t, mg "MOST_ANSWERS" = some (.int 4 t)) (DT : Df P w K mg base 1 "is_note" ["name"] spNote) (DN : Mf P w K mg base 1 C "_require_note" ["self", "note"] (spReqN C CM)) : FnOk P w K mg base CX0 2 f fd ["self", "note", "answer"] (spRP C CM) := by
  refine F.ok sc_rp (fun vs H Q E h => ?_) (fun cdv A outer s H vs Q E hr h => ?_)
  · obtain ⟨R, B, n, a, rfl, _⟩ := h
    rfl
  · obtain ⟨R, B, n, a, rfl, A0, ok, q⟩ := h
    obtain ⟨t, mA⟩ := mA
    have hu := hu_of hr
    have nd := sc_rp.nd
    obtain ⟨i, la, l, i1, i2, i3, i4, i5⟩ := ans_at B.given B.ans R.ls n A0.la A0.ll ok.nn
    have hl : ansOf B n = l := by unfold ansOf; rw [i3]; rfl
    obtain ⟨okn, oka, okl, few⟩ := ok
    rw [hl] at okl few
    have ll : (l.map str).length = l.length := List.length_map ..
    let ρ0 : List En := [.fr (bookA C CM B), .fr (str n), .fr (str a), .no]
    let ρ1 : List En := [.fr (bookA C CM B), .fr (str n), .fr (str a), .fr (lstA (l.map str))]
    refine ⟨_, pss_cons (ps_expr (ea_methB (ρ := ρ0) (A := non) DN hr T.cl (B, n) ⟨A0.la, okn⟩ rfl (ea_var 0 rfl) (by rfl) (eas_cons (ea_var 1 rfl) eas_nil) rfl))
      (pss_cons (ps_if (et_not (et_v (k := noteB a) (ea_w (ea_callB (ρ := ρ0) DT hr a (note_len oka) rfl (eas_cons (ea_var 2 rfl) eas_nil))))) pss_never pss_nil)
      (pss_cons (ps_set (i := 3) nd rfl (Or.inl rfl) (pe_dget hu (pe_fld (pv 0) rfl) (pv 1) (fun _ _ => rfl)))
      (pss_cons (ps_if (et_cm (ea_w (ea_var (ρ := ρ1) 2 rfl)) (ea_w (ea_var 3 rfl)) (cm_in hr enc_str (note_ok oka) okl) rfl) (pss_one ps_retN) pss_nil)
      (pss_cons (ps_if (et_cm (ea_w (ea_is (ea_lenL (ea_l (ea_var (ρ := ρ1) 3 rfl)) mL) (by rw [ll]))) (ea_w (ea_glob (v := V.int 4) rfl mA ⟨t, rfl⟩)) cm_ge rfl) pss_never pss_nil)
      (pss_one (ps_expr (pe_app 3 (ea_var (ρ := ρ1) (A := str a) 2 rfl)))))))), ?_⟩
    refine ⟨H, H, FzS.all (.fr A0.book (.fr rfl (.fr rfl (.no .nil)))), fun _ H1 F1 g1 _ => ?_⟩
    have A1 := A0.mono g1.h
    refine ⟨H1, H1, FzS.all (.fr A1.book (.fr rfl (.fr rfl (.no .nil)))), fun H2 F2 g2 => ?_⟩
    have A2 := A1.mono g2.h
    rw [noteB_ok.mpr oka]
    refine iteF ?_
    refine ⟨_, rfl, _, C, _, _, _, rfl, A2.ob, T.cl, T.nA, rfl, _, rfl, R.an, .ref la, rfl, i4 ▸ DGet.k (k := Sum.inr n) A2.an, ?_⟩
    have hla2 := A2.ls i la l i1 i2
    refine ⟨H2, H2, FzS.all (.fr A2.book (.fr rfl (.fr rfl (.fr (lsts_of hla2) .nil)))), fun H3 F3 g3 => ?_⟩
    have A3 := A2.mono g3.h
    have k3 : Ex H H3 := (g1.h.trans g2.h).trans g3.h
    by_cases hin : a ∈ l
    · rw [decide_eq_true hin]
      refine iteT ?_
      refine q H3 ?_ fun c o hc _ => k3 c o hc
      rw [i5 a, if_pos hin]
      exact A3
    · rw [decide_eq_false hin]
      refine iteF ?_
      have hfew : l.length < 4 := few.resolve_left hin
      have hla3 := A3.ls i la l i1 i2
      refine ⟨H3, H3, FzS.all (.fr A3.book (.fr rfl (.fr rfl (.fr (lsts_of hla3) .nil)))), fun H4 F4 g4 => ?_⟩
      have A4 := A3.mono g4.h
      have hla4 := A4.ls i la l i1 i2
      rw [decide_eq_false (show ¬ (4 : Int) ≤ (l.length : Int) by omega)]
      refine iteF ?_
      refine ⟨_, rfl, .inl ⟨rfl, _, SqL.of hla4⟩, H4, H4, FzS.all (.fr A4.book (.fr rfl (.fr rfl (.fr (lsts_of hla4) .nil)))), fun v H5 F5 g5 hv => ?_⟩
      have hv : v = .str a := hv
      subst hv
      have A5 := A4.mono g5.h
      have hla5 := A5.ls i la l i1 i2
      refine ⟨la, l.map V.str, .str a, rfl, rfl, hla5, by rw [List.length_map, sizeLine_eq]; omega, ?_⟩
      have Z := A5.app (x := a) i1 i2
      rw [List.map_append] at Z
      refine q _ ?_ fun c o hc hn => ?_
      · rw [i5 a, if_neg hin]
        exact Z
      · have hne : c ≠ la := fun z => hn (z ▸ List.mem_of_getElem? i1)
        rw [upd_ne hne]
        exact g5.h c o (g4.h c o (k3 c o hc))
end
end Kv

set_option Elab.async false
set_option linter.all false
set_option maxRecDepth 100000
set_option maxHeartbeats 4000000
namespace Kv
open PySem PySem.Calls L2 Lk
theorem sat_no {H0 F H : Hp} {σ : L2.St} {n : Nat} (e : Ex F H) (h : σ.length = n) : Sat H0 F σ H (List.replicate n .no) := by
  have no : ∀ (i : Nat) (x : En), (List.replicate n En.no)[i]? = some x → x = .no := fun i x z => (List.mem_replicate.mp (List.mem_of_getElem? z)).2
  exact ⟨e, fun i A z => (by have q := no i _ z; cases q), fun i l z => (by have q := no i _ z; cases q), fun i j x y p z _ m => (by rw [no i _ z] at m; exact m.elim), by rw [List.length_replicate, h], fun i B z => (by have q := no i _ z; cases q)⟩
theorem putS_mem {m : List (List Str × Bool)} {ms : List Addr} {r : List Str} {a b : Addr} (h : b ∈ putS m ms r a) : b ∈ ms ∨ b = a := by
  unfold putS at h
  by_cases e : hasK m r = true
  · rw [if_pos e] at h
    exact .inl h
  · rw [if_neg e] at h
    rcases List.mem_append.mp h with z | z
    · exact .inl z
    · exact .inr (List.mem_singleton.mp z)
def emptyH : Hp := fun _ => none
section
variable {P : Program} {w : World} {K : PySem.W.Frag} {mg : Str → Option Value} {base : Heap} {C CM : Addr}
abbrev sRead : Stmt := (inClass (topS 37) 5)
abbrev nRead : List Str := ["self", "rule", "pair"]
theorem sc_read : FnScope nRead ["self", "rule"] (defScope sRead) := ⟨rfl, rfl, rfl, by decide +kernel, rfl, by decide +kernel, by decide +kernel⟩
structure RdOk (B : Bk) (r : List Str) : Prop where
  wf : wfB r = true
  pr : r.headD Str.empty = "pair" → PairOk B (r.getD 1 Str.empty) (r.getD 2 Str.empty)
  ot : ¬ r.headD Str.empty = "pair" → ∀ p ∈ named r, p.1 ∈ B.given ∧ conB B (pairR p) = true
abbrev spRead (C CM : Addr) : Sp := fun vs H Q _ => ∃ (R : Rg) (B : Bk) (r : List Str) (b : Addr), vs = [.ref R.p, .ref b] ∧ H b = some (.tup (r.map V.str)) ∧ At C CM H R B ∧ Okb B ∧ RdOk B r ∧ B.marks.length ≤ 100000 ∧
  ∀ H' ms, At C CM H' ⟨R.p, R.dx, R.g, R.an, R.kk, R.ls, ms⟩ (addB B r) → (∀ a ∈ ms, a ∈ R.ms ∨ H a = none) → (∀ c o, H c = some o → c ≠ R.kk → c ∉ R.ls → H' c = some o) → Q .non H'
/-- self._marks.setdefault(rule, RuleMark()) -/
theorem read_fin (T : BTx K C CM) {R : Rg} {B3 : Bk} {r : List Str} {b : Addr} {σ : L2.St} {H3 : Hp} {D : Ends} (h0 : σ[0]? = some (some (.ref R.p))) (h1 : σ[1]? = some (some (.ref b))) (hl : σ.length = 3) (A3 : At C CM H3 R B3) (hb : H3 b = some (.tup (r.map V.str))) (hz : B3.marks.length ≤ 100000)
    (q : ∀ H' ms, At C CM H' ⟨R.p, R.dx, R.g, R.an, R.kk, R.ls, ms⟩ ⟨B3.given, B3.ans, putM B3.marks r⟩ → (∀ a ∈ ms, a ∈ R.ms ∨ H3 a = none) → (∀ c o, H3 c = some o → c ≠ R.kk → H' c = some o) → D.nx σ H') :
    tDSetdT (tFld K (tVar 0) "_marks") (tVar 1) (tA [.no, .no, .no] (markA CM false)) σ H3 (fun _ H' => D.nx σ H') := by
  refine ⟨_, h0, _, C, _, _, _, rfl, A3.ob, T.cl, T.nM, rfl, R.kk, rfl, .inr ⟨_, .inl A3.kk⟩, _, h1, H3, emptyH, sat_no (n := 3) (fun _ _ z => nomatch z) hl, fun v H4 F4 g4 hv => ?_⟩
  obtain ⟨m, d, vs, rfl, hm, hvs⟩ := hv
  have A4 := A3.mono g4.h
  have hvs2 : vs = [.bl false] := AllV.scs (cs := [V.bl false]) hvs
  subst hvs2
  have fresh : H3 m = none := by
    cases e : H3 m with
    | none => rfl
    | some o =>
      have z := g4.n m o e rfl
      rw [hm] at z
      cases z
  have vm := val_mk B3 R.ms r A4.lm
  refine ⟨_, kT r, b, A4.kk, rfl, by rw [kT_kV]; exact g4.h b _ hb, ?_, fun v hv => ?_, fun hn => ?_⟩
  · unfold mkV
    rw [List.length_zip, List.length_map, List.length_map, sizeLine_eq]
    omega
  · have hk : hasK B3.marks r = true := by rw [← vm, hv]; rfl
    have e : putM B3.marks r = B3.marks := by unfold putM; rw [if_pos hk]
    refine q H4 R.ms ?_ (fun a ha => .inl ha) fun c o hc hn => g4.h c o hc
    rw [e]
    exact A4
  · have hk : hasK B3.marks r = false := by rw [← vm, hn]; rfl
    refine q _ _ (A4.put hk ⟨d, g4.i m _ hm⟩) (fun a ha => ?_) fun c o hc hn => ?_
    · rcases putS_mem ha with z | z
      · exact .inl z
      · exact .inr (z ▸ fresh)
    · rw [upd_ne hn]
      exact g4.h c o hc
theorem ok_read {f : Addr} {fd : FuncData} (F : Fun K "read" "Book.read" sRead f fd) (T : BTx K C CM) (DW : Df P w K mg base 1 "is_well_formed" ["rule"] spWf) (DNP : Df P w K mg base 1 "named_pairs" ["rule"] spNamed) (DRP : Mf P w K mg base 2 C "_read_pair" ["self", "note", "answer"] (spRP C CM))
    (DN : Mf P w K mg base 1 C "_require_note" ["self", "note"] (spReqN C CM)) (DP : Mf P w K mg base 3 C "_require_pair" ["self", "pair"] (spReqP C CM)) (DM : Mk1 P w K mg base 1 CM "RuleMark" ["self"] (spMarkI CM)) : FnOk P w K mg base CX0 4 f fd ["self", "rule"] (spRead C CM) := by
  refine F.ok sc_read (fun vs H Q E h => ?_) (fun cdv A outer s H vs Q E hr h => ?_)
  · obtain ⟨R, B, r, b, rfl, _⟩ := h
    rfl
  · obtain ⟨R, B, r, b, rfl, hb, A0, hk, ok, hz, q⟩ := h
    have hu := hu_of hr
    have nd := sc_read.nd
    have ho := wf_odd ok.wf
    have hlen : r.length ≤ 5 := by rcases ho with z | z <;> omega
    obtain ⟨fRP, fdRP, GRP, mRP, bRP⟩ := DRP.ex
    have at_ : ∀ {i : Nat}, i < r.length → (r.map str)[i]? = some (str (r.getD i Str.empty)) := fun {i} h => by
      rw [List.getElem?_map, List.getD_eq_getElem?_getD, List.getElem?_eq_getElem h]
      rfl
    have h0 : (r.map str)[0]? = some (str (r.headD Str.empty)) := by
      rw [at_ (by rcases ho with z | z <;> omega)]
      cases r <;> rfl
    let ρ0 : List En := [.fr (andA (bookA C CM B) (sc (.ref R.p))), .fr (andA (ruleA r) (sc (.ref b))), .no]
    have fz : ∀ H', Ex H H' → Sat H' H' [some (.ref R.p), some (.ref b), none] H' ρ0 := fun H' x => FzS.all (.fr ⟨(A0.mono x).book, rfl⟩ (.fr ⟨strs_of (x b _ hb), rfl⟩ (.no .nil)))
    refine ⟨_, pss_cons (ps_if (et_not (et_v (k := wfB r) (ea_w (ea_callB (ρ := ρ0) DW (hr.mono (show 1 ≤ 3 by decide)) r (show r.length ≤ 1000 by omega) rfl (eas_cons (ea_l1 (ea_var 1 rfl)) eas_nil))))) pss_never pss_nil)
      (pss_cons (ps_if (et_cm (ea_w (ea_ixT (ρ := ρ0) (ea_l1 (ea_var 1 rfl)) (ea_w ea_int) (j := 0) rfl h0)) (ea_w ea_str) cm_eqS rfl)
        (pss_one (ps_expr (pe_meth (pv 0) T.cl mRP GRP (hr.mono (show 2 ≤ 3 by decide)) bRP .nil pass0 (eas_cons (ρ := ρ0) (l := [str (r.getD 2 Str.empty)]) (ea_ixT (ea_l1 (ea_var 1 rfl)) (ea_w ea_int) (j := 1) rfl (at_ (by rcases ho with z | z <;> omega))) (eas_cons (ea_ixT (ea_l1 (ea_var 1 rfl)) (ea_w ea_int) (j := 2) rfl (at_ (by rcases ho with z | z <;> omega))) eas_nil)))))
        (?forB : PSs _ _ (fun D σ H => ¬ r.headD Str.empty = "pair" ∧ sA ρ0 (fun ρ' => ρ' = ρ0) { R := noA } D σ H)))
      (pss_one (ps_expr (pe_dsetdT hu (pe_fld (pv 0) rfl) (pv 1) (ea_make0B (ρ := [.no, .no, .no]) (A := markA CM false) DM (hr.mono (show 2 ≤ 3 by decide)) () trivial rfl rfl) ⟨rfl, rfl, rfl, rfl⟩)))), ?_⟩
    case forB =>
      refine ⟨fun pins s σ H D I ⟨hp, z⟩ => PSs.run ?_ pins s σ H D I z⟩
      refine ba_one (sa_for (l := (named r).map prA) 2 (fun _ ρ' => ρ' = ρ0) PassesOwn.never rfl nd (ea_callB DNP (hr.mono (show 1 ≤ 3 by decide)) r ho rfl (eas_cons (ea_l1 (ea_var 1 rfl)) eas_nil)) ⟨_, rfl, Le.refl _⟩ ?hs (fun ρ' z => z))
      case hs =>
        rintro n Ap ρ' hn rfl
        rw [List.getElem?_map] at hn
        cases e : (named r)[n]? with
        | none => rw [e] at hn; cases hn
        | some p =>
          rw [e] at hn
          have hn : prA p = Ap := by simpa using hn
          subst hn
          obtain ⟨o1, o2⟩ := ok.ot hp p (List.mem_of_getElem? e)
          refine ba_cons (sa_expr (ea_w (ea_methB (A := non) DN (hr.mono (show 1 ≤ 3 by decide)) T.cl (B, p.1) ⟨A0.la, o1⟩ rfl (ea_l1 (ea_var 0 rfl)) (by rfl) (eas_cons (ea_ixT (ea_var 2 rfl) (ea_w ea_int) (j := 0) rfl rfl) eas_nil) rfl)) ?_)
          refine ba_one (sa_expr (ea_w (ea_methB (A := non) DP hr T.cl (B, p) ⟨hk, o2⟩ rfl (ea_l1 (ea_var 0 rfl)) (by rfl) (eas_cons (ea_var 2 rfl) eas_nil) rfl)) ?_)
          exact ⟨ρ0, rfl, .same (.same (.no .nil))⟩
    refine ⟨H, H, fz H (Ex.refl H), fun H1 F1 g1 => ?_⟩
    rw [ok.wf]
    refine iteF ?_
    have A1 := A0.mono g1.h
    refine ⟨H1, H1, fz H1 g1.h, fun H2 F2 g2 => ?_⟩
    have x2 := g1.h.trans g2.h
    have A2 := A0.mono x2
    by_cases hp : r.headD Str.empty = "pair"
    · rw [decide_eq_true hp]
      refine iteT ?_
      refine ⟨_, rfl, R.p, R.dx, _, rfl, A2.ob, rfl, H2, H2, fz H2 x2, fun us H3 F3 g3 hus => ?_⟩
      have hus2 : us = [.str (r.getD 1 Str.empty), .str (r.getD 2 Str.empty)] := AllV.scs (cs := [V.str (r.getD 1 Str.empty), V.str (r.getD 2 Str.empty)]) hus
      subst hus2
      have x3 := x2.trans g3.h
      refine ⟨R, B, _, _, rfl, A0.mono x3, ok.pr hp, fun H4 A4 k4 => ?_⟩
      have hb3 := x3 b _ hb
      have hbl : b ∉ R.ls := fun z => by
        obtain ⟨i, hi, e⟩ := List.mem_iff_getElem.mp z
        have e2 : R.ls[i]? = some b := by rw [List.getElem?_eq_getElem hi, e]
        have hil : i < B.ans.length := by rw [A0.la, ← A0.ll]; exact hi
        have q2 := A0.ls i b _ e2 (List.getElem?_eq_getElem hil)
        rw [hb] at q2
        cases q2
      refine read_fin T rfl rfl rfl A4 (k4 b _ hb3 hbl) hz fun H' ms AA f1 k5 => q H' ms ?_ (fun a ha => ?_) fun c o hc h1 h2 => ?_
      · unfold addB
        rw [if_pos hp]
        exact AA
      · rcases f1 a ha with z | z
        · exact .inl z
        · refine .inr ?_
          cases e : H a with
          | none => rfl
          | some o =>
            by_cases ea : a ∈ R.ls
            · exfalso
              obtain ⟨i, hi, e⟩ := List.mem_iff_getElem.mp ea
              have e2 : R.ls[i]? = some a := by rw [List.getElem?_eq_getElem hi, e]
              have hil : i < (addA B.given B.ans (r.getD 1 Str.empty) (r.getD 2 Str.empty)).length := by rw [addA_len, A0.la, ← A0.ll]; exact hi
              have q2 := A4.ls i a _ e2 (List.getElem?_eq_getElem hil)
              rw [z] at q2
              cases q2
            · have z2 := k4 a o (x3 a o e) ea
              rw [z] at z2
              cases z2
      · exact k5 c o (k4 c o (x3 c o hc) h2) h1
    · rw [decide_eq_false hp]
      refine iteF ?_
      refine ⟨hp, H2, H2, H2, Gr.refl (Ex.refl H2), fz H2 x2, fun ρ' σ' H' F' hn g' S' => ?_, fun v H' F' _ z => z.elim, fun _ _ _ _ z => z.elim, fun _ _ _ _ z => z.elim, fun _ _ _ _ _ _ z => z.elim⟩
      subst hn
      obtain ⟨v0, e0, _, q0⟩ := S'.fr 0 _ rfl
      obtain ⟨v1, e1, _, q1⟩ := S'.fr 1 _ rfl
      have q0 : v0 = .ref R.p := q0
      have q1 : v1 = .ref b := q1
      subst q0 q1
      have x3 := x2.trans g'.h
      refine read_fin T e0 e1 (S'.len.symm.trans rfl) (A0.mono x3) (x3 b _ hb) hz fun H' ms AA f1 k5 => q H' ms ?_ (fun a ha => ?_) fun c o hc h1 h2 => ?_
      · unfold addB
        rw [if_neg hp]
        exact AA
      · rcases f1 a ha with z | z
        · exact .inl z
        · exact .inr (x3.none z)
      · exact k5 c o (x3 c o hc) h1
end
end Kv

set_option Elab.async false
set_option linter.all false
set_option maxRecDepth 100000
set_option maxHeartbeats 4000000
namespace Kv
open PySem PySem.Calls L2 Lk
def book0 (g : List Str) : Bk := ⟨g, g.map fun _ => [], []⟩
def bookOf (g : List Str) (rs : List (List Str)) : Bk := rs.foldl addB (book0 g)
def RdAll : Bk → List (List Str) → Prop
  | _, [] => True
  | B, r :: rs => Okb B ∧ RdOk B r ∧ RdAll (addB B r) rs
theorem RdAll.at_ : ∀ {rs : List (List Str)} {B : Bk} {i : Nat} {r : List Str}, RdAll B rs → rs[i]? = some r → Okb ((rs.take i).foldl addB B) ∧ RdOk ((rs.take i).foldl addB B) r
  | [], _, _, _, _, h => by simp at h
  | x :: rs, B, 0, r, ⟨h1, h2, _⟩, e => by
    have e : x = r := by simpa using e
    subst e
    exact ⟨h1, h2⟩
  | x :: rs, B, i + 1, r, ⟨_, _, h3⟩, e => by
    rw [List.take_succ_cons, List.foldl_cons]
    exact RdAll.at_ (rs := rs) (i := i) h3 (by simpa using e)
theorem putM_len (m : List (List Str × Bool)) (r : List Str) : (putM m r).length ≤ m.length + 1 := by
  unfold putM
  by_cases e : hasK m r = true
  · rw [if_pos e]
    omega
  · rw [if_neg e, List.length_append]
    exact Nat.le_refl _
theorem fold_len : ∀ (rs : List (List Str)) (B : Bk), (rs.foldl addB B).marks.length ≤ B.marks.length + rs.length
  | [], _ => Nat.le_refl _
  | r :: rs, B => by
    have q := fold_len rs (addB B r)
    have z : (addB B r).marks.length ≤ B.marks.length + 1 := putM_len _ _
    rw [List.foldl_cons, List.length_cons]
    omega
theorem At.to {C CM : Addr} {H H' : Hp} {R : Rg} {B : Bk} (A : At C CM H R B) (h1 : ∀ c o, H c = some o → c = R.p ∨ c = R.an ∨ c = R.kk ∨ c ∈ R.ls ∨ c ∈ R.ms → H' c = some o) (h2 : ∀ o, H R.g = some o → H' R.g = some o) : At C CM H' R B :=
  ⟨h1 _ _ A.ob (.inl rfl), h2 _ A.gv, h1 _ _ A.an (.inr (.inl rfl)), h1 _ _ A.kk (.inr (.inr (.inl rfl))), A.ll, A.la, A.lm, fun i a l e1 e2 => h1 _ _ (A.ls i a l e1 e2) (.inr (.inr (.inr (.inl (List.mem_of_getElem? e1))))),
    fun i a x e1 e2 => let ⟨d, h⟩ := A.ms i a x e1 e2; ⟨d, h1 _ _ h (.inr (.inr (.inr (.inr (List.mem_of_getElem? e1)))))⟩, A.nd⟩
theorem valV_out {n : Str} : ∀ {g : List Str} {vs : List V}, n ∉ g → valV ((g.map fun n => (Sum.inr n : Key)).zip vs) (Sum.inr n) = none
  | [], _, _ => by simp [valV]
  | x :: g, [], _ => by simp [valV]
  | x :: g, v :: vs, h => by
    rw [List.map_cons, List.zip_cons_cons, valV_neg fun z => h (by rw [show x = n from by simpa using z]; exact List.mem_cons_self)]
    exact valV_out fun z => h (List.mem_cons_of_mem _ z)
section
variable {P : Program} {w : World} {K : PySem.W.Frag} {mg : Str → Option Value} {base : Heap} {C CM : Addr}
abbrev sInit : Stmt := (inClass (topS 37) 0)
abbrev nInit : List Str := ["self", "given", "rules", "note", "rule"]
theorem sc_init : FnScope nInit ["self", "given", "rules"] (defScope sInit) := ⟨rfl, rfl, rfl, by decide +kernel, rfl, by decide +kernel, by decide +kernel⟩
abbrev spBookI (C CM : Addr) : Sp := spMk C (fun i : List Str × List (List Str) => Giv i.1 ∧ RdAll (book0 i.1) i.2 ∧ i.2.length ≤ 1000) (fun i => [strsA i.1, rulesA i.2]) (fun i => bookA C CM (bookOf i.1 i.2))
theorem ok_init {f : Addr} {fd : FuncData} {dvs : List V} {kws : List (Str × V)} (F : FunD K "__init__" "Book.__init__" (defArgs sInit) (defBody sInit) (defScope sInit) dvs kws f fd) (T : BTx K C CM) (DCh : Df P w K mg base 2 "checked_given" ["given"] spChk) (DR : Mf P w K mg base 4 C "read" ["self", "rule"] (spRead C CM)) : FnOk P w K mg base CX0 5 f fd ["self", "given", "rules"] (spBookI C CM) := by
  have len2 : ∀ {F : Hp} {as : List V} {A1 A2 : As}, AllV F as [A1, A2] → ∃ x y, as = [x, y] ∧ A1.p F x ∧ A2.p F y := fun {F as A1 A2} h => by
    match as, h with
    | [x, y], ⟨h1, h2, _⟩ => exact ⟨x, y, rfl, h1, h2⟩
  refine F.ok sc_init (fun vs H Q E h => ?_) (fun cdv A outer s H vs Q E hr h => ?_)
  · obtain ⟨_, _, H1, F1, p, dx, as, rfl, _, _, _, _, _, hv, _⟩ := h
    obtain ⟨x, y, rfl, _⟩ := len2 hv
    rfl
  · obtain ⟨⟨g, rs⟩, ⟨hg, hrd, hrl⟩, H1, F0, p, dx, as, rfl, rfl, hp, hdx, hne, e, hv, q⟩ := h
    have hg : Giv g := hg
    have hrd : RdAll (book0 g) rs := hrd
    have hrl : rs.length ≤ 1000 := hrl
    obtain ⟨gv, rv, rfl, hgv, hrv⟩ := len2 hv
    have hgv : (strsA g).p F0 gv := hgv
    obtain ⟨rl, rvs, rfl, hrl1, hrl2⟩ : (rulesA rs).p F0 rv := hrv
    have hu := hu_of hr
    have nd := sc_init.nd
    obtain ⟨fR, fdR, GR, mR, bR⟩ := DR.ex
    have x0 : Ex H1 (upd (upd H1 dx (.own p)) p (.ins C dx [])) := ex_make hp hdx
    have hp0 : upd (upd H1 dx (.own p)) p (.ins C dx []) p = some (.ins C dx []) := upd_same
    generalize upd (upd H1 dx (.own p)) p (.ins C dx []) = H at x0 hp0
    let ρ0 : List En := [.no, .fr (strsA g), .fr (rulesA rs), .no, .no]
    refine ⟨_, PSs.nox (pss_cons (ps_fld (pv 0) (ea_callB (ρ := ρ0) (B := tupA (g.map str)) DCh (hr.mono (show 2 ≤ 4 by decide)) g hg rfl (eas_cons (ea_var 1 rfl) eas_nil)) rfl)
      (pss_cons (ps_fld (pv 0) (pe_dc (own := [("note", 3)]) rfl nd (pi_tup (pe_fld (pv 0) rfl)) (blkOk_by (N := nInit) (sc := defScope sInit) (by decide +kernel)) (fun _ _ _ _ _ => pg_name (i := 3) nd rfl (Or.inl rfl)) (fun _ _ _ _ _ => pts_nil) (fun _ _ _ _ _ => pv 3) (fun _ _ _ _ _ => pe_lst pa_nil)) rfl)
      (pss_cons (ps_fld (pv 0) pe_dnewT rfl)
      (pss_one (ps_for PassesOwn.never rfl (pi_list (pv 2)) (pg_name (i := 4) nd rfl (Or.inl rfl)) (pss_one (ps_expr (pe_meth (pv 0) T.cl mR GR hr bR .nil pass0 (pa_cons (pv 4) pa_nil))))))))), ?_⟩
    -- self.given
    refine ⟨H, F0, FzS.sat (.no (.fr hgv (.fr ⟨rl, rvs, rfl, hrl1, hrl2⟩ (.no (.no .nil))))) (e.trans x0), fun v Ha Fa ga hv => ⟨_, rfl, p, C, dx, [], rfl, ga.h p _ hp0, T.cl, T.nG, (by show 0 < 1000; decide), ?_⟩⟩
    obtain ⟨gA, rfl, hgA⟩ := strs_at hv
    have newG : F0 gA = none → H1 gA = none := fun z => x0.none (by
      cases eq : H gA with
      | none => rfl
      | some o =>
        have z2 := ga.n gA o eq z
        rw [hgA] at z2
        cases z2)
    have hga := ga.i gA _ hgA
    have npg : gA ≠ p := ne_of hga (ga.h p _ hp0) (by intro z; cases z)
    have xb : Ex H1 (upd Ha p (.ins C dx (putF "given" (.ref gA) []))) := fun c o z => by
      rw [upd_ne (ne_of_none z hp)]
      exact ga.h c o (x0 c o z)
    have hgb : upd Ha p (.ins C dx (putF "given" (.ref gA) [])) gA = some (.tup (g.map V.str)) := by rw [upd_ne npg]; exact hga
    have hpb : upd Ha p (.ins C dx (putF "given" (.ref gA) [])) p = some (.ins C dx [("given", .ref gA)]) := upd_same
    generalize upd Ha p (.ins C dx (putF "given" (.ref gA) [])) = Hb at xb hgb hpb
    -- self._answers
    refine ⟨_, rfl, p, C, dx, _, _, rfl, hpb, T.cl, T.nG, rfl, gA, rfl, ⟨_, SqT.of hgb⟩, fun an han => ?_⟩
    have han1 := xb.none han
    refine dc_tup (K := K) (xs := g.map V.str) (fun i H' => ∃ ls : List Addr, ls.length = i ∧ ls.Nodup ∧ (∀ a ∈ ls, Hb a = none ∧ a ≠ an ∧ H' a = some (.lst [])) ∧ H' an = some (.dK (((g.take i).map fun n => (Sum.inr n : Key)).zip (ls.map V.ref))) ∧ Ex Hb H')
      ⟨[], rfl, List.nodup_nil, fun a h => by simp at h, upd_same, Ex.new han⟩ (fun i H' _ ⟨_, _, _, _, _, x⟩ => SqT.of (x gA _ hgb)) ?_ ?_
    · rintro i y H' hy ⟨ls, l1, l2, l3, l4, x⟩
      rw [List.getElem?_map] at hy
      cases hn : g[i]? with
      | none => rw [hn] at hy; cases hy
      | some n =>
        rw [hn] at hy
        have hy : V.str n = y := by simpa using hy
        subst hy
        have hi : i < g.length := (List.getElem?_eq_some_iff.mp hn).1
        have hnew : n ∉ g.take i := fun z => by
          obtain ⟨j, hj, ej⟩ := List.mem_iff_getElem.mp z
          rw [List.length_take] at hj
          rw [List.getElem_take] at ej
          have q := nd_ix hg.2.1 (i := j) (j := i) (by rw [List.getElem?_eq_getElem (by omega)]) (by rw [hn, ej])
          omega
        refine ⟨rfl, ?_⟩
        unfold tYes
        simp only [if_true]
        refine ⟨_, rfl, Nat.zero_le _, fun a ha => ⟨((g.take i).map fun n => (Sum.inr n : Key)).zip (ls.map V.ref), Sum.inr n, rfl, ?_, ?_, ls ++ [a], ?_, ?_, fun b hb => ?_, ?_, fun c o hc => ?_⟩⟩
        · rw [upd_ne (ne_of_none l4 ha)]
          exact l4
        · rw [List.length_zip, List.length_map, List.length_map, l1, sizeLine_eq]
          have := hg.1
          omega
        · rw [List.length_append, l1]
          rfl
        · refine List.nodup_append.mpr ⟨l2, List.nodup_cons.mpr ⟨by simp, List.nodup_nil⟩, fun b hb c hc z => ?_⟩
          rw [List.mem_singleton.mp hc] at z
          have z2 := (l3 b hb).2.2
          rw [z, ha] at z2
          cases z2
        · rcases List.mem_append.mp hb with hb | hb
          · obtain ⟨b1, b2, b3⟩ := l3 b hb
            refine ⟨b1, b2, ?_⟩
            rw [upd_ne b2, upd_ne (ne_of_none b3 ha)]
            exact b3
          · rw [List.mem_singleton.mp hb]
            have nan : a ≠ an := (ne_of_none l4 ha).symm
            refine ⟨x.none ha, nan, ?_⟩
            rw [upd_ne nan, upd_same]
        · have tk : g.take (i + 1) = g.take i ++ [n] := by
            rw [List.take_add_one, hn]
            rfl
          rw [upd_same, putK_new _ (valV_out hnew), tk, List.map_append, List.map_append, List.zip_append (by rw [List.length_map, List.length_map, l1, List.length_take]; omega)]
          rfl
        · rw [upd_ne (ne_of_none hc han), upd_ne (ne_of_none (x c o hc) ha)]
          exact x c o hc
    · rintro Hc ⟨ls, l1, l2, l3, l4, x⟩
      rw [List.length_map] at l1 l4
      rw [List.take_length] at l4
      refine ⟨_, rfl, p, C, dx, _, rfl, x p _ hpb, T.cl, T.nA, (by show 1 < 1000; decide), ?_⟩
      have hl1 : ∀ a ∈ ls, H1 a = none := fun a ha => xb.none (l3 a ha).1
      have hgc := x gA _ hgb
      have hpc := x p _ hpb
      have npa : an ≠ p := (ne_of_none hpb han).symm
      have npl : ∀ a ∈ ls, a ≠ p := fun a ha => (ne_of_none hpb (l3 a ha).1).symm
      have xd : Ex H1 (upd Hc p (.ins C dx (putF "_answers" (.ref an) [("given", .ref gA)]))) := fun c o z => by
        rw [upd_ne (ne_of_none z hp)]
        exact x c o (xb c o z)
      have hgd : upd Hc p (.ins C dx (putF "_answers" (.ref an) [("given", .ref gA)])) gA = some (.tup (g.map V.str)) := by rw [upd_ne npg]; exact hgc
      have had : upd Hc p (.ins C dx (putF "_answers" (.ref an) [("given", .ref gA)])) an = some (.dK ((g.map fun n => (Sum.inr n : Key)).zip (ls.map V.ref))) := by rw [upd_ne npa]; exact l4
      have hld : ∀ a ∈ ls, upd Hc p (.ins C dx (putF "_answers" (.ref an) [("given", .ref gA)])) a = some (.lst []) := fun a ha => by rw [upd_ne (npl a ha)]; exact (l3 a ha).2.2
      have hpd : upd Hc p (.ins C dx (putF "_answers" (.ref an) [("given", .ref gA)])) p = some (.ins C dx [("given", .ref gA), ("_answers", .ref an)]) := upd_same
      generalize upd Hc p (.ins C dx (putF "_answers" (.ref an) [("given", .ref gA)])) = Hd at xd hgd had hld hpd
      -- self._marks
      intro kk hkk
      have hkk1 := xd.none hkk
      refine ⟨_, rfl, p, C, dx, _, rfl, (by rw [upd_ne (ne_of_none hpd hkk)]; exact hpd), T.cl, T.nM, (by show 2 < 1000; decide), ?_⟩
      have nkp : kk ≠ p := (ne_of_none hpd hkk).symm
      have A0 : At C CM (upd (upd Hd kk (.dT [])) p (.ins C dx (putF "_marks" (.ref kk) [("given", .ref gA), ("_answers", .ref an)]))) ⟨p, dx, gA, an, kk, ls, []⟩ (book0 g) := by
        refine ⟨upd_same, by show upd _ _ _ gA = _; rw [upd_ne npg, upd_ne (ne_of_none hgd hkk)]; exact hgd, by show upd _ _ _ an = _; rw [upd_ne npa, upd_ne (ne_of_none had hkk)]; exact had, by show upd _ _ _ kk = _; rw [upd_ne nkp, upd_same]; rfl, l1, List.length_map .., rfl, fun i a l h1 h2 => ?_, fun i a y h1 h2 => by simp at h1, l2⟩
        have ha := List.mem_of_getElem? h1
        have h2 : (g.map fun _ => ([] : List Str))[i]? = some l := h2
        rw [List.getElem?_map] at h2
        cases hn : g[i]? with
        | none => rw [hn] at h2; cases h2
        | some n =>
          rw [hn] at h2
          have h2 : ([] : List Str) = l := by simpa using h2
          subst h2
          rw [upd_ne (npl a ha), upd_ne (ne_of_none (hld a ha) hkk)]
          exact hld a ha
      have xe : Ex H1 (upd (upd Hd kk (.dT [])) p (.ins C dx (putF "_marks" (.ref kk) [("given", .ref gA), ("_answers", .ref an)]))) := fun c o z => by
        rw [upd_ne (ne_of_none z hp), upd_ne (ne_of_none z hkk1)]
        exact xd c o z
      generalize upd (upd Hd kk (.dT [])) p (.ins C dx (putF "_marks" (.ref kk) [("given", .ref gA), ("_answers", .ref an)])) = He at A0 xe
      -- for rule in rules
      have rlen : rvs.length = rs.length := by rw [hrl2.length, List.length_map]
      refine ⟨_, rfl, rl, rfl, ⟨_, SqL.of (xe rl _ (e rl _ hrl1))⟩, for_list (K := K) (a := rl) (xs := rvs) (fun i σ' H' => ∃ (ms : List Addr) (lr : Option V), σ' = [some (.ref p), some gv, some (.ref rl), none, lr] ∧ At C CM H' ⟨p, dx, gA, an, kk, ls, ms⟩ ((rs.take i).foldl addB (book0 g)) ∧ (∀ a ∈ ms, H1 a = none) ∧ Ex H1 H')
        ⟨[], none, rfl, A0, fun a h => by simp at h, xe⟩ (fun i σ' H' _ ⟨_, _, _, _, _, x'⟩ => SqL.of (x' rl _ (e rl _ hrl1))) ?_ ?_⟩
      · rintro i y σ' H' hy ⟨ms, lr, rfl, A', nm, x'⟩
        have hi : i < rs.length := by
          have z := (List.getElem?_eq_some_iff.mp hy).1
          omega
        have hri : rs[i]? = some rs[i] := List.getElem?_eq_getElem hi
        obtain ⟨u, hu2, hA⟩ := hrl2.get (i := i) (A := ruleA rs[i]) (by rw [List.getElem?_map, hri]; rfl)
        rw [hy] at hu2
        have ey : y = u := by simpa using hu2
        subst ey
        obtain ⟨b, rfl, hb⟩ := strs_at hA
        obtain ⟨o1, o2⟩ := hrd.at_ hri
        have tk : rs.take (i + 1) = rs.take i ++ [rs[i]] := by
          rw [List.take_add_one, hri]
          rfl
        generalize rs[i] = r at o1 o2 tk hb
        refine ⟨_, rfl, p, dx, _, rfl, A'.ob, rfl, _, rfl, ⟨p, dx, gA, an, kk, ls, ms⟩, _, r, b, rfl, x' b _ (e b _ hb), A', o1, o2, ?_, fun H'' ms' A'' fr k => ⟨ms', _, rfl, ?_, fun a ha => ?_, fun c o hc => ?_⟩⟩
        · have z := fold_len (rs.take i) (book0 g)
          have z2 : (book0 g).marks.length = 0 := rfl
          rw [List.length_take] at z
          omega
        · rw [tk, List.foldl_append]
          exact A''
        · rcases fr a ha with z | z
          · exact nm a z
          · exact x'.none z
        · exact k c o (x' c o hc) (ne_of_none hc hkk1) fun z => by
            have z2 := hl1 c z
            rw [hc] at z2
            cases z2
      · rintro σ' H' ⟨ms, lr, rfl, A', nm, x'⟩
        rw [rlen, List.take_length] at A'
        let F' : Hp := fun a => match H1 a with
          | none => H' a
          | some _ => F0 a
        have fN : ∀ a, H1 a = none → F' a = H' a := fun a z => by show (match H1 a with | none => H' a | some _ => F0 a) = _; rw [z]
        have fO : ∀ a o, H1 a = some o → F' a = F0 a := fun a o z => by show (match H1 a with | none => H' a | some _ => F0 a) = _; rw [z]
        have G : Gr F0 H1 F' H' := by
          refine ⟨fun a o z => ?_, x', fun a o z => ?_, fun a o z1 z2 => ?_⟩
          · rw [fO a o (e a o z)]
            exact z
          · cases q1 : H1 a with
            | none => rw [fN a q1] at z; exact z
            | some o1 =>
              rw [fO a o1 q1] at z
              exact x' a o (e a o z)
          · rw [fO a o z1]
            exact z2
        refine q H' F' G ?_
        have AF : At C CM F' ⟨p, dx, gA, an, kk, ls, ms⟩ (rs.foldl addB (book0 g)) := by
          refine A'.to (fun c o hc h => ?_) fun o ho => ?_
          · have z : H1 c = none := by
              rcases h with z | z | z | z | z
              · rw [z]; exact hp
              · rw [z]; exact han1
              · rw [z]; exact hkk1
              · exact hl1 c z
              · exact nm c z
            rw [fN c z]
            exact hc
          · have ho : H' gA = some o := ho
            show F' gA = some o
            cases q1 : H1 gA with
            | none => rw [fN gA q1]; exact ho
            | some o1 =>
              rw [fO gA o1 q1]
              cases q2 : F0 gA with
              | none =>
                have z := newG q2
                rw [q1] at z
                cases z
              | some o2 =>
                have z := x' gA _ (e gA _ q2)
                rw [ho] at z
                exact z.symm
        exact AF.book
end
end Kv

set_option Elab.async false
set_option linter.all false
set_option maxRecDepth 100000
set_option maxHeartbeats 4000000
namespace Kv
open PySem PySem.Calls L2 Lk
/-! ### what a book made of rules holds -/
theorem look_map (r s : List Str) : ∀ m : List (List Str × Bool), (m.map fun x => if x.1 = s then (x.1, false) else x).lookup r = if r = s then (m.lookup r).map (fun _ => false) else m.lookup r
  | [] => by simp
  | x :: m => by
    have ih := look_map r s m
    rw [List.map_cons]
    by_cases e : x.1 = s
    · rw [if_pos e]
      unfold List.lookup
      by_cases h : r = x.1
      · have hb : (r == x.1) = true := by simpa using h
        simp only [hb]
        rw [if_pos (h.trans e)]
        rfl
      · have hb : (r == x.1) = false := by simpa using h
        simp only [hb]
        exact ih
    · rw [if_neg e]
      unfold List.lookup
      by_cases h : r = x.1
      · have hb : (r == x.1) = true := by simpa using h
        simp only [hb]
        rw [if_neg fun z => e (h.symm.trans z)]
      · have hb : (r == x.1) = false := by simpa using h
        simp only [hb]
        exact ih
theorem look_snoc (r s : List Str) : ∀ m : List (List Str × Bool), hasK m s = false → (m ++ [(s, false)]).lookup r = if r = s then some false else m.lookup r
  | [], _ => by
    by_cases h : r = s
    · subst h
      simp [List.lookup]
    · have hb : (r == s) = false := by simpa using h
      simp [List.lookup, hb, h]
  | x :: m, hk => by
    unfold hasK at hk
    rw [List.any_cons, Bool.or_eq_false_iff] at hk
    have ih := look_snoc r s m hk.2
    have e : ¬ x.1 = s := of_decide_eq_false hk.1
    rw [List.cons_append]
    unfold List.lookup
    by_cases h : r = x.1
    · have hb : (r == x.1) = true := by simpa using h
      simp only [hb]
      rw [if_neg fun z => e (h.symm.trans z)]
    · have hb : (r == x.1) = false := by simpa using h
      simp only [hb]
      exact ih
theorem look_has (s : List Str) : ∀ m : List (List Str × Bool), hasK m s = true → ∃ b, m.lookup s = some b
  | [], h => by simp [hasK] at h
  | x :: m, h => by
    unfold List.lookup
    by_cases e : s = x.1
    · have hb : (s == x.1) = true := by simpa using e
      simp only [hb]
      exact ⟨_, rfl⟩
    · have hb : (s == x.1) = false := by simpa using e
      simp only [hb]
      refine look_has s m ?_
      unfold hasK at h ⊢
      rw [List.any_cons] at h
      have z : decide (x.1 = s) = false := decide_eq_false fun z => e z.symm
      rw [z, Bool.false_or] at h
      exact h
theorem look_mem (s : List Str) : ∀ (m : List (List Str × Bool)) (b : Bool), m.lookup s = some b → (s, b) ∈ m
  | [], b, h => by simp at h
  | x :: m, b, h => by
    unfold List.lookup at h
    by_cases e : s = x.1
    · have hb : (s == x.1) = true := by simpa using e
      simp only [hb] at h
      have h : x.2 = b := by simpa using h
      rw [e, ← h]
      exact List.mem_cons_self
    · have hb : (s == x.1) = false := by simpa using e
      simp only [hb] at h
      exact List.mem_cons_of_mem _ (look_mem s m b h)
/-- no mark is held -/
def allF (B : Bk) : Prop := ∀ x ∈ B.marks, x.2 = false
theorem allF_add {B : Bk} (h : allF B) (s : List Str) : allF (addB B s) := fun x hx => by
  have hx : x ∈ putM B.marks s := hx
  unfold putM at hx
  by_cases e : hasK B.marks s = true
  · rw [if_pos e] at hx
    exact h x hx
  · rw [if_neg e] at hx
    rcases List.mem_append.mp hx with z | z
    · exact h x z
    · rw [List.mem_singleton.mp z]
theorem held_add (B : Bk) (hB : allF B) (s r : List Str) : heldB (addB B s) r = if r = s then some false else heldB B r := by
  show (putM B.marks s).lookup r = _
  unfold putM heldB
  by_cases e : hasK B.marks s = true
  · rw [if_pos e]
    by_cases h : r = s
    · rw [if_pos h]
      obtain ⟨b, hb⟩ := look_has s _ e
      have q := hB _ (look_mem s _ _ hb)
      have q : b = false := q
      rw [h, hb, q]
    · rw [if_neg h]
  · rw [if_neg e]
    exact look_snoc r s _ (by simpa using e)
theorem held_fold (r : List Str) : ∀ (rs : List (List Str)) (B : Bk), allF B → heldB (rs.foldl addB B) r = if r ∈ rs then some false else heldB B r
  | [], B, _ => by simp
  | s :: rs, B, hB => by
    rw [List.foldl_cons, held_fold r rs _ (allF_add hB s), held_add B hB]
    by_cases h : r ∈ rs
    · rw [if_pos h, if_pos (List.mem_cons_of_mem _ h)]
    · rw [if_neg h]
      by_cases e : r = s
      · rw [if_pos e, if_pos (by rw [e]; exact List.mem_cons_self)]
      · rw [if_neg e, if_neg (by simp [e, h])]
theorem held_of (g : List Str) (rs : List (List Str)) (r : List Str) : heldB (bookOf g rs) r = if r ∈ rs then some false else none := by
  unfold bookOf
  rw [held_fold _ _ _ (fun _ h => absurd h List.not_mem_nil)]
  rfl
theorem con_of (g : List Str) (rs : List (List Str)) (r : List Str) : conB (bookOf g rs) r = decide (r ∈ rs) := by
  unfold conB
  rw [held_of]
  by_cases h : r ∈ rs
  · rw [if_pos h, decide_eq_true h]
    have z : ((named r).map fun p => (heldB (bookOf g rs) (pairR p)).getD false).any id = false := by
      rw [List.any_eq_false]
      intro b hb
      obtain ⟨p, _, e⟩ := List.mem_map.mp hb
      rw [held_of] at e
      by_cases hp : pairR p ∈ rs
      · rw [if_pos hp] at e
        rw [← e]
        decide
      · rw [if_neg hp] at e
        rw [← e]
        decide
    show (!_) = true
    rw [z]
    rfl
  · rw [if_neg h, decide_eq_false h]
/-! ### its answers -/
def ins (l : List Str) (x : Str) : List Str := if x ∈ l then l else l ++ [x]
theorem look_addA (n n' x : Str) : ∀ (g : List Str) (an : List (List Str)), an.length = g.length → (g.zip (addA g an n' x)).lookup n = ((g.zip an).lookup n).map fun l => if n' = n then ins l x else l
  | [], an, _ => by simp
  | y :: g, [], h => by simp at h
  | y :: g, l :: an, h => by
    have ih := look_addA n n' x g an (by simpa using h)
    unfold addA
    by_cases hy : y = n'
    · rw [if_pos hy, List.zip_cons_cons, List.zip_cons_cons]
      unfold List.lookup
      by_cases e : n = y
      · have hb : (n == y) = true := by simpa using e
        simp only [hb]
        rw [Option.map_some, if_pos (hy.symm.trans e.symm)]
        rfl
      · have hb : (n == y) = false := by simpa using e
        simp only [hb]
        have hn : ¬ n' = n := fun z => e (z.symm.trans hy.symm)
        cases (g.zip an).lookup n with
        | none => rfl
        | some l => rw [Option.map_some, if_neg hn]
    · rw [if_neg hy, List.zip_cons_cons, List.zip_cons_cons]
      unfold List.lookup
      by_cases e : n = y
      · have hb : (n == y) = true := by simpa using e
        simp only [hb]
        rw [Option.map_some, if_neg fun z => hy (e.symm.trans z.symm)]
      · have hb : (n == y) = false := by simpa using e
        simp only [hb]
        exact ih
theorem look_in (n : Str) : ∀ (g : List Str) (an : List (List Str)), an.length = g.length → n ∈ g → ∃ l, (g.zip an).lookup n = some l
  | [], _, _, h => by simp at h
  | _ :: _, [], h, _ => by simp at h
  | y :: g, l :: an, h, hn => by
    rw [List.zip_cons_cons]
    unfold List.lookup
    by_cases e : n = y
    · have hb : (n == y) = true := by simpa using e
      simp only [hb]
      exact ⟨_, rfl⟩
    · have hb : (n == y) = false := by simpa using e
      simp only [hb]
      exact look_in n g an (by simpa using h) (by simpa [e] using hn)
def isP (r : List Str) (n : Str) : Prop := r.headD Str.empty = "pair" ∧ r.getD 1 Str.empty = n
instance (r : List Str) (n : Str) : Decidable (isP r n) := inferInstanceAs (Decidable (_ ∧ _))
theorem ansOf_add (B : Bk) (r : List Str) (n : Str) (hl : B.ans.length = B.given.length) (hn : n ∈ B.given) : ansOf (addB B r) n = if isP r n then ins (ansOf B n) (r.getD 2 Str.empty) else ansOf B n := by
  obtain ⟨l, hl2⟩ := look_in n _ _ hl hn
  unfold ansOf addB
  by_cases h : r.headD Str.empty = "pair"
  · simp only [if_pos h]
    rw [look_addA _ _ _ _ _ hl, hl2, Option.map_some, Option.getD_some]
    by_cases h2 : r.getD 1 Str.empty = n
    · rw [if_pos h2, if_pos ⟨h, h2⟩]
      rfl
    · rw [if_neg h2, if_neg fun z => h2 z.2]
      rfl
  · simp only [if_neg h]
    rw [if_neg fun z => h z.1]
theorem add_len (B : Bk) (r : List Str) (hl : B.ans.length = B.given.length) : (addB B r).ans.length = (addB B r).given.length := by
  unfold addB
  by_cases h : r.headD Str.empty = "pair"
  · simp only [if_pos h]
    rw [addA_len]
    exact hl
  · simp only [if_neg h]
    exact hl
theorem fold_given : ∀ (rs : List (List Str)) (B : Bk), (rs.foldl addB B).given = B.given
  | [], _ => rfl
  | r :: rs, B => by rw [List.foldl_cons, fold_given rs]; rfl
theorem fold_alen : ∀ (rs : List (List Str)) (B : Bk), B.ans.length = B.given.length → (rs.foldl addB B).ans.length = (rs.foldl addB B).given.length
  | [], _, h => h
  | r :: rs, B, h => by
    rw [List.foldl_cons]
    exact fold_alen rs _ (add_len B r h)
def insAll (n : Str) : List (List Str) → List Str → List Str
  | [], l => l
  | r :: rs, l => insAll n rs (if isP r n then ins l (r.getD 2 Str.empty) else l)
theorem ansOf_fold (n : Str) : ∀ (rs : List (List Str)) (B : Bk), B.ans.length = B.given.length → n ∈ B.given → ansOf (rs.foldl addB B) n = insAll n rs (ansOf B n)
  | [], _, _, _ => rfl
  | r :: rs, B, hl, hn => by
    rw [List.foldl_cons, ansOf_fold n rs _ (add_len B r hl) hn, ansOf_add B r n hl hn]
    rfl
theorem book0_len (g : List Str) : (book0 g).ans.length = (book0 g).given.length := List.length_map ..
theorem ansOf0 (g : List Str) (n : Str) : ansOf (book0 g) n = [] := by
  unfold ansOf book0
  simp only
  induction g with
  | nil => rfl
  | cons y g ih =>
    rw [List.map_cons, List.zip_cons_cons]
    unfold List.lookup
    by_cases e : n = y
    · have hb : (n == y) = true := by simpa using e
      simp only [hb]
      rfl
    · have hb : (n == y) = false := by simpa using e
      simp only [hb]
      exact ih
theorem ansOf_book (g : List Str) (rs : List (List Str)) (n : Str) (hn : n ∈ g) : ansOf (bookOf g rs) n = insAll n rs [] := by
  unfold bookOf
  rw [ansOf_fold n rs _ (book0_len g) hn, ansOf0]
theorem insAll_app (n : Str) : ∀ (xs ys : List (List Str)) (l : List Str), insAll n (xs ++ ys) l = insAll n ys (insAll n xs l)
  | [], _, _ => rfl
  | x :: xs, ys, l => insAll_app n xs ys _
theorem insAll_no (n : Str) : ∀ (rs : List (List Str)) (l : List Str), (∀ r ∈ rs, ¬ r.headD Str.empty = "pair") → insAll n rs l = l
  | [], _, _ => rfl
  | r :: rs, l, h => by
    unfold insAll
    rw [if_neg fun z => h r List.mem_cons_self z.1]
    exact insAll_no n rs l fun s hs => h s (List.mem_cons_of_mem _ hs)
theorem insAll_pairs (n : Str) : ∀ (ps : List Pr) (l : List Str), ps.Nodup → (∀ a, (n, a) ∈ ps → a ∉ l) → insAll n (ps.map pairR) l = l ++ (ps.filter fun p => decide (p.1 = n)).map (·.2)
  | [], l, _, _ => by simp [insAll]
  | p :: ps, l, hd, hl => by
    obtain ⟨d1, d2⟩ := List.nodup_cons.mp hd
    rw [List.map_cons]
    unfold insAll
    by_cases e : p.1 = n
    · have hp : isP (pairR p) n := ⟨rfl, e⟩
      have hq : (n, p.2) = p := by rw [← e]
      rw [if_pos hp]
      have hnew : p.2 ∉ l := hl p.2 (by rw [hq]; exact List.mem_cons_self)
      have hi : ins l ((pairR p).getD 2 Str.empty) = l ++ [p.2] := by
        show ins l p.2 = _
        unfold ins
        rw [if_neg hnew]
      rw [hi, insAll_pairs n ps _ d2 (fun a ha z => ?_), List.filter_cons, if_pos (decide_eq_true e), List.map_cons, List.append_assoc]
      · rfl
      · rcases List.mem_append.mp z with z | z
        · exact hl a (List.mem_cons_of_mem _ ha) z
        · rw [List.mem_singleton.mp z, hq] at ha
          exact d1 ha
    · rw [if_neg fun z => e z.2, insAll_pairs n ps l d2 fun a ha => hl a (List.mem_cons_of_mem _ ha), List.filter_cons, if_neg (by simpa using e)]
theorem RdAll.of : ∀ {rs : List (List Str)} {B : Bk}, (∀ i r, rs[i]? = some r → Okb ((rs.take i).foldl addB B) ∧ RdOk ((rs.take i).foldl addB B) r) → RdAll B rs
  | [], _, _ => trivial
  | r :: rs, B, h => by
    obtain ⟨h1, h2⟩ := h 0 r rfl
    refine ⟨h1, h2, RdAll.of fun i s hs => ?_⟩
    have q := h (i + 1) s (by simpa using hs)
    rw [List.take_succ_cons, List.foldl_cons] at q
    exact q
end Kv

set_option Elab.async false
set_option linter.all false
set_option maxRecDepth 100000
set_option maxHeartbeats 4000000
namespace Kv
open PySem PySem.Calls L2 Lk
/-! ### pairs by given notes -/
theorem pf_cons (x : Str) (ns : List Str) (a : List Str) (as : List (List Str)) : pairsOf (x :: ns) (a :: as) = (a.map fun y => (x, y)) ++ pairsOf ns as := by
  unfold pairsOf
  rw [List.zip_cons_cons, List.flatMap_cons]
theorem pf_fst {ns : List Str} {as : List (List Str)} {p : Pr} (h : p ∈ pairsOf ns as) : p.1 ∈ ns := (pairsOf_mem h).1
theorem pf_filter (n : Str) : ∀ (ns : List Str) (as : List (List Str)) (l : List Str), ns.Nodup → (ns.zip as).lookup n = some l → ((pairsOf ns as).filter fun p => decide (p.1 = n)).map (·.2) = l
  | [], as, l, _, h => by simp at h
  | _ :: _, [], l, _, h => by simp at h
  | x :: ns, a :: as, l, hd, h => by
    obtain ⟨d1, d2⟩ := List.nodup_cons.mp hd
    rw [List.zip_cons_cons] at h
    unfold List.lookup at h
    rw [pf_cons, List.filter_append, List.map_append]
    by_cases e : n = x
    · have hb : (n == x) = true := by simpa using e
      simp only [hb] at h
      have h : a = l := by simpa using h
      subst h
      have e1 : (a.map fun y => (x, y)).filter (fun p => decide (p.1 = n)) = a.map fun y => (x, y) := List.filter_eq_self.mpr fun p hp => by
        obtain ⟨y, _, rfl⟩ := List.mem_map.mp hp
        exact decide_eq_true e.symm
      have e2 : (pairsOf ns as).filter (fun p => decide (p.1 = n)) = [] := List.filter_eq_nil_iff.mpr fun p hp z => d1 (by
        have z : p.1 = n := of_decide_eq_true z
        rw [← e, ← z]
        exact pf_fst hp)
      rw [e1, e2, List.map_nil, List.append_nil, List.map_map]
      exact List.map_id' a
    · have hb : (n == x) = false := by simpa using e
      simp only [hb] at h
      have e1 : (a.map fun y => (x, y)).filter (fun p => decide (p.1 = n)) = [] := List.filter_eq_nil_iff.mpr fun p hp z => by
        obtain ⟨y, _, rfl⟩ := List.mem_map.mp hp
        exact e (of_decide_eq_true z).symm
      rw [e1, List.map_nil, List.nil_append]
      exact pf_filter n ns as l d2 h
theorem pf_nodup : ∀ (ns : List Str) (as : List (List Str)), ns.Nodup → (∀ a ∈ as, a.Nodup) → (pairsOf ns as).Nodup
  | [], as, _, _ => by simp [pairsOf]
  | _ :: _, [], _, _ => by simp [pairsOf]
  | x :: ns, a :: as, hd, h => by
    obtain ⟨d1, d2⟩ := List.nodup_cons.mp hd
    rw [pf_cons]
    refine List.nodup_append.mpr ⟨?_, pf_nodup ns as d2 fun b hb => h b (List.mem_cons_of_mem _ hb), fun p hp q hq z => ?_⟩
    · have ha := h a List.mem_cons_self
      rw [List.Nodup, List.pairwise_map]
      exact List.Pairwise.imp (fun z e => z (by simpa using e)) ha
    · obtain ⟨y, _, rfl⟩ := List.mem_map.mp hp
      rw [← z] at hq
      exact d1 (pf_fst hq)
theorem pf_flat : ∀ (ns : List Str) (as : List (List Str)), ns.Nodup → as.length = ns.length → (ns.flatMap fun n => (((ns.zip as).lookup n).getD []).map fun a => (n, a)) = pairsOf ns as
  | [], as, _, _ => by simp [pairsOf]
  | _ :: _, [], _, h => by simp at h
  | x :: ns, a :: as, hd, h => by
    obtain ⟨d1, d2⟩ := List.nodup_cons.mp hd
    rw [pf_cons, List.flatMap_cons, ← pf_flat ns as d2 (by simpa using h)]
    congr 1
    · rw [List.zip_cons_cons]
      simp [List.lookup]
    · rw [List.zip_cons_cons]
      rw [List.flatMap_def, List.flatMap_def]
      congr 1
      refine List.map_congr_left fun n hn => ?_
      have hb : (n == x) = false := by simpa using fun z : n = x => d1 (z ▸ hn)
      rw [List.lookup, hb]
theorem sub_filter {α : Type} [DecidableEq α] {l s : List α} (h : s.Sublist l) (nd : l.Nodup) : (l.filter fun x => decide (x ∈ s)) = s := by
  induction h with
  | slnil => rfl
  | @cons l1 l2 a h ih =>
    obtain ⟨d1, d2⟩ := List.nodup_cons.mp nd
    rw [List.filter_cons, if_neg (by simpa using fun z => d1 (h.subset z))]
    exact ih d2
  | @cons_cons l1 l2 a h ih =>
    obtain ⟨d1, d2⟩ := List.nodup_cons.mp nd
    rw [List.filter_cons, if_pos (by simp)]
    congr 1
    refine Eq.trans (List.filter_congr fun x hx => ?_) (ih d2)
    have hne : x ≠ a := fun z => d1 (z ▸ hx)
    simp [hne]
theorem Good.pnd {m : Md} (g : Good m) : m.pairs.Nodup := by
  obtain ⟨as, h1, h2, h3⟩ := g.pr
  rw [h2]
  exact pf_nodup _ _ g.nn fun a ha => (h3 a ha).2.1
theorem prod_nodup {l : List Pr} (h : l.Nodup) : (prod l).Nodup := by
  unfold prod
  have key : ∀ k : List Pr, k.Nodup → (k.flatMap fun a => l.map fun b => (a, b)).Nodup := by
    intro k
    induction k with
    | nil => intro _; simp
    | cons a k ih =>
      intro hk
      obtain ⟨d1, d2⟩ := List.nodup_cons.mp hk
      rw [List.flatMap_cons]
      refine List.nodup_append.mpr ⟨?_, ih d2, fun p hp q hq z => ?_⟩
      · rw [List.Nodup, List.pairwise_map]
        exact List.Pairwise.imp (fun z e => z (by simpa using e)) h
      · obtain ⟨y, _, rfl⟩ := List.mem_map.mp hp
        rw [← z] at hq
        obtain ⟨c, hc, hd⟩ := List.mem_flatMap.mp hq
        obtain ⟨d, _, e⟩ := List.mem_map.mp hd
        have e1 : c = a := by simpa using congrArg Prod.fst e
        exact d1 (e1 ▸ hc)
  exact key l h
/-- the answers to a note, and how many there are ahead of one -/
theorem Good.few {m : Md} (g : Good m) (n : Str) : (m.pairs.filter fun p => decide (p.1 = n)).length ≤ 4 := by
  obtain ⟨as, h1, h2, h3⟩ := g.pr
  cases hl : (m.names.zip as).lookup n with
  | some l =>
    have q := pf_filter n m.names as l g.nn hl
    have hm : l ∈ as := by
      have key : ∀ (ns : List Str) (as : List (List Str)), (ns.zip as).lookup n = some l → l ∈ as := by
        intro ns
        induction ns with
        | nil => intro as h; simp at h
        | cons x ns ih =>
          intro as h
          cases as with
          | nil => simp at h
          | cons a as =>
            rw [List.zip_cons_cons] at h
            unfold List.lookup at h
            by_cases e : n = x
            · have hb : (n == x) = true := by simpa using e
              simp only [hb] at h
              have h : a = l := by simpa using h
              rw [h]
              exact List.mem_cons_self
            · have hb : (n == x) = false := by simpa using e
              simp only [hb] at h
              exact List.mem_cons_of_mem _ (ih as h)
      exact key _ _ hl
    have z := congrArg List.length q
    rw [List.length_map] at z
    rw [h2, z]
    exact (h3 l hm).1
  | none =>
    have e : (m.pairs.filter fun p => decide (p.1 = n)) = [] := List.filter_eq_nil_iff.mpr fun p hp z => by
      have z : p.1 = n := of_decide_eq_true z
      rw [h2] at hp
      have q := pf_fst hp
      rw [z] at q
      obtain ⟨l, hl2⟩ := look_in n m.names as h1 q
      rw [hl] at hl2
      cases hl2
    rw [e]
    exact Nat.zero_le _
/-! ### the rules of a model -/
def rOpens (m : Md) : List (List Str) := (m.pairs.filter fun p => decide (p ∈ m.opens)).map fun p => [("open" : Str), p.1, p.2]
def rCloses (m : Md) : List (List Str) := (m.pairs.filter fun p => decide (p ∈ m.closes)).map fun p => [("close" : Str), p.1, p.2]
def stepR (s : Pr × Pr) : List Str := [("step" : Str), s.1.1, s.1.2, s.2.1, s.2.2]
def rRest (m : Md) : List (List Str) := rOpens m ++ rCloses m ++ m.steps.map stepR
theorem rules_eq (m : Md) : rulesOf m = m.pairs.map pairR ++ rRest m := by
  unfold rulesOf rRest rOpens rCloses
  simp only [List.append_assoc]
  rfl
theorem w1 : ¬ ("open" : Str) = "pair" := by decide +kernel
theorem w2 : ¬ ("close" : Str) = "pair" := by decide +kernel
theorem w3 : ¬ ("step" : Str) = "pair" := by decide +kernel
theorem w4 : ¬ ("close" : Str) = "open" := by decide +kernel
theorem w5 : ¬ ("step" : Str) = "open" := by decide +kernel
theorem w6 : ¬ ("step" : Str) = "close" := by decide +kernel
theorem rlen_pair : rlen "pair" = some 3 := by decide +kernel
theorem rlen_open : rlen "open" = some 3 := by decide +kernel
theorem rlen_close : rlen "close" = some 3 := by decide +kernel
theorem rlen_step : rlen "step" = some 5 := by decide +kernel
theorem wf3 {w a b : Str} (h : rlen w = some 3) : wfB [w, a, b] = true := by
  simp only [wfB, h]
  exact decide_eq_true rfl
theorem wf5 {w a b c d : Str} (h : rlen w = some 5) : wfB [w, a, b, c, d] = true := by
  simp only [wfB, h]
  exact decide_eq_true rfl
theorem rest_ok {m : Md} (g : Good m) {r : List Str} (h : r ∈ rRest m) : ¬ r.headD Str.empty = "pair" ∧ wfB r = true ∧ ∀ p ∈ named r, p ∈ m.pairs := by
  unfold rRest at h
  rcases List.mem_append.mp h with h | h
  · rcases List.mem_append.mp h with h | h
    · obtain ⟨p, hp, rfl⟩ := List.mem_map.mp h
      exact ⟨w1, wf3 rlen_open, fun q hq => by
        have e : q = (p.1, p.2) := List.mem_singleton.mp hq
        rw [e]
        exact (List.mem_filter.mp hp).1⟩
    · obtain ⟨p, hp, rfl⟩ := List.mem_map.mp h
      exact ⟨w2, wf3 rlen_close, fun q hq => by
        have e : q = (p.1, p.2) := List.mem_singleton.mp hq
        rw [e]
        exact (List.mem_filter.mp hp).1⟩
  · obtain ⟨s, hs, rfl⟩ := List.mem_map.mp h
    have hp := g.st.subset hs
    unfold prod at hp
    obtain ⟨a, ha, hb⟩ := List.mem_flatMap.mp hp
    obtain ⟨b, hb, e⟩ := List.mem_map.mp hb
    refine ⟨w3, wf5 rlen_step, fun q hq => ?_⟩
    have hq : q ∈ [(s.1.1, s.1.2), (s.2.1, s.2.2)] := hq
    rw [← e] at hq
    rcases List.mem_cons.mp hq with z | z
    · rw [z]
      exact ha
    · rw [List.mem_singleton.mp z]
      exact hb
theorem pairR_inj {p q : Pr} (h : pairR p = pairR q) : p = q := by
  have h1 : p.1 = q.1 ∧ p.2 = q.2 := by simpa [pairR] using h
  exact Prod.ext h1.1 h1.2
theorem mem_pairR {m : Md} (g : Good m) {p : Pr} (h : pairR p ∈ rRest m) : False := (rest_ok g h).1 rfl
theorem okb_of {m : Md} (g : Good m) {pre : List (List Str)} (hs : ∀ r ∈ pre, (∃ p, r = pairR p) ∨ (r ∈ rRest m ∧ ∀ p ∈ m.pairs, pairR p ∈ pre)) : Okb (bookOf m.names pre) := by
  refine ⟨fold_alen _ _ (book0_len _), fun r b hb => ?_⟩
  rw [held_of] at hb
  by_cases h : r ∈ pre
  · rcases hs r h with ⟨p, rfl⟩ | ⟨h1, h2⟩
    · refine ⟨.inl rfl, fun q hq => ⟨false, ?_⟩⟩
      have e : q = p := List.mem_singleton.mp hq
      rw [e, held_of, if_pos h]
    · obtain ⟨_, q2, q3⟩ := rest_ok g h1
      exact ⟨wf_odd q2, fun p hp => ⟨false, by rw [held_of, if_pos (h2 p (q3 p hp))]⟩⟩
  · rw [if_neg h] at hb
    cases hb
theorem rd_model {m : Md} (g : Good m) : RdAll (book0 m.names) (rulesOf m) := by
  rw [rules_eq]
  refine RdAll.of fun i r hr => ?_
  show Okb (bookOf m.names _) ∧ RdOk (bookOf m.names _) r
  have lpr : (m.pairs.map pairR).length = m.pairs.length := List.length_map ..
  by_cases hi : i < m.pairs.length
  · -- a pair rule
    have tk : (m.pairs.map pairR ++ rRest m).take i = (m.pairs.take i).map pairR := by
      rw [List.take_append_of_le_length (by rw [lpr]; omega), List.map_take]
    rw [List.getElem?_append_left (by rw [lpr]; exact hi), List.getElem?_map, List.getElem?_eq_getElem hi] at hr
    have hp := List.getElem_mem hi
    have hpi : m.pairs[i]? = some m.pairs[i] := List.getElem?_eq_getElem hi
    have hnew : m.pairs[i] ∉ m.pairs.take i := fun z => by
      obtain ⟨j, hj, e⟩ := List.mem_iff_getElem.mp z
      rw [List.length_take] at hj
      rw [List.getElem_take] at e
      have q := nd_ix g.pnd (i := j) (j := i) (by rw [List.getElem?_eq_getElem (by omega)]) (by rw [hpi, e])
      omega
    have tk1 : m.pairs.take (i + 1) = m.pairs.take i ++ [m.pairs[i]] := by
      rw [List.take_add_one, hpi]
      rfl
    generalize m.pairs[i] = p at hr hp hnew tk1
    have hr : pairR p = r := by simpa using hr
    subst hr
    rw [tk]
    refine ⟨okb_of g fun r hr => ?_, wf3 rlen_pair, fun _ => ?_, fun z => (z rfl).elim⟩
    · obtain ⟨q, _, rfl⟩ := List.mem_map.mp hr
      exact .inl ⟨q, rfl⟩
    · obtain ⟨h1, h2, h3⟩ := g.mem hp
      have hA : ansOf (bookOf m.names ((m.pairs.take i).map pairR)) p.1 = ((m.pairs.take i).filter fun q => decide (q.1 = p.1)).map (·.2) := by
        rw [ansOf_book _ _ _ h1, insAll_pairs _ _ _ (g.pnd.sublist (List.take_sublist _ _)) fun _ _ => by simp]
        rfl
      show PairOk _ p.1 p.2
      refine ⟨?_, h3, ?_, .inr ?_⟩
      · unfold bookOf
        rw [fold_given]
        exact h1
      · rw [hA]
        intro s hs
        obtain ⟨q, hq, rfl⟩ := List.mem_map.mp hs
        exact note_ok (g.mem (List.mem_of_mem_take (List.mem_filter.mp hq).1)).2.2
      · rw [hA, List.length_map]
        have q := g.few p.1
        have s1 : (m.pairs.take (i + 1)).Sublist m.pairs := List.take_sublist _ _
        have s2 := (s1.filter fun q => decide (q.1 = p.1)).length_le
        rw [tk1, List.filter_append, List.length_append] at s2
        have e : [p].filter (fun q => decide (q.1 = p.1)) = [p] := by simp
        rw [e, List.length_singleton] at s2
        omega
  · have tk : (m.pairs.map pairR ++ rRest m).take i = m.pairs.map pairR ++ (rRest m).take (i - m.pairs.length) := by
      rw [List.take_append, List.take_of_length_le (by rw [lpr]; omega), lpr]
    rw [List.getElem?_append_right (by rw [lpr]; omega)] at hr
    have hm : r ∈ rRest m := List.mem_of_getElem? hr
    obtain ⟨q1, q2, q3⟩ := rest_ok g hm
    rw [tk]
    have hall : ∀ p ∈ m.pairs, pairR p ∈ m.pairs.map pairR ++ (rRest m).take (i - m.pairs.length) := fun p hp => List.mem_append.mpr (.inl (List.mem_map.mpr ⟨p, hp, rfl⟩))
    refine ⟨okb_of g fun s hs => ?_, q2, fun z => (q1 z).elim, fun _ p hp => ⟨?_, ?_⟩⟩
    · rcases List.mem_append.mp hs with z | z
      · obtain ⟨q, _, rfl⟩ := List.mem_map.mp z
        exact .inl ⟨q, rfl⟩
      · exact .inr ⟨List.mem_of_mem_take z, hall⟩
    · unfold bookOf
      rw [fold_given]
      exact (g.mem (q3 p hp)).1
    · rw [con_of]
      exact decide_eq_true (hall p (q3 p hp))
theorem okb_model {m : Md} (g : Good m) : Okb (bookOf m.names (rulesOf m)) := by
  rw [rules_eq]
  refine okb_of g fun r hr => ?_
  rcases List.mem_append.mp hr with z | z
  · obtain ⟨q, _, rfl⟩ := List.mem_map.mp z
    exact .inl ⟨q, rfl⟩
  · exact .inr ⟨z, fun p hp => List.mem_append.mpr (.inl (List.mem_map.mpr ⟨p, hp, rfl⟩))⟩
theorem known_model {m : Md} (g : Good m) : knownL (bookOf m.names (rulesOf m)) = m.pairs := by
  obtain ⟨as, h1, h2, h3⟩ := g.pr
  have hg : (bookOf m.names (rulesOf m)).given = m.names := by unfold bookOf; rw [fold_given]; rfl
  unfold knownL
  rw [hg, h2, ← pf_flat m.names as g.nn h1, List.flatMap_def, List.flatMap_def]
  congr 1
  refine List.map_congr_left fun n hn => ?_
  congr 1
  obtain ⟨l, hl⟩ := look_in n m.names as h1 hn
  rw [ansOf_book _ _ _ hn, rules_eq, insAll_app, insAll_no _ _ _ fun r hr => (rest_ok g hr).1, insAll_pairs _ _ _ g.pnd fun _ _ => by simp, List.nil_append, h2, pf_filter n m.names as l g.nn hl, hl]
  rfl
theorem pairs_model {m : Md} (g : Good m) : pairsL (bookOf m.names (rulesOf m)) = m.pairs := by
  unfold pairsL
  rw [known_model g]
  refine List.filter_eq_self.mpr fun p hp => ?_
  rw [con_of, rules_eq]
  exact decide_eq_true (List.mem_append.mpr (.inl (List.mem_map.mpr ⟨p, hp, rfl⟩)))
theorem okp_model {m : Md} (g : Good m) : OkP (bookOf m.names (rulesOf m)) := ⟨okb_model g, by rw [known_model g]; have := g.pl; omega⟩
end Kv

set_option Elab.async false
set_option linter.all false
set_option maxRecDepth 100000
set_option maxHeartbeats 4000000
namespace Kv
open PySem PySem.Calls L2 Lk
theorem sub_filter2 {α : Type} {f : α → Bool} {l s : List α} (h : s.Sublist l) (nd : l.Nodup) (hf : ∀ x ∈ l, (f x = true ↔ x ∈ s)) : l.filter f = s := by
  induction h with
  | slnil => rfl
  | @cons l1 l2 a h ih =>
    obtain ⟨d1, d2⟩ := List.nodup_cons.mp nd
    rw [List.filter_cons, if_neg fun z => d1 (h.subset ((hf a List.mem_cons_self).mp z))]
    exact ih d2 fun x hx => hf x (List.mem_cons_of_mem _ hx)
  | @cons_cons l1 l2 a h ih =>
    obtain ⟨d1, d2⟩ := List.nodup_cons.mp nd
    rw [List.filter_cons, if_pos ((hf a List.mem_cons_self).mpr List.mem_cons_self)]
    congr 1
    refine ih d2 fun x hx => (hf x (List.mem_cons_of_mem _ hx)).trans ⟨fun z => ?_, fun z => List.mem_cons_of_mem _ z⟩
    rcases List.mem_cons.mp z with z | z
    · exact (d1 (z ▸ hx)).elim
    · exact z
theorem mem_opens {m : Md} (g : Good m) {p : Pr} (hp : p ∈ m.pairs) : ([("open" : Str), p.1, p.2] ∈ rulesOf m) ↔ p ∈ m.opens := by
  rw [rules_eq]
  unfold rRest
  constructor
  · intro h
    rcases List.mem_append.mp h with h | h
    · obtain ⟨q, _, e⟩ := List.mem_map.mp h
      exact (w1 (by simpa [pairR] using (congrArg (·.headD Str.empty) e).symm)).elim
    · rcases List.mem_append.mp h with h | h
      · rcases List.mem_append.mp h with h | h
        · obtain ⟨q, hq, e⟩ := List.mem_map.mp h
          have e2 : q = p := pairR_inj (by
            have e3 : q.1 = p.1 ∧ q.2 = p.2 := by simpa using e
            unfold pairR
            rw [e3.1, e3.2])
          rw [← e2]
          exact of_decide_eq_true (List.mem_filter.mp hq).2
        · obtain ⟨q, _, e⟩ := List.mem_map.mp h
          exact (w4 (congrArg (·.headD Str.empty) e)).elim
      · obtain ⟨s, _, e⟩ := List.mem_map.mp h
        exact (w5 (congrArg (·.headD Str.empty) e)).elim
  · intro h
    exact List.mem_append.mpr (.inr (List.mem_append.mpr (.inl (List.mem_append.mpr (.inl (List.mem_map.mpr ⟨p, List.mem_filter.mpr ⟨hp, decide_eq_true h⟩, rfl⟩))))))
theorem mem_closes {m : Md} (g : Good m) {p : Pr} (hp : p ∈ m.pairs) : ([("close" : Str), p.1, p.2] ∈ rulesOf m) ↔ p ∈ m.closes := by
  rw [rules_eq]
  unfold rRest
  constructor
  · intro h
    rcases List.mem_append.mp h with h | h
    · obtain ⟨q, _, e⟩ := List.mem_map.mp h
      exact (w2 (congrArg (·.headD Str.empty) e).symm).elim
    · rcases List.mem_append.mp h with h | h
      · rcases List.mem_append.mp h with h | h
        · obtain ⟨q, _, e⟩ := List.mem_map.mp h
          exact (w4 (congrArg (·.headD Str.empty) e).symm).elim
        · obtain ⟨q, hq, e⟩ := List.mem_map.mp h
          have e2 : q = p := pairR_inj (by
            have e3 : q.1 = p.1 ∧ q.2 = p.2 := by simpa using e
            unfold pairR
            rw [e3.1, e3.2])
          rw [← e2]
          exact of_decide_eq_true (List.mem_filter.mp hq).2
      · obtain ⟨s, _, e⟩ := List.mem_map.mp h
        exact (w6 (congrArg (·.headD Str.empty) e)).elim
  · intro h
    exact List.mem_append.mpr (.inr (List.mem_append.mpr (.inl (List.mem_append.mpr (.inr (List.mem_map.mpr ⟨p, List.mem_filter.mpr ⟨hp, decide_eq_true h⟩, rfl⟩))))))
theorem stepR_inj {s t : Pr × Pr} (h : stepR s = stepR t) : s = t := by
  have h1 : s.1.1 = t.1.1 ∧ s.1.2 = t.1.2 ∧ s.2.1 = t.2.1 ∧ s.2.2 = t.2.2 := by simpa [stepR] using h
  exact Prod.ext (Prod.ext h1.1 h1.2.1) (Prod.ext h1.2.2.1 h1.2.2.2)
theorem mem_steps {m : Md} (g : Good m) {s : Pr × Pr} : (stepR s ∈ rulesOf m) ↔ s ∈ m.steps := by
  rw [rules_eq]
  unfold rRest
  constructor
  · intro h
    rcases List.mem_append.mp h with h | h
    · obtain ⟨q, _, e⟩ := List.mem_map.mp h
      exact (w3 (congrArg (·.headD Str.empty) e).symm).elim
    · rcases List.mem_append.mp h with h | h
      · rcases List.mem_append.mp h with h | h
        · obtain ⟨q, _, e⟩ := List.mem_map.mp h
          exact (w5 (congrArg (·.headD Str.empty) e).symm).elim
        · obtain ⟨q, hq, e⟩ := List.mem_map.mp h
          exact (w6 (congrArg (·.headD Str.empty) e).symm).elim
      · obtain ⟨t, ht, e⟩ := List.mem_map.mp h
        rw [← stepR_inj e]
        exact ht
  · intro h
    exact List.mem_append.mpr (.inr (List.mem_append.mpr (.inr (List.mem_map.mpr ⟨s, h, rfl⟩))))
theorem rules_model {m : Md} (g : Good m) : rulesL (bookOf m.names (rulesOf m)) = rulesOf m := by
  unfold rulesL
  rw [pairs_model g]
  have ec : (fun r => conB (bookOf m.names (rulesOf m)) r) = fun r => decide (r ∈ rulesOf m) := funext fun r => con_of _ _ _
  rw [ec]
  unfold allR
  rw [List.filter_append]
  have e0 : ([("pair" : Str), "open", "close"].flatMap fun w => m.pairs.map fun p => [w, p.1, p.2]) = m.pairs.map pairR ++ (m.pairs.map (fun p => [("open" : Str), p.1, p.2]) ++ (m.pairs.map (fun p => [("close" : Str), p.1, p.2]) ++ [])) := rfl
  have e1 : (m.pairs.flatMap fun p => m.pairs.map fun q => [("step" : Str), p.1, p.2, q.1, q.2]) = (prod m.pairs).map stepR := by
    unfold prod
    rw [List.map_flatMap]
    congr 1
    funext p
    rw [List.map_map]
    rfl
  rw [e0, e1, List.append_nil, List.filter_append, List.filter_append]
  have f1 : (m.pairs.map pairR).filter (fun r => decide (r ∈ rulesOf m)) = m.pairs.map pairR := List.filter_eq_self.mpr fun r hr => decide_eq_true (by rw [rules_eq]; exact List.mem_append.mpr (.inl hr))
  have f2 : (m.pairs.map (fun p => [("open" : Str), p.1, p.2])).filter (fun r => decide (r ∈ rulesOf m)) = rOpens m := by
    unfold rOpens
    rw [List.filter_map]
    congr 1
    refine List.filter_congr fun p hp => ?_
    show decide _ = decide _
    rw [decide_eq_decide]
    exact mem_opens g hp
  have f3 : (m.pairs.map (fun p => [("close" : Str), p.1, p.2])).filter (fun r => decide (r ∈ rulesOf m)) = rCloses m := by
    unfold rCloses
    rw [List.filter_map]
    congr 1
    refine List.filter_congr fun p hp => ?_
    show decide _ = decide _
    rw [decide_eq_decide]
    exact mem_closes g hp
  have f4 : ((prod m.pairs).map stepR).filter (fun r => decide (r ∈ rulesOf m)) = m.steps.map stepR := by
    rw [List.filter_map]
    congr 1
    exact sub_filter2 g.st (prod_nodup g.pnd) fun s _ => (decide_eq_true_iff (p := stepR s ∈ rulesOf m)).trans (mem_steps g)
  rw [f1, f2, f3, f4, rules_eq]
  unfold rRest
  simp only [List.append_assoc]
theorem rules_ok {m : Md} (g : Good m) : okL (okL okS) (rulesOf m) := by
  have ws : ∀ w ∈ [("pair" : Str), "open", "close", "step"], okS w := (by decide +kernel : ∀ w ∈ [("pair" : Str), "open", "close", "step"], PyData.strOk w = true)
  have k3 : ∀ {w : Str} {p : Pr}, okS w → p ∈ m.pairs → okL okS [w, p.1, p.2] := fun {w p} hw hp s hs => by
    obtain ⟨_, h1, h2⟩ := g.mem hp
    rcases List.mem_cons.mp hs with e | hs
    · rw [e]; exact hw
    rcases List.mem_cons.mp hs with e | hs
    · rw [e]; exact note_ok h1
    · rw [List.mem_singleton.mp hs]; exact note_ok h2
  intro r hr
  rw [rules_eq] at hr
  rcases List.mem_append.mp hr with h | h
  · obtain ⟨p, hp, rfl⟩ := List.mem_map.mp h
    exact k3 (ws _ (by simp)) hp
  · unfold rRest at h
    rcases List.mem_append.mp h with h | h
    · rcases List.mem_append.mp h with h | h
      · obtain ⟨p, hp, rfl⟩ := List.mem_map.mp h
        exact k3 (ws _ (by simp)) (List.mem_filter.mp hp).1
      · obtain ⟨p, hp, rfl⟩ := List.mem_map.mp h
        exact k3 (ws _ (by simp)) (List.mem_filter.mp hp).1
    · obtain ⟨s, hs, rfl⟩ := List.mem_map.mp h
      have hp := g.st.subset hs
      unfold prod at hp
      obtain ⟨a, ha, hq⟩ := List.mem_flatMap.mp hp
      obtain ⟨b, hb, e⟩ := List.mem_map.mp hq
      subst e
      intro x hx
      have hx : x ∈ [("step" : Str), a.1, a.2] ++ [b.1, b.2] := hx
      rcases List.mem_append.mp hx with hx | hx
      · exact k3 (ws _ (by simp)) ha x hx
      · exact k3 (w := "step") (ws _ (by simp)) hb x (List.mem_cons_of_mem _ hx)
end Kv

set_option Elab.async false
set_option linter.all false
set_option maxRecDepth 100000
set_option maxHeartbeats 4000000
namespace Kv
open PySem PySem.Calls L2 Lk
/-! ### books by their form: pair rules, then the others -/
structure Frm (g : List Str) (ps : List Pr) (rest : List (List Str)) : Prop where
  gv : Giv g
  nd : ps.Nodup
  fs : ∀ p ∈ ps, p.1 ∈ g ∧ Note p.2
  few : ∀ n, (ps.filter fun p => decide (p.1 = n)).length ≤ 4
  rs : ∀ r ∈ rest, ¬ r.headD Str.empty = "pair" ∧ wfB r = true ∧ ∀ p ∈ named r, p ∈ ps
def frmR (ps : List Pr) (rest : List (List Str)) : List (List Str) := ps.map pairR ++ rest
theorem Good.frm {m : Md} (g : Good m) : Frm m.names m.pairs (rRest m) := ⟨⟨g.nl, g.nn, g.nt⟩, g.pnd, fun p hp => ⟨(g.mem hp).1, (g.mem hp).2.2⟩, g.few, fun _ h => rest_ok g h⟩
section
variable {g : List Str} {ps : List Pr} {rest : List (List Str)}
theorem okb_frm (f : Frm g ps rest) {pre : List (List Str)} (hs : ∀ r ∈ pre, (∃ p, r = pairR p) ∨ (r ∈ rest ∧ ∀ p ∈ ps, pairR p ∈ pre)) : Okb (bookOf g pre) := by
  refine ⟨fold_alen _ _ (book0_len _), fun r b hb => ?_⟩
  rw [held_of] at hb
  by_cases h : r ∈ pre
  · rcases hs r h with ⟨p, rfl⟩ | ⟨h1, h2⟩
    · refine ⟨.inl rfl, fun q hq => ⟨false, ?_⟩⟩
      have e : q = p := List.mem_singleton.mp hq
      rw [e, held_of, if_pos h]
    · obtain ⟨_, q2, q3⟩ := f.rs r h1
      exact ⟨wf_odd q2, fun p hp => ⟨false, by rw [held_of, if_pos (h2 p (q3 p hp))]⟩⟩
  · rw [if_neg h] at hb
    cases hb
theorem rd_frm (f : Frm g ps rest) : RdAll (book0 g) (frmR ps rest) := by
  unfold frmR
  refine RdAll.of fun i r hr => ?_
  show Okb (bookOf g _) ∧ RdOk (bookOf g _) r
  have lpr : (ps.map pairR).length = ps.length := List.length_map ..
  by_cases hi : i < ps.length
  · have tk : (ps.map pairR ++ rest).take i = (ps.take i).map pairR := by
      rw [List.take_append_of_le_length (by rw [lpr]; omega), List.map_take]
    rw [List.getElem?_append_left (by rw [lpr]; exact hi), List.getElem?_map, List.getElem?_eq_getElem hi] at hr
    have hp := List.getElem_mem hi
    have hpi : ps[i]? = some ps[i] := List.getElem?_eq_getElem hi
    have tk1 : ps.take (i + 1) = ps.take i ++ [ps[i]] := by
      rw [List.take_add_one, hpi]
      rfl
    generalize ps[i] = p at hr hp tk1
    have hr : pairR p = r := by simpa using hr
    subst hr
    rw [tk]
    refine ⟨okb_frm f fun r hr => ?_, wf3 rlen_pair, fun _ => ?_, fun z => (z rfl).elim⟩
    · obtain ⟨q, _, rfl⟩ := List.mem_map.mp hr
      exact .inl ⟨q, rfl⟩
    · obtain ⟨h1, h3⟩ := f.fs p hp
      have hA : ansOf (bookOf g ((ps.take i).map pairR)) p.1 = ((ps.take i).filter fun q => decide (q.1 = p.1)).map (·.2) := by
        rw [ansOf_book _ _ _ h1, insAll_pairs _ _ _ (f.nd.sublist (List.take_sublist _ _)) fun _ _ => by simp]
        rfl
      show PairOk _ p.1 p.2
      refine ⟨?_, h3, ?_, .inr ?_⟩
      · unfold bookOf
        rw [fold_given]
        exact h1
      · rw [hA]
        intro s hs
        obtain ⟨q, hq, rfl⟩ := List.mem_map.mp hs
        exact note_ok (f.fs q (List.mem_of_mem_take (List.mem_filter.mp hq).1)).2
      · rw [hA, List.length_map]
        have q := f.few p.1
        have s1 : (ps.take (i + 1)).Sublist ps := List.take_sublist _ _
        have s2 := (s1.filter fun q => decide (q.1 = p.1)).length_le
        rw [tk1, List.filter_append, List.length_append] at s2
        have e : [p].filter (fun q => decide (q.1 = p.1)) = [p] := by simp
        rw [e, List.length_singleton] at s2
        omega
  · have tk : (ps.map pairR ++ rest).take i = ps.map pairR ++ rest.take (i - ps.length) := by
      rw [List.take_append, List.take_of_length_le (by rw [lpr]; omega), lpr]
    rw [List.getElem?_append_right (by rw [lpr]; omega)] at hr
    have hm : r ∈ rest := List.mem_of_getElem? hr
    obtain ⟨q1, q2, q3⟩ := f.rs r hm
    rw [tk]
    have hall : ∀ p ∈ ps, pairR p ∈ ps.map pairR ++ rest.take (i - ps.length) := fun p hp => List.mem_append.mpr (.inl (List.mem_map.mpr ⟨p, hp, rfl⟩))
    refine ⟨okb_frm f fun s hs => ?_, q2, fun z => (q1 z).elim, fun _ p hp => ⟨?_, ?_⟩⟩
    · rcases List.mem_append.mp hs with z | z
      · obtain ⟨q, _, rfl⟩ := List.mem_map.mp z
        exact .inl ⟨q, rfl⟩
      · exact .inr ⟨List.mem_of_mem_take z, hall⟩
    · unfold bookOf
      rw [fold_given]
      exact (f.fs p (q3 p hp)).1
    · rw [con_of]
      exact decide_eq_true (hall p (q3 p hp))
theorem okb_all (f : Frm g ps rest) : Okb (bookOf g (frmR ps rest)) := okb_frm f fun r hr => by
  rcases List.mem_append.mp hr with z | z
  · obtain ⟨q, _, rfl⟩ := List.mem_map.mp z
    exact .inl ⟨q, rfl⟩
  · exact .inr ⟨z, fun p hp => List.mem_append.mpr (.inl (List.mem_map.mpr ⟨p, hp, rfl⟩))⟩
theorem given_of (g : List Str) (rs : List (List Str)) : (bookOf g rs).given = g := by unfold bookOf; rw [fold_given]; rfl
theorem ans_frm (f : Frm g ps rest) {n : Str} (hn : n ∈ g) : ansOf (bookOf g (frmR ps rest)) n = (ps.filter fun p => decide (p.1 = n)).map (·.2) := by
  unfold frmR
  rw [ansOf_book _ _ _ hn, insAll_app, insAll_no _ _ _ fun r hr => (f.rs r hr).1, insAll_pairs _ _ _ f.nd fun _ _ => by simp, List.nil_append]
theorem known_mem (f : Frm g ps rest) (p : Pr) : p ∈ knownL (bookOf g (frmR ps rest)) ↔ p ∈ ps := by
  unfold knownL
  rw [given_of, List.mem_flatMap]
  constructor
  · rintro ⟨n, hn, h⟩
    rw [ans_frm f hn] at h
    obtain ⟨a, ha, rfl⟩ := List.mem_map.mp h
    obtain ⟨q, hq, rfl⟩ := List.mem_map.mp ha
    obtain ⟨h1, h2⟩ := List.mem_filter.mp hq
    have e : q.1 = n := of_decide_eq_true h2
    rw [← e]
    exact h1
  · intro h
    refine ⟨p.1, (f.fs p h).1, ?_⟩
    rw [ans_frm f (f.fs p h).1]
    exact List.mem_map.mpr ⟨p.2, List.mem_map.mpr ⟨p, List.mem_filter.mpr ⟨h, decide_eq_true rfl⟩, rfl⟩, rfl⟩
theorem known_len (f : Frm g ps rest) : (knownL (bookOf g (frmR ps rest))).length ≤ 16 := by
  unfold knownL
  rw [given_of]
  have q := flat_len g (fun n => (ansOf (bookOf g (frmR ps rest)) n).map fun a => (n, a)) 4 fun n hn => by
    rw [List.length_map, ans_frm f hn, List.length_map]
    exact f.few n
  have := f.gv.1
  omega
theorem okp_frm (f : Frm g ps rest) : OkP (bookOf g (frmR ps rest)) := ⟨okb_all f, by have := known_len f; omega⟩
theorem pairs_mem (f : Frm g ps rest) (p : Pr) : p ∈ pairsL (bookOf g (frmR ps rest)) ↔ p ∈ ps := by
  unfold pairsL
  rw [List.mem_filter, known_mem f]
  refine ⟨fun h => h.1, fun h => ⟨h, ?_⟩⟩
  rw [con_of]
  exact decide_eq_true (List.mem_append.mpr (.inl (List.mem_map.mpr ⟨p, h, rfl⟩)))
theorem rules_mem (f : Frm g ps rest) (r : List Str) : r ∈ rulesL (bookOf g (frmR ps rest)) ↔ r ∈ frmR ps rest := by
  unfold rulesL
  rw [List.mem_filter]
  constructor
  · rintro ⟨_, h⟩
    rw [con_of] at h
    exact of_decide_eq_true h
  · intro h
    refine ⟨?_, by rw [con_of]; exact decide_eq_true h⟩
    unfold allR
    have k3 : ∀ (w : Str), w ∈ [("pair" : Str), "open", "close"] → ∀ p ∈ ps, [w, p.1, p.2] ∈ ([("pair" : Str), "open", "close"].flatMap fun w => (pairsL (bookOf g (frmR ps rest))).map fun p => [w, p.1, p.2]) := fun w hw p hp => List.mem_flatMap.mpr ⟨w, hw, List.mem_map.mpr ⟨p, (pairs_mem f p).mpr hp, rfl⟩⟩
    rcases List.mem_append.mp h with z | z
    · obtain ⟨p, hp, rfl⟩ := List.mem_map.mp z
      exact List.mem_append.mpr (.inl (k3 "pair" (by simp) p hp))
    · obtain ⟨q1, q2, q3⟩ := f.rs r z
      cases r with
      | nil => cases q2
      | cons w r =>
        have q1 : ¬ w = "pair" := q1
        rcases rlen_cases w with ⟨e, hw⟩ | ⟨e, hw⟩ | e
        · have q2 := q2
          simp only [wfB, e] at q2
          have hl : r.length + 1 = 3 := of_decide_eq_true q2
          match r, hl with
          | [a, b], _ =>
            have hp : (a, b) ∈ ps := q3 (a, b) (List.mem_singleton.mpr rfl)
            exact List.mem_append.mpr (.inl (k3 w (by rcases hw with z | z | z <;> simp [z]) _ hp))
        · simp only [wfB, e] at q2
          have hl : r.length + 1 = 5 := of_decide_eq_true q2
          match r, hl with
          | [a, b, c, d], _ =>
            have hp : (a, b) ∈ ps := q3 (a, b) (by show (a, b) ∈ [(a, b), (c, d)]; simp)
            have hq : (c, d) ∈ ps := q3 (c, d) (by show (c, d) ∈ [(a, b), (c, d)]; simp)
            subst hw
            exact List.mem_append.mpr (.inr (List.mem_flatMap.mpr ⟨(a, b), (pairs_mem f _).mpr hp, List.mem_map.mpr ⟨(c, d), (pairs_mem f _).mpr hq, rfl⟩⟩))
        · simp only [wfB, e] at q2
          cases q2
/-- fewer rules -/
theorem Frm.less (f : Frm g ps rest) {rest' : List (List Str)} (h : ∀ r ∈ rest', r ∈ rest) : Frm g ps rest' := ⟨f.gv, f.nd, f.fs, f.few, fun r hr => f.rs r (h r hr)⟩
theorem Frm.lessP (f : Frm g ps rest) {ps' : List Pr} {rest' : List (List Str)} (hp : ps'.Sublist ps) (h : ∀ r ∈ rest', r ∈ rest ∧ ∀ p ∈ named r, p ∈ ps') : Frm g ps' rest' :=
  ⟨f.gv, f.nd.sublist hp, fun p q => f.fs p (hp.subset q), fun n => Nat.le_trans (hp.filter _).length_le (f.few n), fun r hr => ⟨(f.rs r (h r hr).1).1, (f.rs r (h r hr).1).2.1, (h r hr).2⟩⟩
theorem Frm.other (f : Frm g ps rest) {g' : List Str} (hg : Giv g') (h : ∀ p ∈ ps, p.1 ∈ g') : Frm g' ps rest := ⟨hg, f.nd, fun p q => ⟨h p q, (f.fs p q).2⟩, f.few, f.rs⟩
end
end Kv

set_option Elab.async false
set_option linter.all false
set_option maxRecDepth 100000
set_option maxHeartbeats 4000000
namespace Kv
open PySem PySem.Calls L2 Lk
/-! ### rules told in another order, some more than once -/
structure Told (g : List Str) (ps : List Pr) (rest rs : List (List Str)) : Prop where
  f : Frm g ps rest
  mem : ∀ r, r ∈ rs ↔ r ∈ frmR ps rest
  ans : ∀ n ∈ g, insAll n rs [] = (ps.filter fun p => decide (p.1 = n)).map (·.2)
  pre : ∀ i r, rs[i]? = some r → r ∈ rest → ∀ p ∈ named r, pairR p ∈ rs.take i
theorem ins_pre (l : List Str) (x : Str) : ∃ t, ins l x = l ++ t := by
  unfold ins
  by_cases h : x ∈ l
  · rw [if_pos h]
    exact ⟨[], by simp⟩
  · rw [if_neg h]
    exact ⟨[x], rfl⟩
theorem insAll_pre (n : Str) : ∀ (rs : List (List Str)) (l : List Str), ∃ t, insAll n rs l = l ++ t
  | [], l => ⟨[], by simp [insAll]⟩
  | r :: rs, l => by
    unfold insAll
    by_cases h : isP r n
    · rw [if_pos h]
      obtain ⟨t1, e1⟩ := ins_pre l (r.getD 2 Str.empty)
      obtain ⟨t2, e2⟩ := insAll_pre n rs (ins l (r.getD 2 Str.empty))
      exact ⟨t1 ++ t2, by rw [e2, e1, List.append_assoc]⟩
    · rw [if_neg h]
      exact insAll_pre n rs l
theorem take_split {α : Type} {l : List α} {i : Nat} {a : α} (h : l[i]? = some a) : l = l.take i ++ a :: l.drop (i + 1) := by
  have hi := (List.getElem?_eq_some_iff.mp h).1
  have e := (List.getElem?_eq_some_iff.mp h).2
  rw [← e, List.getElem_cons_drop, List.take_append_drop]
section
variable {g : List Str} {ps : List Pr} {rest rs : List (List Str)}
/-- at each place: the answers so far, and that there is room -/
theorem Told.room (t : Told g ps rest rs) {i : Nat} {p : Pr} (h : rs[i]? = some (pairR p)) (hp : p ∈ ps) : okL okS (insAll p.1 (rs.take i) []) ∧ (p.2 ∈ insAll p.1 (rs.take i) [] ∨ (insAll p.1 (rs.take i) []).length < 4) := by
  obtain ⟨h1, h2⟩ := t.f.fs p hp
  have e := t.ans p.1 h1
  rw [take_split h, insAll_app] at e
  have eP : isP (pairR p) p.1 := ⟨rfl, rfl⟩
  unfold insAll at e
  rw [if_pos eP] at e
  generalize insAll p.1 (rs.take i) [] = L at e
  have e2 : (pairR p).getD 2 Str.empty = p.2 := rfl
  rw [e2] at e
  obtain ⟨t2, et⟩ := insAll_pre p.1 (rs.drop (i + 1)) (ins L p.2)
  rw [et] at e
  have few := t.f.few p.1
  have hl : (ins L p.2 ++ t2).length ≤ 4 := by rw [e, List.length_map]; exact few
  constructor
  · intro s hs
    obtain ⟨t1, e1⟩ := ins_pre L p.2
    have hm : s ∈ (ps.filter fun q => decide (q.1 = p.1)).map (·.2) := by
      rw [← e, e1]
      exact List.mem_append.mpr (.inl (List.mem_append.mpr (.inl hs)))
    obtain ⟨q, hq, rfl⟩ := List.mem_map.mp hm
    exact note_ok (t.f.fs q (List.mem_filter.mp hq).1).2
  · by_cases hx : p.2 ∈ L
    · exact .inl hx
    · refine .inr ?_
      have e3 : ins L p.2 = L ++ [p.2] := by
        unfold ins
        rw [if_neg hx]
      rw [e3, List.length_append, List.length_append, List.length_singleton] at hl
      omega
theorem Told.okb (t : Told g ps rest rs) {i : Nat} : Okb (bookOf g (rs.take i)) := by
  refine ⟨fold_alen _ _ (book0_len _), fun r b hb => ?_⟩
  rw [held_of] at hb
  by_cases h : r ∈ rs.take i
  · have hm := (t.mem r).mp (List.mem_of_mem_take h)
    rcases List.mem_append.mp hm with z | z
    · obtain ⟨p, _, rfl⟩ := List.mem_map.mp z
      refine ⟨.inl rfl, fun q hq => ⟨false, ?_⟩⟩
      have e : q = p := List.mem_singleton.mp hq
      rw [e, held_of, if_pos h]
    · obtain ⟨_, q2, q3⟩ := t.f.rs r z
      refine ⟨wf_odd q2, fun p hp => ⟨false, ?_⟩⟩
      obtain ⟨j, hj, ej⟩ := List.mem_iff_getElem.mp h
      rw [List.getElem_take] at ej
      rw [List.length_take] at hj
      have hjr : rs[j]? = some r := by rw [List.getElem?_eq_getElem (by omega), ej]
      have q := t.pre j r hjr z p hp
      have q' : pairR p ∈ rs.take i := by
        have hs : (rs.take j).Sublist (rs.take i) := by
          have e : rs.take j = (rs.take i).take j := by rw [List.take_take, Nat.min_eq_left (by omega)]
          rw [e]
          exact List.take_sublist _ _
        exact hs.subset q
      rw [held_of, if_pos q']
  · rw [if_neg h] at hb
    cases hb
theorem Told.rd (t : Told g ps rest rs) : RdAll (book0 g) rs := by
  refine RdAll.of fun i r hr => ⟨t.okb, ?_⟩
  show RdOk (bookOf g _) r
  have hm := (t.mem r).mp (List.mem_of_getElem? hr)
  rcases List.mem_append.mp hm with z | z
  · obtain ⟨p, hp, rfl⟩ := List.mem_map.mp z
    obtain ⟨h1, h2⟩ := t.f.fs p hp
    obtain ⟨k1, k2⟩ := t.room hr hp
    refine ⟨wf3 rlen_pair, fun _ => ?_, fun y => (y rfl).elim⟩
    show PairOk _ p.1 p.2
    rw [← ansOf_book g (rs.take i) p.1 h1] at k1 k2
    exact ⟨by rw [given_of]; exact h1, h2, k1, k2⟩
  · obtain ⟨q1, q2, q3⟩ := t.f.rs r z
    refine ⟨q2, fun y => (q1 y).elim, fun _ p hp => ⟨?_, ?_⟩⟩
    · rw [given_of]
      exact (t.f.fs p (q3 p hp)).1
    · rw [con_of]
      exact decide_eq_true (t.pre i r hr z p hp)
theorem Told.okball (t : Told g ps rest rs) : Okb (bookOf g rs) := by
  have q := t.okb (i := rs.length)
  rw [List.take_length] at q
  exact q
/-- such a book is the book of the rules in order -/
theorem Told.known (t : Told g ps rest rs) : knownL (bookOf g rs) = knownL (bookOf g (frmR ps rest)) := by
  unfold knownL
  rw [given_of, given_of, List.flatMap_def, List.flatMap_def]
  congr 1
  refine List.map_congr_left fun n hn => ?_
  rw [ansOf_book g rs n hn, t.ans n hn, ans_frm t.f hn]
theorem Told.con (t : Told g ps rest rs) (r : List Str) : conB (bookOf g rs) r = conB (bookOf g (frmR ps rest)) r := by
  rw [con_of, con_of, decide_eq_decide]
  exact t.mem r
theorem Told.pairs (t : Told g ps rest rs) : pairsL (bookOf g rs) = pairsL (bookOf g (frmR ps rest)) := by
  unfold pairsL
  rw [t.known]
  exact List.filter_congr fun p _ => t.con _
theorem Told.rules (t : Told g ps rest rs) : rulesL (bookOf g rs) = rulesL (bookOf g (frmR ps rest)) := by
  unfold rulesL
  rw [t.pairs]
  exact List.filter_congr fun r _ => t.con _
theorem Told.okp (t : Told g ps rest rs) : OkP (bookOf g rs) := ⟨t.okball, by rw [t.known]; have := known_len t.f; omega⟩
end
end Kv

set_option Elab.async false
set_option linter.all false
set_option maxRecDepth 100000
set_option maxHeartbeats 4000000
namespace Kv
open PySem PySem.Calls L2 Lk
theorem cm_isN0 {X : Cx} : Cm X .Is non non true := ⟨_, op_isN, fun x y H Q p q z => ⟨q, by rw [show x = .non from p]; exact z⟩⟩
theorem cm_isN1 {X : Cx} {l : List As} : Cm X .Is (tupA l) non false := ⟨_, op_isN, fun x y H Q p q z => ⟨q, by
  obtain ⟨a, xs, rfl, _⟩ := p
  exact z⟩⟩
def ansFor (B : Bk) (n : Str) : List Str := (ansOf B n).filter fun a => conB B ["pair", n, a]
def befR : Option Pr → List Str
  | none => ["open"]
  | some q => ["step", q.1, q.2]
def lastA : Option Pr → As
  | none => non
  | some q => prA q
def afterL (B : Bk) (last : Option Pr) (n : Str) : List Pr := ((ansFor B n).map fun a => (n, a)).filter fun p => conB B (befR last ++ [p.1, p.2])
section
variable {P : Program} {w : World} {K : PySem.W.Frag} {mg : Str → Option Value} {base : Heap} {C CM : Addr}
abbrev sAns : Stmt := (inClass (topS 37) 3)
abbrev nAns : List Str := ["self", "note", "answer"]
theorem sc_ans : FnScope nAns ["self", "note"] (defScope sAns) := ⟨rfl, rfl, rfl, by decide +kernel, rfl, by decide +kernel, by decide +kernel⟩
abbrev spAns (C CM : Addr) : Sp := spX (fun i : Bk × Str => Okb i.1 ∧ i.2 ∈ i.1.given ∧ (ansOf i.1 i.2).length ≤ 1000) (fun i => [bookA C CM i.1, str i.2]) (fun i => lstA ((ansFor i.1 i.2).map str))
theorem ok_ans {f : Addr} {fd : FuncData} (F : Fun K "answers" "Book.answers" sAns f fd) (T : BTx K C CM) (DN : Mf P w K mg base 1 C "_require_note" ["self", "note"] (spReqN C CM)) (DC : Mf P w K mg base 2 C "__contains__" ["self", "rule"] (spCon C CM)) : FnOk P w K mg base CX0 3 f fd ["self", "note"] (spAns C CM) := by
  refine fn_ok F sc_ans (fun _ _ => rfl) fun ⟨B, n⟩ cdv B0 outer sh H E hp hr => ?_
  have nd := sc_ans.nd
  obtain ⟨hB, hn, hl⟩ : Okb B ∧ n ∈ B.given ∧ (ansOf B n).length ≤ 1000 := hp
  refine ba_cons (sa_expr (ea_w (ea_methB (A := non) DN (hr.mono (show 1 ≤ 2 by decide)) T.cl (B, n) ⟨hB.len, hn⟩ rfl (ea_var 0 rfl) (by rfl) (eas_cons (ea_var 1 rfl) eas_nil) rfl)) ?_)
  refine ba_one (sa_ret (en_a (en_lc (own := [("answer", 2)]) 2 (l := ansOf B n) (enc := str) (p := fun a => conB B ["pair", n, a]) (g := str) rfl nd (ea_l (ea_getK hr (ea_ansD (ea_var 0 rfl) T) (ea_w (ea_var 1 rfl)) (ans_look B hB.len hn))) (by rw [sizeLine_eq]; omega) (blkOk_by (N := nAns) (sc := defScope sAns) (by decide +kernel)) (fun _ _ _ _ _ => pg_name nd rfl (Or.inl rfl)) (fun _ _ _ _ _ a ha => ?t1) (fun _ _ _ _ _ a ha _ => ea_var 2 rfl))))
  case t1 => exact pts_one (et_inO DC hr (B, ["pair", n, a]) hB (ea_is (ea_tup (l := [str "pair", str n, str a]) (eas_cons ea_str (eas_cons (ea_var 1 rfl) (eas_cons (ea_var 2 rfl) eas_nil))) (by show 3 ≤ sizeLine; decide)) rfl) (ea_var 0 rfl) rfl rfl rfl)
end
end Kv

set_option Elab.async false
set_option linter.all false
set_option maxRecDepth 100000
set_option maxHeartbeats 4000000
namespace Kv
open PySem PySem.Calls L2 Lk
section
variable {P : Program} {w : World} {K : PySem.W.Frag} {mg : Str → Option Value} {base : Heap} {C CM : Addr}
abbrev sAft : Stmt := (inClass (topS 37) 4)
abbrev nAft : List Str := ["self", "last", "note", "before", "pairs", "answer", "pair"]
theorem sc_aft : FnScope nAft ["self", "last", "note"] (defScope sAft) := ⟨rfl, rfl, rfl, by decide +kernel, rfl, by decide +kernel, by decide +kernel⟩
abbrev spAft (C CM : Addr) : Sp := spX (fun i : Bk × Option Pr × Str => (Okb i.1 ∧ i.2.2 ∈ i.1.given ∧ (ansOf i.1 i.2.2).length ≤ 1000) ∧ ∀ q, i.2.1 = some q → conB i.1 (pairR q) = true) (fun i => [bookA C CM i.1, lastA i.2.1, str i.2.2]) (fun i => lstA ((afterL i.1 i.2.1 i.2.2).map prA))
theorem ok_aft {f : Addr} {fd : FuncData} (F : Fun K "after" "Book.after" sAft f fd) (T : BTx K C CM) (DN : Mf P w K mg base 1 C "_require_note" ["self", "note"] (spReqN C CM)) (DP : Mf P w K mg base 3 C "_require_pair" ["self", "pair"] (spReqP C CM)) (DA : Mf P w K mg base 3 C "answers" ["self", "note"] (spAns C CM)) (DC : Mf P w K mg base 2 C "__contains__" ["self", "rule"] (spCon C CM)) : FnOk P w K mg base CX0 4 f fd ["self", "last", "note"] (spAft C CM) := by
  refine fn_ok F sc_aft (fun _ _ => rfl) fun ⟨B, last, n⟩ cdv B0 outer sh H E hp hr => ?_
  have nd := sc_aft.nd
  obtain ⟨⟨hB, hn, hl⟩, hq⟩ : (Okb B ∧ n ∈ B.given ∧ (ansOf B n).length ≤ 1000) ∧ ∀ q, last = some q → conB B (pairR q) = true := hp
  have hfl : (ansFor B n).length ≤ 1000 := Nat.le_trans (List.length_filter_le _ _) hl
  refine ba_cons (sa_expr (ea_w (ea_methB (A := non) DN (hr.mono (show 1 ≤ 3 by decide)) T.cl (B, n) ⟨hB.len, hn⟩ rfl (ea_var 0 rfl) (by rfl) (eas_cons (ea_var 2 rfl) eas_nil) rfl)) ?_)
  refine ba_cons (sa_nx (Mid := fun ρ' => ρ' = [.fr (bookA C CM B), .fr (lastA last), .fr (str n), .fr (ruleA (befR last)), .no, .no, .no]) ?_ ?_)
  · cases last with
    | none => exact sa_if (k := true) (et_cm (ea_w (ea_var 1 rfl)) (ea_w ea_non) cm_isN0 rfl) (fun _ => ba_one (sa_set 3 nd (A := ruleA (befR none)) (ea_is (ea_tup (l := [str "open"]) (eas_cons ea_str eas_nil) (by show 1 ≤ sizeLine; decide)) rfl) rfl)) (fun z => by cases z)
    | some q => exact sa_if (k := false) (et_cm (ea_w (ea_var 1 rfl)) (ea_w ea_non) cm_isN1 rfl) (fun z => by cases z) (fun _ => ba_cons (sa_expr (ea_w (ea_methB (A := non) DP hr T.cl (B, q) ⟨hB, hq q rfl⟩ rfl (ea_var 0 rfl) (by rfl) (eas_cons (ea_var 1 rfl) eas_nil) rfl)) (ba_one (sa_set 3 nd (A := ruleA (befR (some q))) (ea_is (ea_tup (l := [str "step", str q.1, str q.2]) (eas_cons ea_str (eas_star (la := [str q.1, str q.2]) (lb := []) (ea_var 1 rfl) eas_nil)) (by show 3 ≤ sizeLine; decide)) rfl) rfl))))
  rintro ρ' rfl
  have lb : (befR last).length ≤ 3 := by
    cases last with
    | none => exact (by decide : (1 : Nat) ≤ 3)
    | some q => exact Nat.le_refl 3
  refine ba_cons (sa_setLc (own := [("answer", 5)]) 4 5 (l := ansFor B n) (enc := str) (p := fun _ => true) (g := fun a => prA (n, a)) rfl nd (ea_l (ea_methB DA hr T.cl (B, n) ⟨hB, hn, hl⟩ rfl (ea_var 0 rfl) (by rfl) (eas_cons (ea_var 2 rfl) eas_nil) rfl)) (by rw [sizeLine_eq]; omega) (blkOk_by (N := nAft) (sc := defScope sAft) (by decide +kernel)) (fun _ _ _ _ _ => pg_name nd rfl (Or.inl rfl)) (fun _ _ _ _ _ _ _ => pts_yes) (fun _ _ _ _ _ a ha _ => ea_tup (eas_cons (ea_var 2 rfl) (eas_cons (ea_var 5 rfl) eas_nil)) (by show 2 ≤ sizeLine; decide)) ?_)
  rw [flt_true]
  have em : (ansFor B n).map (fun a => prA (n, a)) = ((ansFor B n).map fun a => ((n, a) : Pr)).map prA := by
    rw [List.map_map]
    rfl
  rw [em]
  refine ba_one (sa_ret (en_a (en_lc (own := [("pair", 6)]) 6 (l := (ansFor B n).map fun a => ((n, a) : Pr)) (enc := prA) (p := fun p => conB B (befR last ++ [p.1, p.2])) (g := prA) rfl nd (el_var 4 rfl) (by rw [List.length_map, sizeLine_eq]; omega) (blkOk_by (N := nAft) (sc := defScope sAft) (by decide +kernel)) (fun _ _ _ _ _ => pg_name nd rfl (Or.inl rfl)) (fun _ _ _ _ _ p hp => ?t1) (fun _ _ _ _ _ p hp _ => ea_var 6 rfl))))
  case t1 => exact pts_one (et_inO DC (hr.mono (show 2 ≤ 3 by decide)) (B, befR last ++ [p.1, p.2]) hB (ea_is (ea_tup (l := (befR last).map str ++ ([str p.1, str p.2] ++ [])) (eas_star (la := (befR last).map str) (lb := [str p.1, str p.2] ++ []) (ea_var 3 rfl) (eas_star (la := [str p.1, str p.2]) (lb := []) (ea_var 6 rfl) eas_nil)) (by rw [List.length_append, List.length_map, sizeLine_eq]; show (befR last).length + 2 ≤ _; omega)) (show tupA _ = ruleA _ by unfold ruleA; rw [List.map_append]; rfl)) (ea_var 0 rfl) rfl rfl rfl)
end
end Kv

set_option Elab.async false
set_option linter.all false
set_option maxRecDepth 100000
set_option maxHeartbeats 4000000
namespace Kv
open PySem PySem.Calls L2 Lk NdefX
/-! ### error classes with one field -/
/-- what is written of one -/
structure ExAt (P : Program) (K : PySem.W.Frag) (C : Addr) (x qual fld : Str) (st : Stmt) : Prop where
  nm : PySem.W.nsIn K mainGlobals x = some (some (.ref C))
  O : OexC K C
  no : PySem.W.findIn K (.ref C) fld = some none
  su : PySem.W.nsIn K mainGlobals "super" = some none
  ex : ∃ f cc cda fd, PySem.W.findIn K (.ref C) "__init__" = some (some (.ref f)) ∧ PySem.W.typeIn K (.ref f) = some (.type "function") ∧ ∀ mg : Str → Option Value, mg "super" = none → SupAt P K mg f cc cda C "__init__" qual (defArgs st) (defBody st) (defScope st) fd
section
variable {P : Program} {w : World} {K : PySem.W.Frag} {mg : Str → Option Value} {base h : Heap} {C CP : Addr}
theorem ex_at {x qual fld nm2 q2 fl : Str} {st : Stmt} {f cc cda N : Addr} {oc kV doc pm ct cdc ccc : Value} {od an dd cdd ccd : Option Addr} {osl cdsl ccsl : Array (Option Value)} {bs bm sub : List Value} {sn : List Str} {ab : Bool} {col : Option Bool} {k0 k1 k2 k3 k5 : Option Value} {vs : Array Value} {tf : Tok}
    (nm : PySem.W.nsIn K mainGlobals x = some (some (.ref C))) (cl : K.lookup C = some (excClassObj nm2 q2 C N bs bm true sn sub ab col dd k0 k1 k2 k3 k5 "ValueError.__new__")) (rv : PySem.HandSPX.refsVE bm = true)
    (sa : PySem.W.findIn K (.ref C) "__setattr__" = some (some (.builtin "object.__setattr__"))) (exC : PySem.W.subIn K (.ref C) (.type "BaseException") = some true) (tyC : PySem.W.typeIn K (.ref C) = some (.type "type")) (kC : PySem.W.keepIn K (.ref C) = true)
    (no : PySem.W.findIn K (.ref C) fld = some none) (su : PySem.W.nsIn K mainGlobals "super" = some none) (a : PySem.W.findIn K (.ref C) "__init__" = some (some (.ref f))) (ty : PySem.W.typeIn K (.ref f) = some (.type "function"))
    (lk : K.lookup f = some ⟨oc, od, .func (PySem.W.fnX "__init__" qual (defArgs st) (defBody st) (defScope st) [("__class__", cc)] .none kV doc pm an (.ref cda) ct), osl⟩) (cd : PySem.W.codeIn K (.ref cda) qual = true)
    (lc : K.lookup cda = some ⟨cdc, cdd, .fields vs, cdsl⟩) (v2 : vs[2]? = some (.str fl tf)) (fe : ((P.main.file : Str) == fl) = true) (ce : K.lookup cc = some ⟨ccc, ccd, .cell (some (.ref C)), ccsl⟩)
    (sub2 : PySem.W.mroIn K C (.ref C) = some true) (op : PySem.W.nsIn K cStatics "thirdparty.any" = some none) (ini : PySem.W.ks_superIn K C C "__init__" = some (some (.builtin "ValueError.__init__"))) (sve : PySem.W.subIn K (.ref C) (.type "ValueError") = some true)
    (top : (P.main.scope.names.lookup ("super" : Str)).isSome = false) : ExAt P K C x qual fld st :=
  ⟨nm, ⟨⟨_, _, _, _, _, _, _, _, _, _, _, _, _, _, _, cl, rv⟩, sa, exC, tyC, kC⟩, no, su, f, cc, cda, _, a, ty, fun mg hm =>
    ⟨⟨oc, od, kV, doc, pm, an, ct, osl, rfl, lk⟩, cd, ⟨_, _, _, _, _, _, lc, v2, fe⟩, ⟨_, _, _, ce⟩, sub2, op, ini, sve, hm, top⟩⟩
end
end Kv

set_option Elab.async false
set_option linter.all false
set_option maxRecDepth 100000
set_option maxHeartbeats 4000000
namespace Kv
open PySem PySem.Calls L2 Lk
/-! ### which pairs may follow, by a model -/
def lstOf : Option Pr → As
  | none => non
  | some q => prA q
def kLast : Option Pr → NestedKey
  | none => .none
  | some q => .tup [.text q.1, .text q.2]
def tkey (x : Option Pr × Str) : NestedKey := .tup [kLast x.1, .text x.2]
def mayB (m : Md) (x : Option Pr × Str) (p : Pr) : Bool := decide (p.1 = x.2) && match x.1 with
  | none => decide (p ∈ m.opens)
  | some q => decide ((q, p) ∈ m.steps)
def rowL (m : Md) (x : Option Pr × Str) : List Pr := m.pairs.filter (mayB m x)
def lastsL (m : Md) : List (Option Pr) := none :: m.pairs.map some
def tblF (m : Md) (xs : List (Option Pr × Str)) : List (NestedKey × As) := xs.foldl (fun l x => putN l (tkey x) (prsA (rowL m x))) []
def allX (m : Md) : List (Option Pr × Str) := m.names.flatMap fun n => (lastsL m).map fun l => (l, n)
abbrev tblA (w : World) (m : Md) : As := ndA w (tblF m (allX m))
theorem kLast_inj {a b : Option Pr} (h : kLast a = kLast b) : a = b := by
  cases a with
  | none => cases b with
    | none => rfl
    | some q => exact NestedKey.noConfusion h
  | some p => cases b with
    | none => exact NestedKey.noConfusion h
    | some q =>
      have h2 : p.1 = q.1 ∧ p.2 = q.2 := by simpa [kLast] using h
      rw [Prod.ext h2.1 h2.2]
theorem tkey_inj {a b : Option Pr × Str} (h : tkey a = tkey b) : a = b := by
  have h2 : kLast a.1 = kLast b.1 ∧ a.2 = b.2 := by simpa [tkey] using h
  exact Prod.ext (kLast_inj h2.1) h2.2
theorem look_mod {α : Type} (a : α) (k k' : NestedKey) : ∀ (l : List (NestedKey × α)) (i : Nat), (l.findIdx? fun x => decide (x.1 = k)) = some i → lookN (l.modify i fun x => (x.1, a)) k' = if k' = k then some a else lookN l k'
  | [], i, h => by simp at h
  | x :: l, i, h => by
    rw [List.findIdx?_cons] at h
    cases c : decide (x.1 = k) with
    | true =>
      rw [c] at h
      have h : 0 = i := by simpa using h
      subst h
      have c : x.1 = k := of_decide_eq_true c
      unfold lookN
      by_cases e : k' = k
      · rw [if_pos e]
        simp [c, e]
      · rw [if_neg e]
        have n : ¬ x.1 = k' := fun z => e (z.symm.trans c)
        simp [n]
    | false =>
      rw [c] at h
      cases z : l.findIdx? fun x => decide (x.1 = k) with
      | none => rw [z] at h; simp at h
      | some j =>
        rw [z] at h
        have h : j + 1 = i := by simpa using h
        subst h
        have ih := look_mod a k k' l j z
        have c : ¬ x.1 = k := of_decide_eq_false c
        by_cases e : x.1 = k'
        · have n : ¬ k' = k := fun y => c (e.trans y)
          rw [if_neg n]
          unfold lookN
          simp [e]
        · have u : lookN ((x :: l).modify (j + 1) fun x => (x.1, a)) k' = lookN (l.modify j fun x => (x.1, a)) k' := by
            unfold lookN
            simp [e]
          have v : lookN (x :: l) k' = lookN l k' := by
            unfold lookN
            simp [e]
          rw [u, v]
          exact ih
theorem look_put {α : Type} (l : List (NestedKey × α)) (k k' : NestedKey) (a : α) : lookN (putN l k a) k' = if k' = k then some a else lookN l k' := by
  unfold putN
  cases z : l.findIdx? fun x => decide (x.1 = k) with
  | some i => exact look_mod a k k' l i z
  | none =>
    show lookN (l ++ [(k, a)]) k' = _
    have nk : ∀ x ∈ l, ¬ x.1 = k := fun x hx => by simpa using List.findIdx?_eq_none_iff.mp z x hx
    unfold lookN
    rw [List.find?_append]
    by_cases e : k' = k
    · rw [if_pos e, e]
      have : (l.find? fun x => decide (x.1 = k)) = none := by
        rw [List.find?_eq_none]
        intro x hx
        simpa using nk x hx
      rw [this]
      simp
    · rw [if_neg e]
      cases f : l.find? fun x => decide (x.1 = k') with
      | some y => simp
      | none =>
        have : ¬ k = k' := fun y => e y.symm
        simp [this]
theorem tbl_look (m : Md) : ∀ (xs : List (Option Pr × Str)) (l : List (NestedKey × As)) (x : Option Pr × Str), (x ∈ xs ∨ lookN l (tkey x) = some (prsA (rowL m x))) → lookN (xs.foldl (fun l x => putN l (tkey x) (prsA (rowL m x))) l) (tkey x) = some (prsA (rowL m x))
  | [], l, x, h => by
    rcases h with h | h
    · simp at h
    · exact h
  | y :: xs, l, x, h => by
    rw [List.foldl_cons]
    refine tbl_look m xs _ x ?_
    by_cases e : x = y
    · refine .inr ?_
      rw [look_put, e, if_pos rfl]
    · rcases h with h | h
      · exact .inl ((List.mem_cons.mp h).resolve_left e)
      · refine .inr ?_
        rw [look_put, if_neg (fun z => e (tkey_inj z))]
        exact h
theorem tbl_get {m : Md} {last : Option Pr} {n : Str} (hl : last ∈ lastsL m) (hn : n ∈ m.names) : lookN (tblF m (allX m)) (tkey (last, n)) = some (prsA (rowL m (last, n))) :=
  tbl_look m _ _ _ (.inl (List.mem_flatMap.mpr ⟨n, hn, List.mem_map.mpr ⟨last, hl, rfl⟩⟩))
theorem tbl_len (m : Md) : ∀ (xs : List (Option Pr × Str)) (l : List (NestedKey × As)), (xs.foldl (fun l x => putN l (tkey x) (prsA (rowL m x))) l).length ≤ l.length + xs.length
  | [], l => Nat.le_refl _
  | y :: xs, l => by
    have h1 := tbl_len m xs (putN l (tkey y) (prsA (rowL m y)))
    have h2 := putN_len l (tkey y) (prsA (rowL m y))
    rw [List.foldl_cons, List.length_cons]
    omega
theorem tup2_imp {A B A' B' : As} (h1 : ∀ F v, A.p F v → A'.p F v) (h2 : ∀ F v, B.p F v → B'.p F v) : ∀ F v, (tupA [A, B]).p F v → (tupA [A', B']).p F v := fun F v ⟨a, xs, e, z1, z2⟩ => by
  match xs, z2 with
  | [x, y], ⟨k1, k2, _⟩ => exact ⟨a, [x, y], e, z1, h1 F x k1, h2 F y k2, trivial⟩
theorem nk_pr (q : Pr) : ∀ F v, (prA q).p F v → (nkA (.tup [.text q.1, .text q.2])).p F v := fun F v h => nk_tup (ks := [.text q.1, .text q.2]) (by simp [NestedKey.depthAll, NestedKey.depth]) (tup2_imp (fun _ _ => nk_str) (fun _ _ => nk_str) F v h)
theorem nk_last (l : Option Pr) : ∀ F v, (lstOf l).p F v → (nkA (kLast l)).p F v := fun F v h => by
  cases l with
  | none => exact nk_non h
  | some q => exact nk_pr q F v h
theorem kl_depth (l : Option Pr) : (kLast l).depth ≤ 1 := by
  cases l with
  | none => exact Nat.zero_le _
  | some q => exact (by decide : (1 : Nat) ≤ 1)
theorem nk_key (l : Option Pr) (n : Str) : ∀ F v, (tupA [lstOf l, str n]).p F v → (nkA (tkey (l, n))).p F v := fun F v h => nk_tup (ks := [kLast l, .text n]) (by
  have := kl_depth l
  simp only [NestedKey.depthAll, NestedKey.depth]
  omega) (tup2_imp (nk_last l) (fun _ _ => nk_str) F v h)
/-- what the table asks of a model -/
structure Wm (m : Md) : Prop where
  nl : m.names.length ≤ 100
  pl : m.pairs.length ≤ 100
  po : okL okPr m.pairs
  oo : okL okPr m.opens
  so : ∀ s ∈ m.steps, okPr s.1 ∧ okPr s.2
theorem prod_ok {m : Md} (g : Good m) : ∀ s ∈ m.steps, s.1 ∈ m.pairs ∧ s.2 ∈ m.pairs := fun s hs => by
  have h := g.st.subset hs
  unfold prod at h
  obtain ⟨a, ha, hb⟩ := List.mem_flatMap.mp h
  obtain ⟨b, hb2, rfl⟩ := List.mem_map.mp hb
  exact ⟨ha, hb2⟩
theorem wm_good {m : Md} (g : Good m) : Wm m := ⟨by have := g.nl; omega, by have := g.pl; omega, fun p hp => g.okp hp, fun p hp => g.okp (g.op.subset hp), fun s hs => ⟨g.okp (prod_ok g s hs).1, g.okp (prod_ok g s hs).2⟩⟩
theorem enc_step {K : PySem.W.Frag} : Enc K 2 stA (fun s : Pr × Pr => okPr s.1 ∧ okPr s.2) := enc_two enc_pr enc_pr
theorem lasts_as (m : Md) : [non] ++ m.pairs.map prA = (lastsL m).map lstOf := by
  unfold lastsL
  rw [List.map_cons, List.map_map]
  rfl
theorem isN0 {X : Cx} : Cm X .Is non non true := ⟨_, op_isN, fun x y H Q p q z => ⟨q, by rw [show x = .non from p]; exact z⟩⟩
theorem isN1 {X : Cx} {l : List As} : Cm X .Is (tupA l) non false := ⟨_, op_isN, fun x y H Q p q z => ⟨q, by
  obtain ⟨a, xs, rfl, _⟩ := p
  exact z⟩⟩
end Kv

set_option Elab.async false
set_option linter.all false
set_option maxRecDepth 100000
set_option maxHeartbeats 4000000
namespace Kv
open PySem PySem.Calls L2 Lk
section
variable {P : Program} {w : World} {K : PySem.W.Frag} {mg : Str → Option Value} {base : Heap}
abbrev sTbl : Stmt := (topS 47)
abbrev nTbl : List Str := ["_law_model", "_law_table_here", "_law_note", "_law_last", "_law_row", "_law_pair"]
theorem sc_tbl : FnScope nTbl ["_law_model"] (defScope sTbl) := ⟨rfl, rfl, rfl, by decide +kernel, rfl, by decide +kernel, by decide +kernel⟩
abbrev spTbl (w : World) : Sp := spX (fun m : Md => Wm m) (fun m => [mdA m]) (fun m => tblA w m)
theorem ok_tbl {f : Addr} {fd : FuncData} (F : Fun K "_law_table" "_law_table" sTbl f fd) : FnOk P w K mg base CX0 1 f fd ["_law_model"] (spTbl w) := by
  refine fn_ok F sc_tbl (fun _ _ => rfl) fun m cdv B0 outer s H E g hr => ?_
  have nd := sc_tbl.nd
  have g : Wm m := g
  have pl := g.pl
  let ρt (l : List (NestedKey × As)) : List En := [.fr (mdA m), .ow (ndOb w l), .no, .no, .no, .no]
  refine ba_cons (sa_newD 1 nd ?_)
  refine ba_cons (sa_for (l := m.names.map str) 2 (fun i ρ' => ρ' = ρt (tblF m ((m.names.take i).flatMap fun n => (lastsL m).map fun l => (l, n)))) PassesOwn.never rfl nd (ea_ixL (ea_l (ea_var 0 rfl)) (ea_w ea_int) rfl (j := 0) rfl) ⟨_, rfl, .same (.same (.no (.no (.no (.no .nil)))))⟩ ?hs ?hd)
  case hd =>
    rintro ρ' rfl
    rw [List.length_map, List.take_length]
    exact ba_freeD (i := 1) rfl (ba_one (sa_ret (ea_var 1 rfl)))
  case hs =>
    rintro i A ρ' hi rfl
    rw [List.getElem?_map] at hi
    cases e : m.names[i]? with
    | none => rw [e] at hi; cases hi
    | some n =>
      rw [e] at hi
      have hi : str n = A := by simpa using hi
      subst hi
      have il : i < m.names.length := (List.getElem?_eq_some_iff.mp e).1
      have nl := g.nl
      generalize hX : ((m.names.take i).flatMap fun n => (lastsL m).map fun l => (l, n)) = xs
      have xl : xs.length ≤ 100 * 101 := by
        rw [← hX, List.length_flatMap]
        have h1 : ((m.names.take i).map fun n => ((lastsL m).map fun l => (l, n)).length) = (m.names.take i).map fun _ => m.pairs.length + 1 := List.map_congr_left fun a _ => by
          rw [List.length_map]
          simp [lastsL]
        rw [h1, List.map_const', List.sum_replicate_nat]
        have h2 : (m.names.take i).length ≤ 100 := by rw [List.length_take]; omega
        exact Nat.mul_le_mul h2 (by omega)
      have tk : ((m.names.take (i + 1)).flatMap fun n => (lastsL m).map fun l => (l, n)) = xs ++ (lastsL m).map fun l => (l, n) := by
        rw [List.take_add_one, e, ← hX]
        simp
      rw [tk]
      let ρn (l : List (NestedKey × As)) : List En := [.fr (mdA m), .ow (ndOb w l), .fr (str n), .no, .no, .no]
      refine ba_one (sa_for (l := (lastsL m).map lstOf) 3 (fun j ρ' => ρ' = ρn (tblF m (xs ++ ((lastsL m).take j).map fun l => (l, n)))) PassesOwn.never rfl nd (ea_is (en_a (en_cat (l := [non]) (m := m.pairs.map prA) (en_l (en_lst (eas_cons ea_non eas_nil) (by decide))) (ea_l (ea_ixL (ea_l (ea_var 0 rfl)) (ea_w ea_int) rfl (j := 1) rfl)) (by rw [List.length_map, sizeLine_eq]; show 1 + _ ≤ _; omega))) (by rw [lasts_as])) ⟨_, rfl, ?hle⟩ ?hs2 ?hd2)
      case hle => exact (List.append_nil xs).symm ▸ .same (.same (.same (.no (.no (.no .nil)))))
      case hd2 =>
        rintro ρ' rfl
        refine ⟨_, rfl, ?_⟩
        rw [List.length_map, List.take_length]
        exact .same (.same (.no (.no (.no (.no .nil)))))
      case hs2 =>
        rintro j A ρ' hj rfl
        rw [List.getElem?_map] at hj
        cases e2 : (lastsL m)[j]? with
        | none => rw [e2] at hj; cases hj
        | some last =>
          rw [e2] at hj
          have hj : lstOf last = A := by simpa using hj
          subst hj
          have jl : j < (lastsL m).length := (List.getElem?_eq_some_iff.mp e2).1
          have ll : (lastsL m).length ≤ 101 := by show (none :: m.pairs.map some).length ≤ 101; rw [List.length_cons, List.length_map]; omega
          have tk2 : xs ++ ((lastsL m).take (j + 1)).map (fun l => (l, n)) = (xs ++ ((lastsL m).take j).map fun l => (l, n)) ++ [(last, n)] := by
            rw [List.take_add_one, e2]
            simp
          rw [tk2]
          generalize hY : xs ++ ((lastsL m).take j).map (fun l => (l, n)) = ys
          have yl : ys.length ≤ 20000 := by
            rw [← hY, List.length_append, List.length_map, List.length_take]
            omega
          have tsn : tblF m (ys ++ [(last, n)]) = putN (tblF m ys) (tkey (last, n)) (prsA (rowL m (last, n))) := by
            unfold tblF
            rw [List.foldl_append]
            rfl
          rw [tsn]
          have tl : (tblF m ys).length < sizeLine := by
            have := tbl_len m ys []
            rw [sizeLine_eq]
            show (ys.foldl _ []).length < _
            simp only [List.length_nil] at this
            omega
          generalize tblF m ys = tb at tl
          refine ba_cons (sa_setN 4 nd (en_lst eas_nil (Nat.zero_le _)) ?_)
          let ρr (r : List Pr) : List En := [.fr (mdA m), .ow (ndOb w tb), .fr (str n), .fr (lstOf last), .own (r.map prA), .no]
          refine ba_cons (sa_for (l := m.pairs.map prA) 5 (fun k ρ' => ρ' = ρr ((m.pairs.take k).filter (mayB m (last, n)))) PassesOwn.never rfl nd (ea_ixL (ea_l (ea_var 0 rfl)) (ea_w ea_int) rfl (j := 1) rfl) ⟨_, rfl, Le.refl _⟩ ?hs3 ?hd3)
          case hd3 =>
            rintro ρ' rfl
            rw [List.length_map, List.take_length]
            refine ba_free (i := 4) rfl (ba_one (sa_putD 1 hr rfl (ea_var 4 rfl) (pe_own 1) (ea_imp (ea_tup (l := [lstOf last, str n]) (eas_cons (ea_var 3 rfl) (eas_cons (ea_var 2 rfl) eas_nil)) (by show 2 ≤ sizeLine; decide)) (nk_key last n)) fdT tl ⟨_, rfl, .same (.same (.same (.no (.no (.no .nil)))))⟩))
          case hs3 =>
            rintro k A ρ' hk rfl
            rw [List.getElem?_map] at hk
            cases e3 : m.pairs[k]? with
            | none => rw [e3] at hk; cases hk
            | some p =>
              rw [e3] at hk
              have hk : prA p = A := by simpa using hk
              subst hk
              have kl : k < m.pairs.length := (List.getElem?_eq_some_iff.mp e3).1
              have hp := List.mem_of_getElem? e3
              have fl := List.length_filter_le (mayB m (last, n)) (m.pairs.take k)
              rw [List.length_take] at fl
              have tk3 : (m.pairs.take (k + 1)).filter (mayB m (last, n)) = (m.pairs.take k).filter (mayB m (last, n)) ++ (if mayB m (last, n) p = true then [p] else []) := by
                rw [List.take_add_one, e3, List.filter_append]
                congr 1
                by_cases c : mayB m (last, n) p = true
                · rw [if_pos c]; simp [c]
                · rw [if_neg c]; simp [c]
              rw [tk3]
              generalize (m.pairs.take k).filter (mayB m (last, n)) = rr at fl
              have appL : mayB m (last, n) p = true → ∃ ρ3, ρ3 = ρr (rr ++ if mayB m (last, n) p = true then [p] else []) ∧ Le ρ3 (((ρr rr).set 5 (.fr (prA p))).set 4 (.own (rr.map prA ++ [prA p]))) := fun c => ⟨_, rfl, by rw [if_pos c]; show Le [_, _, _, _, En.own ((rr ++ [p]).map prA), _] _; rw [List.map_append]; exact .same (.same (.same (.same (.same (.no .nil)))))⟩
              have skip : mayB m (last, n) p = false → ∃ ρ3, ρ3 = ρr (rr ++ if mayB m (last, n) p = true then [p] else []) ∧ Le ρ3 ((ρr rr).set 5 (.fr (prA p))) := fun c => ⟨_, rfl, by rw [if_neg (by rw [c]; exact Bool.false_ne_true), List.append_nil]; exact .same (.same (.same (.same (.same (.no .nil)))))⟩
              refine ba_one (sa_if (et_cm (ea_w (ea_ixT (ea_var 5 rfl) (ea_w ea_int) rfl (j := 0) rfl)) (ea_w (ea_var 2 rfl)) cm_eqS rfl) (fun z => ?_) (fun z => ba_nil (skip (by unfold mayB; rw [z]; rfl))))
              cases last with
              | none =>
                refine ba_one (sa_if (k := true) (et_cm (ea_w (ea_var 3 rfl)) (ea_w ea_non) isN0 rfl) (fun _ => ?_) (fun c => by cases c))
                refine ba_one (sa_if (et_cm (ea_w (ea_var 5 rfl)) (ea_w (ea_ixL (ea_l (ea_var 0 rfl)) (ea_w ea_int) rfl (j := 2) rfl)) (cm_inD hr enc_pr (g.po p hp) g.oo) rfl) (fun c => ba_one (sa_app 4 rfl (pe_app 4 (ea_var 5 rfl)) (by rw [List.length_map, sizeLine_eq]; omega) (appL (by unfold mayB; rw [z]; exact c)))) (fun c => ba_nil (skip (by unfold mayB; rw [z]; exact c))))
              | some q =>
                have hq : q ∈ m.pairs := by
                  have h := List.mem_of_getElem? e2
                  unfold lastsL at h
                  simpa using h
                refine ba_one (sa_if (k := false) (et_cm (ea_w (ea_var 3 rfl)) (ea_w ea_non) isN1 rfl) (fun c => by cases c) (fun _ => ?_))
                refine ba_one (sa_if (et_cm (ea_w (ea_tup (l := [prA q, prA p]) (eas_cons (ea_var 3 rfl) (eas_cons (ea_var 5 rfl) eas_nil)) (by show 2 ≤ sizeLine; decide))) (ea_w (ea_ixL (ea_l (ea_var 0 rfl)) (ea_w ea_int) rfl (j := 4) rfl)) (cm_inD (f := stA) (a := (q, p)) hr enc_step ⟨g.po q hq, g.po p hp⟩ g.so) rfl) (fun c => ba_one (sa_app 4 rfl (pe_app 4 (ea_var 5 rfl)) (by rw [List.length_map, sizeLine_eq]; omega) (appL (by unfold mayB; rw [z]; exact c)))) (fun c => ba_nil (skip (by unfold mayB; rw [z]; exact c))))
end
end Kv

set_option Elab.async false
set_option linter.all false
set_option maxRecDepth 100000
set_option maxHeartbeats 4000000
namespace Kv
open PySem PySem.Calls L2 Lk
/-! ### a book that keeps a model -/
structure KB (B : Bk) (m : Md) : Prop where
  k : OkP B
  g : B.given = m.names
  p : pairsL B = m.pairs
  r : rulesL B = rulesOf m
theorem nl_pr {p : Pr} : NoLst (prA p) := nl_tup fun A hA => by
  have hA : A = str p.1 ∨ A = str p.2 := by simpa using hA
  rcases hA with h | h <;> (rw [h]; exact nl_sc)
theorem nl_rule {r : List Str} : NoLst (ruleA r) := nl_tup fun A hA => by
  obtain ⟨s, _, rfl⟩ := List.mem_map.mp hA
  exact nl_sc
theorem nl_prs {l : List Pr} : ∀ A ∈ l.map prA, NoLst A := fun A hA => by
  obtain ⟨s, _, rfl⟩ := List.mem_map.mp hA
  exact nl_pr
theorem nl_rules {l : List (List Str)} : ∀ A ∈ l.map ruleA, NoLst A := fun A hA => by
  obtain ⟨s, _, rfl⟩ := List.mem_map.mp hA
  exact nl_rule
theorem nl_strs {l : List Str} : ∀ A ∈ l.map str, NoLst A := fun A hA => by
  obtain ⟨s, _, rfl⟩ := List.mem_map.mp hA
  exact nl_sc
theorem pairs_flat (B : Bk) : pairsL B = B.given.flatMap fun n => (ansFor B n).map fun a => (n, a) := by
  unfold pairsL knownL ansFor
  rw [List.filter_flatMap]
  congr 1
  funext n
  rw [List.filter_map]
  rfl
theorem flat_one {f : Str → List Str} {n : Str} : ∀ {g : List Str}, g.Nodup → n ∈ g → ((g.flatMap fun n => (f n).map fun a => (n, a)).filter fun p : Pr => decide (p.1 = n)).map (·.2) = f n
  | [], _, h => by simp at h
  | x :: g, nd, h => by
    obtain ⟨d1, d2⟩ := List.nodup_cons.mp nd
    rw [List.flatMap_cons, List.filter_append, List.map_append]
    have none : ∀ (y : Str) (l : List Str), y ≠ n → ((l.map fun a => (y, a)).filter fun p : Pr => decide (p.1 = n)) = [] := fun y l hy => by
      rw [List.filter_eq_nil_iff]
      intro p hp
      obtain ⟨a, _, rfl⟩ := List.mem_map.mp hp
      simp [hy]
    by_cases e : x = n
    · subst e
      have h1 : ((f x).map fun a => (x, a)).filter (fun p : Pr => decide (p.1 = x)) = (f x).map fun a => (x, a) := List.filter_eq_self.mpr fun p hp => by
        obtain ⟨a, _, rfl⟩ := List.mem_map.mp hp
        simp
      have h2 : (g.flatMap fun n => (f n).map fun a => (n, a)).filter (fun p : Pr => decide (p.1 = x)) = [] := by
        rw [List.filter_eq_nil_iff]
        intro p hp
        obtain ⟨y, hy, hp⟩ := List.mem_flatMap.mp hp
        obtain ⟨a, _, rfl⟩ := List.mem_map.mp hp
        have : y ≠ x := fun z => d1 (z ▸ hy)
        simp [this]
      rw [h1, h2, List.map_map, List.map_nil, List.append_nil]
      exact (List.map_congr_left fun a _ => rfl).trans (List.map_id (f x))
    · rw [none x (f x) e, List.map_nil, List.nil_append]
      exact flat_one d2 ((List.mem_cons.mp h).resolve_left fun z => e z.symm)
theorem KB.ans {B : Bk} {m : Md} (k : KB B m) (g : Good m) {n : Str} (hn : n ∈ m.names) : ansFor B n = (m.pairs.filter fun p => decide (p.1 = n)).map (·.2) := by
  rw [← k.p, pairs_flat, k.g]
  exact (flat_one g.nn hn).symm
theorem KB.alen {B : Bk} {m : Md} (k : KB B m) {n : Str} (hn : n ∈ B.given) : (ansOf B n).length ≤ 1000 := by
  have h := k.k.2
  have e : (ansOf B n).length ≤ (knownL B).length := by
    unfold knownL
    obtain ⟨s, t, est⟩ := List.append_of_mem hn
    rw [est, List.flatMap_append, List.flatMap_cons, List.length_append, List.length_append, List.length_map]
    omega
  omega
/-! ### after, by the table -/
theorem after_row {B : Bk} {m : Md} (kb : KB B m) (g : Good m) (hB : ∀ r, conB B r = decide (r ∈ rulesOf m)) {last : Option Pr} {n : Str} (hn : n ∈ m.names) : afterL B last n = rowL m (last, n) := by
  unfold afterL rowL
  rw [kb.ans g hn]
  have e : ((m.pairs.filter fun p => decide (p.1 = n)).map (·.2)).map (fun a => ((n, a) : Pr)) = m.pairs.filter fun p => decide (p.1 = n) := by
    rw [List.map_map]
    refine (List.map_congr_left fun p hp => ?_).trans (List.map_id _)
    have h := (List.mem_filter.mp hp).2
    have h : p.1 = n := of_decide_eq_true h
    show (n, p.2) = p
    rw [← h]
  rw [e, List.filter_filter]
  refine List.filter_congr fun p hp => ?_
  unfold mayB
  rw [Bool.and_comm]
  congr 1
  rw [hB]
  cases last with
  | none => exact decide_eq_decide.mpr (mem_opens g hp)
  | some q => exact decide_eq_decide.mpr (mem_steps g (s := (q, p)))
end Kv

set_option Elab.async false
set_option linter.all false
set_option maxRecDepth 100000
set_option maxHeartbeats 4000000
namespace Kv
open PySem PySem.Calls L2 Lk NdefX
section
variable {P : Program} {w : World} {K : PySem.W.Frag} {mg : Str → Option Value} {base h : Heap} {C CM CU CB CV : Addr}
/-! ### UnknownNote -/
abbrev sUnn : Stmt := (inClass (topS 6) 0)
theorem sc_unn : NScope ["self", "note", "__class__"] ["self", "note"] ["__class__"] (defScope sUnn) := ⟨rfl, rfl, rfl, by decide +kernel, rfl, by decide +kernel, by decide +kernel, by decide +kernel, by decide +kernel⟩
abbrev EUn (P : Program) (w : World) (K : PySem.W.Frag) (mg : Str → Option Value) (base : Heap) (CU : Addr) : Prop := Er1 P w K mg base 1 "UnknownNote" CU "note" Note str str
theorem note_cps {s : Str} (h : Note s) : (∀ c ∈ s.cps.toList, c < 16 ^ 8) ∧ s.length ≤ 100000 := by
  obtain ⟨l, rfl, _, h1, h2⟩ := h
  have e : (S l).cps.toList = l := by simp [S]
  refine ⟨fun c hc => ?_, ?_⟩
  · rw [e] at hc
    have q := h2 c hc
    unfold alnum at q
    simp only [Bool.or_eq_true, Bool.and_eq_true, decide_eq_true_eq] at q
    have : (16 : Nat) ^ 8 = 4294967296 := by decide
    omega
  · show (S l).cps.size ≤ 100000
    have e2 : (S l).cps.size = l.length := by simp [S]
    omega
theorem er_unn (E : ExAt P K CU "UnknownNote" "UnknownNote.__init__" "note" sUnn) (X : K.In h) (G : h.Ns mainGlobals mg) : EUn P w K mg base CU := by
  obtain ⟨f, cc, cda, fd, a, ty, T⟩ := E.ex
  have T := T mg (PySem.W.mg_none_of X G E.su)
  refine ⟨PySem.W.mg_of X G E.nm, E.O, f, fd, "self", "note", a, ty, ?_, ?_⟩
  · refine ok_excI (nf := ⟨"__init__", "UnknownNote.__init__", defArgs sUnn, defBody sUnn, defScope sUnn, [("__class__", cc)], cda⟩) rfl T E.O E.no sc_unn (by decide +kernel) rfl rfl rfl (fun _ => rfl) (fun _ => rfl) (fun _ => ⟨_, rfl⟩) (fun _ => rfl) (fun _ => rfl) rfl rfl ?_ ?_
    · intro i a A outer s H E hi hr
      obtain ⟨h1, h2⟩ := note_cps hi
      exact ea_fsS (ea_w (ea_var 1 rfl)) h1 h2 (by decide)
    · intro i a A outer s H E hi hr
      exact ea_var 1 rfl
  · obtain ⟨oc, od, kV, doc, pm, an, ct, osl, rfl, lk⟩ := T.lk
    intro s us I hl
    match us, hl with
    | [_, _], _ => exact .of_eq rfl
/-! ### _require_note, answers: a note that is not given -/
abbrev erUn (CU : Addr) (n : Str) : ErP := erX CU [("note", str n)]
def ocUn (CU : Addr) (n : Str) : Oc := .exc (erUn CU n)
abbrev preUn (i : Bk × Str) : Prop := i.1.ans.length = i.1.given.length ∧ i.2 ∉ i.1.given ∧ Note i.2
abbrev spReqX (C CM CU : Addr) : Sp := spO preUn (fun i : Bk × Str => [bookA C CM i.1, str i.2]) (fun i => ocUn CU i.2)
theorem ans_hasnt (B : Bk) (h : B.ans.length = B.given.length) {n : Str} (hn : n ∉ B.given) : ((ansL B).lookup n).isSome = false := by
  unfold ansL
  obtain ⟨g, an, mk⟩ := B
  simp only at h hn ⊢
  clear mk
  induction g generalizing an with
  | nil => simp
  | cons x g ih =>
    cases an with
    | nil => simp at h
    | cons a an =>
      have hx : (n == x) = false := by
        have : n ≠ x := fun z => hn (by rw [z]; exact List.mem_cons_self)
        simpa using this
      simp only [List.map_cons, List.zip_cons_cons, List.lookup, hx]
      exact ih an (by simpa using h) fun z => hn (List.mem_cons_of_mem _ z)
theorem ok_reqX {f : Addr} {fd : FuncData} (F : Fun K "_require_note" "Book._require_note" sReqN f fd) (T : BTx K C CM) (TE : EUn P w K mg base CU) : FnOk P w K mg base (L2.CX P w) 3 f fd ["self", "note"] (spReqX C CM CU) := by
  refine fn_okX F sc_reqN (fun _ _ => rfl) fun ⟨B, n⟩ cdv B0 outer s H E ⟨hl, hn, hN⟩ hr tk po => ?_
  have hl : B.ans.length = B.given.length := hl
  have hn : n ∉ B.given := hn
  have hN : Note n := hN
  refine ba_one (sa_if (et_notinK hr (ea_w (ea_var 1 rfl)) (ea_ansD (ea_var 0 rfl) T) rfl) (fun z => ?_) (fun z => ?_))
  · exact ba_one (sa_raise1 TE rfl hr tk n hN (ea_var 1 rfl) fun F cls d he => he)
  · rw [ans_hasnt B hl hn] at z
    cases z
abbrev spAnsX (C CM CU : Addr) : Sp := spO preUn (fun i : Bk × Str => [bookA C CM i.1, str i.2]) (fun i => ocUn CU i.2)
theorem ok_ansX {f : Addr} {fd : FuncData} (F : Fun K "answers" "Book.answers" sAns f fd) (T : BTx K C CM) (DN : MfX P w K mg base 3 C "_require_note" ["self", "note"] (spReqX C CM CU)) : FnOk P w K mg base (L2.CX P w) 4 f fd ["self", "note"] (spAnsX C CM CU) := by
  refine fn_okX F sc_ans (fun _ _ => rfl) fun ⟨B, n⟩ cdv B0 outer s H E hp hr tk po => ?_
  refine ba_cons (sa_exprX (o1 := ocUn CU n) (ex_meth DN hr tk T.cl (B, n) hp (ea_var 0 rfl) (by rfl) (eas_cons (ea_var 1 rfl) eas_nil) rfl) (fun F cls d he => he) (fun ⟨F, v, hv⟩ => hv.elim))
/-- what a caught UnknownNote is asked -/
structure ErU (K : PySem.W.Frag) (mg : Str → Option Value) (CU CB CV : Addr) : Prop where
  C : ExcC K CU
  nm : mg "UnknownNote" = some (.ref CU)
  ex : PySem.W.exmOne K (.ref CU) (.ref CU) = some true
  no : PySem.W.findIn K (.ref CU) "note" = some none
  gV : mg "VoiceError" = some (.ref CV)
  kV : PySem.W.kitOne K (.ref CU) (.ref CV) = some true
  mE : mg "ValueError" = none
  kE : PySem.W.kitOne K (.ref CU) (.type "ValueError") = some true
  gB : mg "BadName" = some (.ref CB)
  kB : PySem.W.kitOne K (.ref CU) (.ref CB) = some false
  mI : mg "isinstance" = none
theorem bo_ve : bootBuiltins ("ValueError" : Str) = some (.type "ValueError") := by decide +kernel
end
end Kv

set_option Elab.async false
set_option linter.all false
set_option maxRecDepth 100000
set_option maxHeartbeats 4000000
namespace Kv
open PySem PySem.Calls L2 Lk
/-! ### a book and the model of what it has in force -/
structure Pm (B : Bk) (m : Md) : Prop where
  ok : OkP B
  g : B.given = m.names
  p : pairsL B = m.pairs
  af : ∀ last n, n ∈ m.names → last ∈ lastsL m → afterL B last n = rowL m (last, n)
  cl : ∀ q ∈ m.pairs, conB B ["close", q.1, q.2] = decide (q ∈ m.closes)
  wm : Wm m
  nd : m.pairs.Nodup
  nn : m.names.Nodup
theorem pm_model {B : Bk} {m : Md} (kb : KB B m) (g : Good m) (hB : ∀ r, conB B r = decide (r ∈ rulesOf m)) : Pm B m :=
  ⟨kb.k, kb.g, kb.p, fun last n hn _ => after_row kb g hB hn, fun q hq => by rw [hB]; exact decide_eq_decide.mpr (mem_closes g hq), wm_good g, g.pnd, g.nn⟩
theorem Pm.inf {B : Bk} {m : Md} (h : Pm B m) {q : Pr} (hq : q ∈ m.pairs) : conB B (pairR q) = true := by
  rw [← h.p] at hq
  exact (List.mem_filter.mp hq).2
theorem Pm.alen {B : Bk} {m : Md} (h : Pm B m) {n : Str} (hn : n ∈ B.given) : (ansOf B n).length ≤ 1000 := by
  have h2 := h.ok.2
  have e : (ansOf B n).length ≤ (knownL B).length := by
    unfold knownL
    obtain ⟨s, t, est⟩ := List.append_of_mem hn
    rw [est, List.flatMap_append, List.flatMap_cons, List.length_append, List.length_append, List.length_map]
    omega
  omega
/-- the number of a place -/
def plOf (m : Md) (p : Pr) : Nat := m.pairs.idxOf p + 1
def szOf (m : Md) : Nat := m.pairs.length + 1
theorem plOf_lt {m : Md} {p : Pr} (h : p ∈ m.pairs) : plOf m p < szOf m := by
  unfold plOf szOf
  have := List.idxOf_lt_length_of_mem h
  omega
theorem lasts_len (m : Md) : (lastsL m).length = szOf m := by
  unfold lastsL szOf
  rw [List.length_cons, List.length_map]
/-- the rows of a note's relation -/
def rowN (m : Md) (n : Str) (last : Option Pr) : List Nat := (rowL m (last, n)).map (plOf m)
def stepT (m : Md) (n : Str) (p q : Nat) : Bool := decide (q ∈ rowN m n ((lastsL m).getD p none))
def numsL (m : Md) : List (NestedKey × As) := dnA (enumL (lastsL m)) (fun x => kLast x.2) (fun x => nat x.1)
theorem dn_look {α : Type} {kf : α → NestedKey} {gv : α → As} {a : α} (inj : ∀ x y, kf x = kf y → gv x = gv y) : ∀ (l : List α) (acc : List (NestedKey × As)), (a ∈ l ∨ lookN acc (kf a) = some (gv a)) → lookN (l.foldl (fun acc a => putN acc (kf a) (gv a)) acc) (kf a) = some (gv a)
  | [], acc, h => h.resolve_left (by simp)
  | x :: l, acc, h => by
    rw [List.foldl_cons]
    refine dn_look inj l _ ?_
    by_cases e : kf a = kf x
    · refine .inr ?_
      rw [look_put, if_pos e, inj a x e]
    · rcases h with h | h
      · exact .inl ((List.mem_cons.mp h).resolve_left fun z => e (by rw [z]))
      · exact .inr (by rw [look_put, if_neg e]; exact h)
theorem dn_none {α : Type} {kf : α → NestedKey} {gv : α → As} {k : NestedKey} : ∀ (l : List α) (acc : List (NestedKey × As)), (∀ a ∈ l, kf a ≠ k) → lookN acc k = none → lookN (l.foldl (fun acc a => putN acc (kf a) (gv a)) acc) k = none
  | [], acc, _, h => h
  | x :: l, acc, h, h0 => by
    rw [List.foldl_cons]
    refine dn_none l _ (fun a ha => h a (List.mem_cons_of_mem _ ha)) ?_
    rw [look_put, if_neg (fun z => h x (List.mem_cons_self ..) z.symm)]
    exact h0
theorem mod_fst {α : Type} (a : α) : ∀ (l : List (NestedKey × α)) (i : Nat), (l.modify i fun x => (x.1, a)).map (·.1) = l.map (·.1)
  | [], i => by simp
  | x :: l, 0 => by simp
  | x :: l, i + 1 => by simp [mod_fst a l i]
theorem put_keys {α : Type} {l : List (NestedKey × α)} {k k' : NestedKey} {a : α} (h : k' ∈ (putN l k a).map (·.1)) : k' ∈ l.map (·.1) ∨ k' = k := by
  unfold putN at h
  cases e : l.findIdx? fun x => decide (x.1 = k) with
  | some i =>
    rw [e] at h
    have h : k' ∈ (l.modify i fun x => (x.1, a)).map (·.1) := h
    rw [mod_fst] at h
    exact .inl h
  | none =>
    rw [e] at h
    have h : k' ∈ (l ++ [(k, a)]).map (·.1) := h
    rw [List.map_append] at h
    rcases List.mem_append.mp h with z | z
    · exact .inl z
    · exact .inr (by simpa using z)
theorem dn_keys {α : Type} {kf : α → NestedKey} {gv : α → As} {k : NestedKey} : ∀ (l : List α) (acc : List (NestedKey × As)), k ∈ (l.foldl (fun acc a => putN acc (kf a) (gv a)) acc).map (·.1) → k ∈ acc.map (·.1) ∨ ∃ a ∈ l, k = kf a
  | [], acc, h => .inl h
  | x :: l, acc, h => by
    rw [List.foldl_cons] at h
    rcases dn_keys l _ h with z | ⟨a, ha, e⟩
    · rcases put_keys z with z | z
      · exact .inl z
      · exact .inr ⟨x, List.mem_cons_self .., z⟩
    · exact .inr ⟨a, List.mem_cons_of_mem _ ha, e⟩
theorem enum_mem {α : Type} {l : List α} {x : Nat × α} (h : x ∈ enumL l) : l[x.1]? = some x.2 := by
  obtain ⟨i, hi⟩ := List.mem_iff_getElem?.mp h
  obtain ⟨h1, h2⟩ := enum_get hi
  rw [h1]
  exact h2
theorem mem_enum {α : Type} {l : List α} {i : Nat} {a : α} (h : l[i]? = some a) : (i, a) ∈ enumL l := by
  have hi : i < l.length := (List.getElem?_eq_some_iff.mp h).1
  refine List.mem_iff_getElem?.mpr ⟨i, ?_⟩
  unfold enumL
  rw [List.getElem?_zip_eq_some]
  exact ⟨by rw [List.getElem?_range hi], h⟩
theorem lasts_nd {m : Md} (h : m.pairs.Nodup) : (lastsL m).Nodup := by
  unfold lastsL
  rw [List.nodup_cons]
  refine ⟨by simp, ?_⟩
  exact h.map (f := some) fun a b e hab => e (by simpa using hab)
theorem lasts_at {m : Md} {p : Pr} (h : p ∈ m.pairs) : (lastsL m)[plOf m p]? = some (some p) := by
  unfold lastsL plOf
  rw [List.getElem?_cons_succ, List.getElem?_map]
  have := List.idxOf_lt_length_of_mem h
  rw [List.getElem?_eq_getElem this]
  simp
theorem nums_inj {m : Md} (h : m.pairs.Nodup) : ∀ x y : Nat × Option Pr, x ∈ enumL (lastsL m) → y ∈ enumL (lastsL m) → kLast x.2 = kLast y.2 → x = y := fun x y hx hy e => by
  have e2 := kLast_inj e
  have a := enum_mem hx
  have b := enum_mem hy
  rw [← e2] at b
  have hi : x.1 < (lastsL m).length := (List.getElem?_eq_some_iff.mp a).1
  exact Prod.ext ((List.getElem?_inj hi (lasts_nd h)).mp (a.trans b.symm)) e2
theorem nums_look {m : Md} (hd : m.pairs.Nodup) {p : Pr} (hp : p ∈ m.pairs) : lookN (numsL m) (kLast (some p)) = some (nat (plOf m p)) := by
  have key : ∀ (l : List (Nat × Option Pr)) (acc : List (NestedKey × As)), (∀ x ∈ l, x ∈ enumL (lastsL m)) → ((plOf m p, some p) ∈ l ∨ lookN acc (kLast (some p)) = some (nat (plOf m p))) → lookN (l.foldl (fun acc a => putN acc (kLast a.2) (nat a.1)) acc) (kLast (some p)) = some (nat (plOf m p)) := by
    intro l
    induction l with
    | nil => exact fun acc _ h => h.resolve_left (by simp)
    | cons x l ih =>
      intro acc hs h
      rw [List.foldl_cons]
      refine ih _ (fun y hy => hs y (List.mem_cons_of_mem _ hy)) ?_
      have hx := hs x (List.mem_cons_self ..)
      by_cases e : kLast (some p) = kLast x.2
      · have ex := nums_inj hd (plOf m p, some p) x (mem_enum (lasts_at hp)) hx e
        refine .inr ?_
        rw [look_put, if_pos e, ← ex]
      · rcases h with h | h
        · exact .inl ((List.mem_cons.mp h).resolve_left fun z => e (by rw [← z]))
        · exact .inr (by rw [look_put, if_neg e]; exact h)
  exact key _ _ (fun x hx => hx) (.inl (mem_enum (lasts_at hp)))
theorem nums_keys (m : Md) : ∀ k ∈ (numsL m).map (·.1), ∃ last ∈ lastsL m, k = kLast last := fun k hk => by
  rcases dn_keys _ _ hk with z | ⟨a, ha, e⟩
  · simp at z
  · exact ⟨a.2, List.mem_of_getElem? (enum_mem ha), e⟩
section
variable {P : Program} {w : World} {K : PySem.W.Frag} {mg : Str → Option Value} {base : Heap} {C CM CR CP CL : Addr}
abbrev numsA (w : World) (m : Md) : As := ndA w (numsL m)
/-! ### step_relation -/
abbrev sStp : Stmt := (topS 20)
abbrev nStp : List Str := ["book", "numbers", "note", "last", "pair"]
theorem sc_stp : FnScope nStp ["book", "numbers", "note"] (defScope sStp) := ⟨rfl, rfl, rfl, by decide +kernel, rfl, by decide +kernel, by decide +kernel⟩
abbrev sclOf : Expr → Scope
  | .ListComp _ _ sc _ => sc
  | _ => defScope sStp
abbrev argOf : Stmt → Expr
  | .Return (some (.Call _ (e :: _) _ _)) _ => e
  | _ => .Name "" ⟨0, 0, 0, 0⟩
abbrev scStp1 : Scope := sclOf (argOf ((defBody sStp).getD 0 (.Pass ⟨0, 0, 0, 0⟩)))
/-- the keys of a dict, in their order, as what they stand for -/
theorem nums_map {m : Md} (hd : m.pairs.Nodup) : (numsL m).map (·.1) = (lastsL m).map kLast := by
  have key : ∀ (l : List (Nat × Option Pr)) (acc : List (NestedKey × As)), (l.map fun x => kLast x.2).Nodup → (∀ x ∈ l, kLast x.2 ∉ acc.map (·.1)) → (l.foldl (fun acc a => putN acc (kLast a.2) (nat a.1)) acc).map (·.1) = acc.map (·.1) ++ l.map fun x => kLast x.2 := by
    intro l
    induction l with
    | nil => intro acc _ _; simp
    | cons x l ih =>
      intro acc nd h
      rw [List.foldl_cons]
      rw [List.map_cons, List.nodup_cons] at nd
      have new : putN acc (kLast x.2) (nat x.1) = acc ++ [(kLast x.2, nat x.1)] := by
        have e : acc.findIdx? (fun y => decide (y.1 = kLast x.2)) = none := by
          rw [List.findIdx?_eq_none_iff]
          intro y hy
          exact decide_eq_false fun z => h x (List.mem_cons_self ..) (List.mem_map.mpr ⟨y, hy, z⟩)
        unfold putN
        rw [e]
      rw [new, ih _ nd.2 (fun y hy z => ?_)]
      · simp
      · rw [List.map_append] at z
        rcases List.mem_append.mp z with z | z
        · exact h y (List.mem_cons_of_mem _ hy) z
        · have z : kLast y.2 = kLast x.2 := by simpa using z
          exact nd.1 (List.mem_map.mpr ⟨y, hy, z⟩)
  have e2 : (enumL (lastsL m)).map (fun x => kLast x.2) = (lastsL m).map kLast := by
    show (enumL (lastsL m)).map (kLast ∘ Prod.snd) = _
    unfold enumL
    rw [← List.map_map, List.map_snd_zip (by rw [List.length_range]; exact Nat.le_refl _)]
  have z := key (enumL (lastsL m)) [] (by rw [e2]; exact (lasts_nd hd).map (f := kLast) fun a b n e => n (kLast_inj e)) (fun _ _ h => by simp at h)
  rw [e2] at z
  exact z
theorem lst_key (last : Option Pr) : ∀ F v, (nkA (kLast last)).p F v → (lstOf last).p F v := fun F v ⟨h, _⟩ => by
  cases last with
  | none => exact h
  | some q =>
    have h : NkA F (.tup [.text q.1, .text q.2]) v := h
    unfold NkA at h
    obtain ⟨a, xs, e, h1, h2⟩ := h
    match xs, h2 with
    | [x, y], h2 =>
      unfold NkAll at h2
      obtain ⟨k1, h2⟩ := h2
      unfold NkAll at h2
      exact ⟨a, [x, y], e, h1, k1, h2.1, trivial⟩
abbrev spStp (w : World) (C CM CR : Addr) : Sp := spX (fun i : Bk × Md × Str => Pm i.1 i.2.1 ∧ i.2.2 ∈ i.2.1.names) (fun i => [bookA C CM i.1, numsA w i.2.1, str i.2.2]) (fun i => relA CR (szOf i.2.1) (stepT i.2.1 i.2.2))
theorem ok_stp {f : Addr} {fd : FuncData} (F : Fun K "step_relation" "step_relation" sStp f fd) (T : BTx K C CM) (DA : Mf P w K mg base 4 C "after" ["self", "last", "note"] (spAft C CM)) (DK : MkX P w K mg base 4 CR "Relation" ["self", "rows"] (spRelI CR CP)) : FnOk P w K mg base CX0 6 f fd ["book", "numbers", "note"] (spStp w C CM CR) := by
  refine fn_ok F sc_stp (fun _ _ => rfl) fun ⟨B, m, n⟩ cdv B0 outer s H E ⟨pm, hn⟩ hr => ?_
  have nd := sc_stp.nd
  have pm : Pm B m := pm
  have hn : n ∈ m.names := hn
  have hnB : n ∈ B.given := by rw [pm.g]; exact hn
  have r4 := hr.mono (show 4 ≤ 5 by decide)
  have pl := pm.wm.pl
  have lz : (lastsL m).length < sizeLine := by rw [lasts_len, sizeLine_eq]; unfold szOf; omega
  have rl : ∀ last, (rowL m (last, n)).length ≤ 100 := fun last => Nat.le_trans (List.length_filter_le _ _) pl
  obtain ⟨h1, h2⟩ := mk_ok (C := CR) (CP := CP) (n := szOf m) (ls := (lastsL m).map (rowN m n)) (R := stepT m n) (by unfold szOf; omega) (by rw [List.length_map, lasts_len]) (fun l hl => by
    obtain ⟨last, _, rfl⟩ := List.mem_map.mp hl
    refine ⟨by unfold rowN; rw [List.length_map]; have := rl last; omega, fun q hq => ?_⟩
    obtain ⟨p, hp, rfl⟩ := List.mem_map.mp hq
    exact plOf_lt (List.mem_filter.mp hp).1) (fun p q hp hq => by
    unfold stepT
    have hp' : p < (lastsL m).length := by rw [lasts_len]; exact hp
    rw [List.getD_eq_getElem?_getD, List.getElem?_map, List.getElem?_eq_getElem hp', List.getD_eq_getElem?_getD, List.getElem?_eq_getElem hp']
    rfl)
  have hk : ((numsL m).map fun x => nkA x.1) = (lastsL m).map fun last => nkA (kLast last) := by
    show (numsL m).map (nkA ∘ fun x => x.1) = _
    rw [← List.map_map, nums_map pm.nd, List.map_map]
    rfl
  refine ba_one (sa_ret (ea_makeX DK hr (true, true, intsOf ((lastsL m).map (rowN m n))) h1 h2 (eas_cons (ea_is (en_a (en_lcS (own := [("last", 3)]) 3 (l := lastsL m) (enc := fun last => nkA (kLast last)) (p := fun _ => true) (g := fun last => lstA ((rowN m n last).map nat)) rfl nd (es_is (es_keysN (ea_var 1 rfl)) hk) lz (blkOk_by (N := nStp) (sc := defScope sStp) (by decide +kernel)) (fun _ _ _ _ _ => pg_name nd rfl (by first | exact Or.inl rfl | exact Or.inr rfl)) (fun _ _ _ _ _ _ _ => pts_yes) (fun _ _ _ _ _ last hl _ => ?el))) ?eq) eas_nil)))
  case eq =>
    rw [flt_true]
    show lstA _ = lstA ((intsOf _).map _)
    unfold intsOf
    rw [List.map_map, List.map_map]
    congr 1
    refine List.map_congr_left fun last _ => ?_
    show lstA _ = lstA (((rowN m n last).map _).map int)
    rw [List.map_map]
    rfl
  case el =>
    have aok : (Okb B ∧ n ∈ B.given ∧ (ansOf B n).length ≤ 1000) ∧ ∀ q, last = some q → conB B (pairR q) = true := ⟨⟨pm.ok.1, hnB, pm.alen hnB⟩, fun q hq => by
      have hl : some q ∈ lastsL m := hq ▸ hl
      unfold lastsL at hl
      exact pm.inf (by simpa using hl)⟩
    refine ea_is (en_a (en_lcS (own := [("pair", 4)]) 4 (l := rowL m (last, n)) (enc := prA) (p := fun _ => true) (g := fun p => nat (plOf m p)) rfl nd (es_l (ea_methB DA r4 T.cl (B, last, n) aok (show lstA _ = lstA _ by rw [pm.af last n hn hl]) (ea_var 0 rfl) (by rfl) (eas_cons (ea_imp (ea_var 3 rfl) fun F v hv => by have z := lst_key last F v hv; cases last <;> exact z) (eas_cons (ea_var 2 rfl) eas_nil)) rfl)) (by rw [sizeLine_eq]; have := rl last; omega) ?blk (fun _ _ _ _ _ => pg_name nd rfl (by first | exact Or.inl rfl | exact Or.inr rfl)) (fun _ _ _ _ _ _ _ => pts_yes) (fun _ _ _ _ _ p hp _ => ?ix))) (by rw [flt_true]; unfold rowN; rw [List.map_map]; rfl)
    case blk => exact blk_relS (sc := scStp1) (sc0 := defScope sStp) rfl (blkOk_by (N := nStp) (sc := relabS scStp1 (defScope sStp)) (by decide +kernel))
    case ix =>
      have hp' := (List.mem_filter.mp hp).1
      exact ea_getN r4 (ea_var 1 rfl) (ea_imp (ea_var 4 rfl) (nk_pr p)) fdT (nums_look pm.nd hp')
end
end Kv

set_option Elab.async false
set_option linter.all false
set_option maxRecDepth 100000
set_option maxHeartbeats 4000000
namespace Kv
open PySem PySem.Calls L2 Lk
/-! ### Places(book) -/
def cloO (m : Md) : Option Pr → Bool
  | none => true
  | some q => decide (q ∈ m.closes)
def stepsL (CR : Addr) (m : Md) : List (NestedKey × As) := dnA m.names (fun n => .text n) (fun n => relA CR (szOf m) (stepT m n))
def closedL (m : Md) : List (Int × As) := dcA ((enumL (lastsL m)).filter fun x => cloO m x.2) (fun x => (x.1 : Int)) (fun _ => bl true)
def placesA (w : World) (CL CR : Addr) (m : Md) : As := insA CL [("size", nat (szOf m)), ("given", tupA (m.names.map str)), ("lasts", lstA ((lastsL m).map lstOf)), ("numbers", ndA w (numsL m)), ("steps", ndA w (stepsL CR m)), ("_closed", diA (closedL m))]
structure PTx (K : PySem.W.Frag) (C : Addr) : Prop where
  cl : Cls K C
  nS : NoAttr K C "size"
  nG : NoAttr K C "given"
  nL : NoAttr K C "lasts"
  nN : NoAttr K C "numbers"
  nT : NoAttr K C "steps"
  nC : NoAttr K C "_closed"
theorem putN_len {l : List (NestedKey × As)} {k : NestedKey} {a : As} : (putN l k a).length ≥ l.length := by
  unfold putN
  split
  · rw [List.length_modify]; exact Nat.le_refl _
  · rw [List.length_append]; exact Nat.le_add_right _ _
theorem dn_ne {α : Type} {kf : α → NestedKey} {gv : α → As} {l : List α} (h : l ≠ []) : (dnA l kf gv).map (·.1) ≠ [] := by
  obtain ⟨x, t, rfl⟩ := List.exists_cons_of_ne_nil h
  have key : ∀ (t : List α) (acc : List (NestedKey × As)), acc.length ≤ (t.foldl (fun acc a => putN acc (kf a) (gv a)) acc).length := by
    intro t
    induction t with
    | nil => exact fun _ => Nat.le_refl _
    | cons y t ih => exact fun acc => Nat.le_trans putN_len (ih _)
  have z := key t (putN [] (kf x) (gv x))
  have e : (putN ([] : List (NestedKey × As)) (kf x) (gv x)).length = 1 := rfl
  intro h0
  have h1 : (dnA (x :: t) kf gv).length = 0 := by rw [← List.length_map (f := (·.1)), h0]; rfl
  unfold dnA at h1
  rw [List.foldl_cons] at h1
  omega
section
variable {P : Program} {w : World} {K : PySem.W.Frag} {mg : Str → Option Value} {base : Heap} {C CM CR CP CL : Addr}
abbrev sPli : Stmt := (inClass (topS 21) 0)
abbrev nPli : List Str := ["self", "book", "lasts", "numbers", "place", "last", "note"]
theorem sc_pli : FnScope nPli ["self", "book"] (defScope sPli) := ⟨rfl, rfl, rfl, by decide +kernel, rfl, by decide +kernel, by decide +kernel⟩
abbrev spPli (w : World) (C CM CR CL : Addr) : Sp := spMk CL (fun i : Bk × Md => Pm i.1 i.2) (fun i => [bookA C CM i.1]) (fun i => placesA w CL CR i.2)
theorem keyfor_last {m : Md} {i : Nat} {a : Nat × Option Pr} (h : (enumL (lastsL m))[i]? = some a) : KeyFor ((dnA (((enumL (lastsL m)).take i).filter fun _ => true) (fun x => kLast x.2) (fun x => nat x.1)).map (·.1)) (kLast a.2) := by
  obtain ⟨h1, h2⟩ := enum_get h
  cases i with
  | zero => exact .inr ⟨by rw [List.take_zero]; rfl, fun x e => by cases z : a.2 with
    | none => rw [z] at e; cases e
    | some q => rw [z] at e; cases e⟩
  | succ i =>
    have z : (lastsL m)[i + 1]? = (m.pairs.map some)[i]? := rfl
    rw [z, List.getElem?_map] at h2
    cases e : m.pairs[i]? with
    | none => rw [e] at h2; cases h2
    | some q =>
      rw [e] at h2
      have h2 : some q = a.2 := by simpa using h2
      rw [← h2]
      exact .inl fdT
theorem ea_rule3c {X : Cx} {ρ : List En} {pos p1 pos' : Pos} {j x1} {e : Expr} {p : Pr} {z : Str} (he : EA X e ρ (prA p)) (hs : starEach (.Constant (.str z) j p1 :: [.Starred e pos']) X.env = (false, eval (.Constant (.str z) j p1) X.env) :: starEach [.Starred e pos'] X.env := by rfl)
    (hs2 : starEach (.Starred e pos' :: []) X.env = (true, eval e X.env) :: starEach [] X.env := by rfl) : EA X (.Tuple [.Constant (.str z) j p1, .Starred e pos'] x1 pos) ρ (ruleA [z, p.1, p.2]) :=
  ea_is (ea_tup (l := [str z, str p.1, str p.2]) (eas_cons ea_str (eas_star (la := [str p.1, str p.2]) (lb := []) he eas_nil hs2) hs) (by show 3 ≤ sizeLine; rw [sizeLine_eq]; decide)) rfl
theorem ok_pli {f : Addr} {fd : FuncData} (F : Fun K "__init__" "Places.__init__" sPli f fd) (T : BTx K C CM) (Z : PTx K CL) (mE : mg "enumerate" = none) (PP : Pf P w K mg base 3 C "pairs" (spPairs C CM)) (DC : Mf P w K mg base 2 C "__contains__" ["self", "rule"] (spCon C CM)) (mL : mg "len" = none) (DS : Df P w K mg base 6 "step_relation" ["book", "numbers", "note"] (spStp w C CM CR)) : FnOk P w K mg base CX0 8 f fd ["self", "book"] (spPli w C CM CR CL) := by
  refine fn_okMk F sc_pli (fun _ _ => rfl) fun ⟨B, m⟩ p cdv B0 outer s H E pm hr => ?_
  have nd := sc_pli.nd
  have pm : Pm B m := pm
  have pl := pm.wm.pl
  have ll : (lastsL m).length = m.pairs.length + 1 := lasts_len m
  have ll2 : (enumL (lastsL m)).length < sizeLine := by rw [enum_len, sizeLine_eq]; omega
  refine ba_cons (sa_setN 2 nd (en_is (en_cat (l := [non]) (m := m.pairs.map prA) (en_l (en_lst (eas_cons ea_non eas_nil) (by decide))) (ea_l (ea_propB PP (hr.mono (show 4 ≤ 7 by decide)) T.cl B pm.ok (by show lstA _ = lstA _; rw [pm.p]) (ea_var 1 rfl) rfl)) (by rw [List.length_map, sizeLine_eq]; show 1 + _ ≤ _; omega)) (lasts_as m)) ?_)
  refine ba_free (i := 2) rfl ?_
  refine ba_cons (sa_set 3 nd (A := ndA w (numsL m)) (ea_is (ea_dcN (own := [("place", 4), ("last", 5)]) (l := enumL (lastsL m)) (p := fun _ => true) (kf := fun x => kLast x.2) (gv := fun x => nat x.1) hr rfl nd (esg_enum (j1 := 4) (j2 := 5) (by decide) (by decide) (ea_var 2 rfl) mE) ll2 (fun i a ha _ => keyfor_last ha) (blkOk_by (N := nPli) (sc := defScope sPli) (by decide +kernel)) (fun _ _ _ _ _ => pg_tup rfl (pgs_cons (pg_name nd rfl (Or.inl rfl)) (pgs_cons (pg_name nd rfl (Or.inl rfl)) pgs_nil))) (fun _ _ _ _ _ _ _ => pts_yes) (fun _ _ _ _ _ x hx _ => ea_imp (ea_var 5 rfl) (nk_last x.2)) (fun _ _ _ _ _ x hx _ => ea_var 4 rfl)) (by rw [flt_all]; rfl)) ?_)
  refine ba_cons (sa_fldI 0 rfl (A := nat (szOf m)) (ea_is (ea_lenSq (q := true) (ea_var 2 rfl) mL) ?e1) (pe_var (i := 0) rfl (by first | exact Or.inl rfl | exact Or.inr (Or.inl rfl) | exact Or.inr (Or.inr rfl)) (by decide) (by decide)) Z.cl Z.nS rfl (by show 0 < 1000; decide) ?_)
  case e1 => rw [List.length_map, ll]; rfl
  refine ba_cons (sa_fldI 0 rfl (A := tupA (m.names.map str)) (ea_is (ea_given (ea_var 1 rfl) T) (by rw [pm.g])) (pe_var (i := 0) rfl (by first | exact Or.inl rfl | exact Or.inr (Or.inl rfl) | exact Or.inr (Or.inr rfl)) (by decide) (by decide)) Z.cl Z.nG rfl (by show 1 < 1000; decide) ?_)
  refine ba_cons (sa_fldI 0 rfl (ea_var 2 rfl) (pe_var (i := 0) rfl (by first | exact Or.inl rfl | exact Or.inr (Or.inl rfl) | exact Or.inr (Or.inr rfl)) (by decide) (by decide)) Z.cl Z.nL rfl (by show 2 < 1000; decide) ?_)
  refine ba_cons (sa_fldI 0 rfl (ea_var 3 rfl) (pe_var (i := 0) rfl (by first | exact Or.inl rfl | exact Or.inr (Or.inl rfl) | exact Or.inr (Or.inr rfl)) (by decide) (by decide)) Z.cl Z.nN rfl (by show 3 < 1000; decide) ?_)
  refine ba_cons (sa_fldI 0 rfl (A := ndA w (stepsL CR m)) (ea_is (ea_dcN (own := [("note", 6)]) (l := m.names) (p := fun _ => true) (kf := fun n => .text n) (gv := fun n => relA CR (szOf m) (stepT m n)) hr rfl nd (esg_name (j := 6) (by decide) (es_t (ea_is (ea_given (ea_var 1 rfl) T) (by rw [pm.g])))) ?n1 ?n2 (blkOk_by (N := nPli) (sc := defScope sPli) (by decide +kernel)) (fun _ _ _ _ _ => pg_name nd rfl (Or.inl rfl)) (fun _ _ _ _ _ _ _ => pts_yes) (fun _ _ _ _ _ n hn _ => ea_imp (ea_var 6 rfl) fun _ _ => nk_str) (fun _ _ _ _ _ n hn _ => ea_callB DS (hr.mono (show 6 ≤ 7 by decide)) (B, m, n) ⟨pm, hn⟩ rfl (eas_cons (ea_var 1 rfl) (eas_cons (ea_var 3 rfl) (eas_cons (ea_var 6 rfl) eas_nil))))) (by rw [flt_all]; rfl)) (pe_var (i := 0) rfl (by first | exact Or.inl rfl | exact Or.inr (Or.inl rfl) | exact Or.inr (Or.inr rfl)) (by decide) (by decide)) Z.cl Z.nT rfl (by show 4 < 1000; decide) ?_)
  case n1 => have := pm.wm.nl; rw [sizeLine_eq]; omega
  case n2 => exact fun i n hn _ => .inl (fdS fun j hj => by
    rcases dn_keys _ _ hj with z | ⟨a, _, e⟩
    · simp at z
    · exact ⟨a, e⟩)
  refine ba_one (sa_fldI 0 rfl (A := diA (closedL m)) (ea_dcG (own := [("place", 4), ("last", 5)]) (l := enumL (lastsL m)) (p := fun x => cloO m x.2) (kf := fun x => (x.1 : Int)) (gv := fun _ => bl true) rfl nd (esg_enum (j1 := 4) (j2 := 5) (by decide) (by decide) (ea_var 2 rfl) mE) ll2 (blkOk_by (N := nPli) (sc := defScope sPli) (by decide +kernel)) (fun _ _ _ _ _ => pg_tup rfl (pgs_cons (pg_name nd rfl (Or.inl rfl)) (pgs_cons (pg_name nd rfl (Or.inl rfl)) pgs_nil))) (fun _ _ _ _ _ x hx => pts_one ?tt) (fun _ _ _ _ _ x hx _ => ea_var 4 rfl) (fun _ _ _ _ _ x hx _ => ea_bl)) (pe_var (i := 0) rfl (by first | exact Or.inl rfl | exact Or.inr (Or.inl rfl) | exact Or.inr (Or.inr rfl)) (by decide) (by decide)) Z.cl Z.nC rfl (by show 5 < 1000; decide) ⟨_, rfl, fun F v h => h⟩)
  case tt =>
    obtain ⟨i, last⟩ := x
    cases last with
    | none => exact et_w (ewt_or (j := true) (k := true) (et_cm (ea_w (ea_var 5 rfl)) (ea_w ea_non) isN0 rfl) fun h => by cases h)
    | some q =>
      have hq : q ∈ m.pairs := by
        have z := List.mem_of_getElem? (enum_mem hx)
        unfold lastsL at z
        simpa using z
      have e := pm.cl q hq
      refine et_w (ewt_or (j := false) (k := cloO m (some q)) (et_cm (ea_w (ea_var 5 rfl)) (ea_w ea_non) isN1 rfl) fun _ => ewt_or1 (et_inO DC (hr.mono (show 2 ≤ 7 by decide)) (B, ["close", q.1, q.2]) pm.ok.1 (ea_rule3c (p := q) (ea_var 5 rfl)) (ea_var 1 rfl) rfl (by show bl _ = bl _; rw [e]; rfl) (by rfl)))
end
end Kv

set_option Elab.async false
set_option linter.all false
set_option maxRecDepth 100000
set_option maxHeartbeats 4000000
namespace Kv
open PySem PySem.Calls L2 Lk
/-! ### places and what they stand for -/
def lastAt (m : Md) (p : Nat) : Option Pr := (lastsL m).getD p none
theorem lastAt_get {m : Md} {p : Nat} (h : p < szOf m) : (lastsL m)[p]? = some (lastAt m p) := by
  have h2 : p < (lastsL m).length := by rw [lasts_len]; exact h
  unfold lastAt
  rw [List.getD_eq_getElem?_getD, List.getElem?_eq_getElem h2]
  rfl
theorem lastAt_mem {m : Md} {p : Nat} (h : p < szOf m) : lastAt m p ∈ lastsL m := List.mem_of_getElem? (lastAt_get h)
theorem lastAt_inj {m : Md} (nd : m.pairs.Nodup) {p q : Nat} (hp : p < szOf m) (hq : q < szOf m) (h : lastAt m p = lastAt m q) : p = q := by
  have a := lastAt_get hp
  have b := lastAt_get hq
  rw [← h] at b
  exact (List.getElem?_inj (by rw [lasts_len]; exact hp) (lasts_nd nd)).mp (a.trans b.symm)
theorem lastAt_of {m : Md} {x : Option Pr} (h : x ∈ lastsL m) : ∃ p, p < szOf m ∧ lastAt m p = x := by
  obtain ⟨p, hp⟩ := List.mem_iff_getElem?.mp h
  have hl : p < szOf m := by rw [← lasts_len]; exact (List.getElem?_eq_some_iff.mp hp).1
  refine ⟨p, hl, ?_⟩
  have z := lastAt_get hl
  rw [hp] at z
  exact (Option.some.inj z).symm
theorem lasts_range (m : Md) : lastsL m = (List.range (szOf m)).map (lastAt m) := by
  refine List.ext_getElem (by rw [List.length_map, List.length_range, lasts_len]) fun i h1 h2 => ?_
  rw [List.getElem_map, List.getElem_range]
  have z := lastAt_get (m := m) (p := i) (by rw [← lasts_len]; exact h1)
  rw [List.getElem?_eq_getElem h1] at z
  exact Option.some.inj z
theorem plOf_at {m : Md} {p : Pr} (h : p ∈ m.pairs) : lastAt m (plOf m p) = some p := by
  have z := lastAt_get (plOf_lt h)
  rw [lasts_at h] at z
  exact (Option.some.inj z).symm
theorem stepT_iff {m : Md} (nd : m.pairs.Nodup) {n : Str} {p q : Nat} (hq : q < szOf m) : stepT m n p q = true ↔ ∃ x ∈ rowL m (lastAt m p, n), lastAt m q = some x := by
  unfold stepT rowN
  rw [decide_eq_true_eq, List.mem_map]
  constructor
  · rintro ⟨x, hx, rfl⟩
    exact ⟨x, hx, plOf_at ((List.mem_filter.mp hx).1)⟩
  · rintro ⟨x, hx, e⟩
    refine ⟨x, hx, lastAt_inj nd (plOf_lt ((List.mem_filter.mp hx).1)) hq ?_⟩
    rw [plOf_at ((List.mem_filter.mp hx).1), e]
theorem foldl_snoc {α β : Type} (f : β → α → β) (b : β) (l : List α) (a : α) : (l ++ [a]).foldl f b = f (l.foldl f b) a := by rw [List.foldl_append]; rfl
theorem rev_ind {α : Type} {P : List α → Prop} (h0 : P []) (hs : ∀ l a, P l → P (l ++ [a])) : ∀ l, P l := by
  have key : ∀ l : List α, P l.reverse := by
    intro l
    induction l with
    | nil => exact h0
    | cons a l ih => rw [List.reverse_cons]; exact hs _ _ ih
  intro l
  have := key l.reverse
  rwa [List.reverse_reverse] at this
theorem mulR_iffH {n : Nat} {R S : Nat → Nat → Bool} {p q : Nat} : mulR n R S p q = true ↔ ∃ r, r < n ∧ R p r = true ∧ S r q = true := by
  unfold mulR
  rw [List.any_eq_true]
  constructor
  · rintro ⟨r, hr, h⟩
    exact ⟨r, (asc_mem.mp hr).1, (asc_mem.mp hr).2, h⟩
  · rintro ⟨r, h1, h2, h3⟩
    exact ⟨r, asc_mem.mpr ⟨h1, h2⟩, h3⟩
end Kv

set_option Elab.async false
set_option linter.all false
set_option maxRecDepth 100000
set_option maxHeartbeats 4000000
namespace Kv
open PySem PySem.Calls L2 Lk
/-! ### is_closed -/
def cloP (m : Md) (p : Nat) : Bool := decide (p < szOf m) && cloO m (lastAt m p)
theorem closed_look {m : Md} (p : Nat) : ((closedL m).lookup (p : Int)).isSome = cloP m p := by
  unfold closedL
  rw [look_isSome, dcA_fst, Bool.eq_iff_iff, decide_eq_true_eq, onceF_mem, List.mem_map]
  unfold cloP lastAt
  rw [Bool.and_eq_true, decide_eq_true_eq]
  constructor
  · rintro ⟨x, hx, e⟩
    obtain ⟨h1, h2⟩ := List.mem_filter.mp hx
    have h3 := enum_mem h1
    have e : x.1 = p := by omega
    rw [e] at h3
    refine ⟨by rw [← lasts_len]; exact (List.getElem?_eq_some_iff.mp h3).1, ?_⟩
    rw [List.getD_eq_getElem?_getD, h3]
    exact h2
  · rintro ⟨h1, h2⟩
    have h1' : p < (lastsL m).length := by rw [lasts_len]; exact h1
    refine ⟨(p, (lastsL m)[p]), List.mem_filter.mpr ⟨mem_enum (List.getElem?_eq_getElem h1'), ?_⟩, rfl⟩
    rw [List.getD_eq_getElem?_getD, List.getElem?_eq_getElem h1'] at h2
    exact h2
section
variable {P : Program} {w : World} {K : PySem.W.Frag} {mg : Str → Option Value} {base : Heap} {C CM CR CP CL : Addr}
abbrev sIcl : Stmt := (inClass (topS 21) 2)
abbrev nIcl : List Str := ["self", "ends", "place"]
theorem sc_icl : FnScope nIcl ["self", "ends"] (defScope sIcl) := ⟨rfl, rfl, rfl, by decide +kernel, rfl, by decide +kernel, by decide +kernel⟩
abbrev spIcl (w : World) (CL CR : Addr) : Sp := spX (fun i : Md × Bool × List Nat => i.2.2.length ≤ 1000) (fun i => [placesA w CL CR i.1, sq i.2.1 (i.2.2.map nat)]) (fun i => bl (i.2.2.any (cloP i.1)))
theorem ok_icl {f : Addr} {fd : FuncData} (F : Fun K "is_closed" "Places.is_closed" sIcl f fd) (Z : PTx K CL) (mA : mg "any" = none) : FnOk P w K mg base CX0 1 f fd ["self", "ends"] (spIcl w CL CR) := by
  refine fn_ok F sc_icl (fun _ _ => rfl) fun ⟨m, b, l⟩ cdv B0 outer s H E hl hr => ?_
  have nd := sc_icl.nd
  have hl : l.length ≤ 1000 := hl
  refine ba_one (sa_ret (ea_is (ea_any (bs := l.map (cloP m)) ?a rfl mA) (by show bl _ = bl _; rw [List.any_map]; rfl)))
  rw [List.map_map]
  exact en_l (en_lcSA (own := [("place", 2)]) (l := l) (enc := nat) (g := fun p => bl (cloP m p)) 2 rfl nd (es_sq (ea_var 1 rfl)) (by rw [sizeLine_eq]; omega) (blkOk_by (N := nIcl) (sc := defScope sIcl) (by decide +kernel)) (fun _ _ _ _ _ => pg_name nd rfl (Or.inl rfl)) (fun _ _ _ _ _ p _ => ea_is (ea_inI hr (ea_w (ea_var 2 rfl)) (ea_fld (A := diA (closedL m)) (ea_var 0 rfl) Z.cl Z.nC rfl) (by rfl)) (by rw [closed_look])))
end
end Kv

set_option Elab.async false
set_option linter.all false
set_option maxRecDepth 100000
set_option maxHeartbeats 4000000
namespace Kv
open PySem PySem.Calls L2 Lk
/-! ### _law_ends: where runs may end, by the model -/
def gO : Option Pr → PyData
  | none => .none
  | some q => .tuple ([q.1, q.2].map PyData.str)
def okO : Option Pr → Prop
  | none => True
  | some q => okPr q
theorem enc_last {K : PySem.W.Frag} : Enc K 1 lstOf okO := ⟨gO, fun a => by
  cases a with
  | none => exact dat_non
  | some q => exact dat_tup (f := str) dat_str [q.1, q.2], fun x y => by
  cases x with
  | none => cases y with
    | none => simp [gO, PyData.eqv]
    | some q => simp [gO, PyData.eqv]
  | some p => cases y with
    | none => simp [gO, PyData.eqv]
    | some q =>
      have z := eqvAll_map (g := PyData.str) (fun x y => by simp [PyData.eqv, Bool.beq_eq_decide_eq]) [p.1, p.2] [q.1, q.2]
      show PyData.eqv (.tuple _) (.tuple _) = _
      rw [PyData.eqv, z, Bool.eq_iff_iff, decide_eq_true_eq, decide_eq_true_eq]
      exact ⟨fun h => by
        have h : p.1 = q.1 ∧ p.2 = q.2 := by simpa using h
        rw [Prod.ext h.1 h.2], fun h => by
        have h : p = q := by simpa using h
        rw [h]⟩, fun a => by cases a <;> simp [gO, PyData.depth, PyData.depthAll], fun a h => by
  cases a with
  | none => simp [gO, PyData.canLay0]
  | some q =>
    have h : okPr q := h
    simp only [gO, PyData.canLay0]
    exact canAll_map (g := PyData.str) [q.1, q.2] fun s hs => by
      simp only [PyData.canLay0]
      exact h s (by simpa using hs)⟩
def addU (f : List (Option Pr)) (p : Pr) : List (Option Pr) := if some p ∈ f then f else f ++ [some p]
def rowU (m : Md) (n : Str) (f : List (Option Pr)) (last : Option Pr) : List (Option Pr) := (rowL m (last, n)).foldl addU f
def endsS (m : Md) (here : List (Option Pr)) (n : Str) : List (Option Pr) := here.foldl (rowU m n) []
def endsF (m : Md) (here : List (Option Pr)) (voice : List Str) : List (Option Pr) := voice.foldl (endsS m) here
/-- pairs of the model, each once -/
structure InF (m : Md) (f : List (Option Pr)) : Prop where
  nd : f.Nodup
  su : ∀ x ∈ f, ∃ p ∈ m.pairs, x = some p
theorem nd_len {α : Type} [DecidableEq α] : ∀ (l m : List α), l.Nodup → (∀ x ∈ l, x ∈ m) → l.length ≤ m.length
  | [], m, _, _ => Nat.zero_le _
  | x :: l, m, h, s => by
    rw [List.nodup_cons] at h
    have hx := s x (List.mem_cons_self ..)
    have ih := nd_len l (m.erase x) h.2 fun y hy => (List.mem_erase_of_ne fun e => h.1 (by rw [← e]; exact hy)).mpr (s y (List.mem_cons_of_mem _ hy))
    rw [List.length_erase_of_mem hx] at ih
    have := List.length_pos_of_mem hx
    rw [List.length_cons]
    omega
theorem InF.len {m : Md} {f : List (Option Pr)} (h : InF m f) : f.length ≤ m.pairs.length := by
  have z := nd_len f (m.pairs.map some) h.nd fun x hx => by
    obtain ⟨p, hp, rfl⟩ := h.su x hx
    exact List.mem_map.mpr ⟨p, hp, rfl⟩
  rw [List.length_map] at z
  exact z
theorem InF.nil {m : Md} : InF m [] := ⟨List.nodup_nil, fun x h => by simp at h⟩
theorem addU_in {m : Md} {f : List (Option Pr)} {p : Pr} (h : InF m f) (hp : p ∈ m.pairs) : InF m (addU f p) := by
  unfold addU
  split
  · exact h
  · rename_i c
    refine ⟨List.nodup_append.mpr ⟨h.nd, by simp, fun a ha b hb e => ?_⟩, fun x hx => ?_⟩
    · have hb : b = some p := by simpa using hb
      exact c (by rw [← hb, ← e]; exact ha)
    · rcases List.mem_append.mp hx with z | z
      · exact h.su x z
      · exact ⟨p, hp, by simpa using z⟩
theorem addAll_in {m : Md} : ∀ (l : List Pr) (f : List (Option Pr)), InF m f → (∀ p ∈ l, p ∈ m.pairs) → InF m (l.foldl addU f)
  | [], f, h, _ => h
  | p :: l, f, h, hl => addAll_in l _ (addU_in h (hl p (List.mem_cons_self ..))) fun q hq => hl q (List.mem_cons_of_mem _ hq)
theorem rowL_sub {m : Md} {x : Option Pr × Str} {p : Pr} (h : p ∈ rowL m x) : p ∈ m.pairs := (List.mem_filter.mp h).1
theorem rowU_in {m : Md} {n : Str} {f : List (Option Pr)} {last : Option Pr} (h : InF m f) : InF m (rowU m n f last) := addAll_in _ _ h fun _ hp => rowL_sub hp
theorem rows_in {m : Md} {n : Str} : ∀ (l : List (Option Pr)) (f : List (Option Pr)), InF m f → InF m (l.foldl (rowU m n) f)
  | [], f, h => h
  | x :: l, f, h => rows_in l _ (rowU_in h)
theorem endsS_in {m : Md} {here : List (Option Pr)} {n : Str} : InF m (endsS m here n) := rows_in _ _ .nil
theorem addU_mem {f : List (Option Pr)} {p : Pr} {x : Option Pr} : x ∈ addU f p ↔ x ∈ f ∨ x = some p := by
  unfold addU
  split
  · rename_i c
    exact ⟨.inl, fun h => h.elim id fun e => by rw [e]; exact c⟩
  · simp
theorem addAll_mem {x : Option Pr} : ∀ (l : List Pr) (f : List (Option Pr)), x ∈ l.foldl addU f ↔ x ∈ f ∨ ∃ p ∈ l, x = some p
  | [], f => by simp
  | p :: l, f => by
    rw [List.foldl_cons, addAll_mem l, addU_mem, or_assoc]
    simp
theorem rowU_mem {m : Md} {n : Str} {f : List (Option Pr)} {last x : Option Pr} : x ∈ rowU m n f last ↔ x ∈ f ∨ ∃ p ∈ rowL m (last, n), x = some p := addAll_mem _ _
theorem rows_mem {m : Md} {n : Str} {x : Option Pr} : ∀ (l : List (Option Pr)) (f : List (Option Pr)), x ∈ l.foldl (rowU m n) f ↔ x ∈ f ∨ ∃ last ∈ l, ∃ p ∈ rowL m (last, n), x = some p
  | [], f => by simp
  | y :: l, f => by
    rw [List.foldl_cons, rows_mem l, rowU_mem, or_assoc]
    simp
theorem endsS_mem {m : Md} {here : List (Option Pr)} {n : Str} {x : Option Pr} : x ∈ endsS m here n ↔ ∃ last ∈ here, ∃ p ∈ rowL m (last, n), x = some p := by
  unfold endsS
  rw [rows_mem]
  simp
/-- lasts of the model, few -/
structure OkE (m : Md) (h : List (Option Pr)) : Prop where
  su : ∀ x ∈ h, x ∈ lastsL m
  le : h.length ≤ 1000
theorem InF.oke {m : Md} (g : Wm m) {f : List (Option Pr)} (h : InF m f) : OkE m f := ⟨fun x hx => by
  obtain ⟨p, hp, rfl⟩ := h.su x hx
  unfold lastsL
  exact List.mem_cons_of_mem _ (List.mem_map.mpr ⟨p, hp, rfl⟩), by
  have := h.len
  have := g.pl
  omega⟩
theorem oke_F {m : Md} (g : Wm m) : ∀ (v : List Str) (h : List (Option Pr)), OkE m h → OkE m (endsF m h v)
  | [], h, k => k
  | n :: v, h, k => oke_F g v _ (endsS_in.oke g)
theorem last_ok {m : Md} (g : Wm m) {x : Option Pr} (h : x ∈ lastsL m) : okO x := by
  cases x with
  | none => trivial
  | some q =>
    unfold lastsL at h
    exact g.po q (by simpa using h)
section
variable {P : Program} {w : World} {K : PySem.W.Frag} {mg : Str → Option Value} {base : Heap}
abbrev sEnd : Stmt := (topS 48)
abbrev nEnd : List Str := ["_law_table_here", "_law_starts", "_law_voice_here", "_law_here", "_law_note", "_law_found", "_law_last", "_law_pair"]
theorem sc_end : FnScope nEnd ["_law_table_here", "_law_starts", "_law_voice_here"] (defScope sEnd) := ⟨rfl, rfl, rfl, by decide +kernel, rfl, by decide +kernel, by decide +kernel⟩
abbrev lstsA (l : List (Option Pr)) : As := lstA (l.map lstOf)
structure EndI (m : Md) (st : List (Option Pr)) (vo : List Str) : Prop where
  g : Wm m
  st : OkE m st
  vo : ∀ n ∈ vo, n ∈ m.names
abbrev spEnd (w : World) : Sp := spX (fun i : Md × List (Option Pr) × List Str => EndI i.1 i.2.1 i.2.2) (fun i => [tblA w i.1, lstsA i.2.1, lstA (i.2.2.map str)]) (fun i => lstsA (endsF i.1 i.2.1 i.2.2))
theorem ok_end {f : Addr} {fd : FuncData} (F : Fun K "_law_ends" "_law_ends" sEnd f fd) (mL : mg "list" = none) : FnOk P w K mg base CX0 1 f fd ["_law_table_here", "_law_starts", "_law_voice_here"] (spEnd w) := by
  refine fn_ok F sc_end (fun _ _ => rfl) fun ⟨m, st, vo⟩ cdv B0 outer s H E ⟨g, hst, hvo⟩ hr => ?_
  have nd := sc_end.nd
  have g : Wm m := g
  have hst : OkE m st := hst
  have hvo : ∀ n ∈ vo, n ∈ m.names := hvo
  have pl := g.pl
  let ρ0 (h : List (Option Pr)) : List En := [.fr (tblA w m), .fr (lstsA st), .fr (lstA (vo.map str)), .fr (lstsA h), .no, .no, .no, .no]
  refine ba_cons (sa_setN 3 nd (en_listL (ea_l (ea_var 1 rfl)) mL) ?_)
  refine ba_free (i := 3) rfl ?_
  refine ba_cons (sa_for (l := vo.map str) 4 (fun i ρ' => ρ' = ρ0 (endsF m st (vo.take i))) PassesOwn.never rfl nd (ea_var 2 rfl) ⟨_, rfl, Le.refl _⟩ ?hs ?hd)
  case hd =>
    rintro ρ' rfl
    rw [List.length_map, List.take_length]
    exact ba_one (sa_ret (ea_var 3 rfl))
  case hs =>
    rintro i A ρ' hi rfl
    rw [List.getElem?_map] at hi
    cases e : vo[i]? with
    | none => rw [e] at hi; cases hi
    | some n =>
      rw [e] at hi
      have hi : str n = A := by simpa using hi
      subst hi
      have hn := hvo n (List.mem_of_getElem? e)
      have ok := oke_F g (vo.take i) st hst
      have tk : endsF m st (vo.take (i + 1)) = endsS m (endsF m st (vo.take i)) n := by
        unfold endsF
        rw [List.take_add_one, e, List.foldl_append]
        rfl
      rw [tk]
      generalize endsF m st (vo.take i) = h at ok
      refine ba_cons (sa_setN 5 nd (en_lst eas_nil (Nat.zero_le _)) ?_)
      let ρ1 (f : List (Option Pr)) : List En := [.fr (tblA w m), .fr (lstsA st), .fr (lstA (vo.map str)), .fr (lstsA h), .fr (str n), .own (f.map lstOf), .no, .no]
      refine ba_cons (sa_for (l := h.map lstOf) 6 (fun j ρ' => ρ' = ρ1 ((h.take j).foldl (rowU m n) [])) PassesOwn.never rfl nd (ea_var 3 rfl) ⟨_, rfl, Le.refl _⟩ ?hs2 ?hd2)
      case hd2 =>
        rintro ρ' rfl
        rw [List.length_map, List.take_length]
        refine ba_free (i := 5) rfl (ba_one (sa_set 3 nd (ea_var 5 rfl) ⟨_, rfl, ?_⟩))
        exact .same (.same (.same (.same (.no (.no (.no (.no .nil)))))))
      case hs2 =>
        rintro j A ρ' hj rfl
        rw [List.getElem?_map] at hj
        cases e2 : h[j]? with
        | none => rw [e2] at hj; cases hj
        | some last =>
          rw [e2] at hj
          have hj : lstOf last = A := by simpa using hj
          subst hj
          have hlast := ok.su last (List.mem_of_getElem? e2)
          have tk2 : (h.take (j + 1)).foldl (rowU m n) [] = (rowL m (last, n)).foldl addU ((h.take j).foldl (rowU m n) []) := by
            rw [List.take_add_one, e2, List.foldl_append]
            rfl
          rw [tk2]
          have inf : InF m ((h.take j).foldl (rowU m n) []) := rows_in _ _ .nil
          generalize (h.take j).foldl (rowU m n) [] = f0 at inf
          let ρ2 (f : List (Option Pr)) : List En := [.fr (tblA w m), .fr (lstsA st), .fr (lstA (vo.map str)), .fr (lstsA h), .fr (str n), .own (f.map lstOf), .fr (lstOf last), .no]
          refine ba_one (sa_for (l := (rowL m (last, n)).map prA) 7 (fun k ρ' => ρ' = ρ2 (((rowL m (last, n)).take k).foldl addU f0)) PassesOwn.never rfl nd (ea_getN hr (ea_var 0 rfl) (ea_imp (ea_tup (l := [lstOf last, str n]) (eas_cons (ea_var 6 rfl) (eas_cons (ea_var 4 rfl) eas_nil)) (by show 2 ≤ sizeLine; decide)) (nk_key last n)) fdT (tbl_get hlast hn)) ⟨_, rfl, Le.refl _⟩ ?hs3 ?hd3)
          case hd3 =>
            rintro ρ' rfl
            rw [List.length_map, List.take_length]
            exact ⟨_, rfl, .same (.same (.same (.same (.same (.same (.no (.no .nil)))))))⟩
          case hs3 =>
            rintro k A ρ' hk rfl
            rw [List.getElem?_map] at hk
            cases e3 : (rowL m (last, n))[k]? with
            | none => rw [e3] at hk; cases hk
            | some p =>
              rw [e3] at hk
              have hk : prA p = A := by simpa using hk
              subst hk
              have hp := rowL_sub (List.mem_of_getElem? e3)
              have tk3 : ((rowL m (last, n)).take (k + 1)).foldl addU f0 = addU (((rowL m (last, n)).take k).foldl addU f0) p := by
                rw [List.take_add_one, e3, List.foldl_append]
                rfl
              rw [tk3]
              have inf3 : InF m (((rowL m (last, n)).take k).foldl addU f0) := addAll_in _ _ inf fun q hq => rowL_sub (List.mem_of_mem_take hq)
              generalize ((rowL m (last, n)).take k).foldl addU f0 = ff at inf3
              have fl := inf3.len
              have fo : okL okO ff := fun x hx => by
                obtain ⟨q, hq, rfl⟩ := inf3.su x hx
                exact g.po q hq
              refine ba_one (sa_if (k := !decide (some p ∈ ff)) (et_cm (ea_w (ea_var 7 rfl)) (el_w (el_var 5 rfl)) (cm_notinD (f := lstOf) (a := some p) hr enc_last (g.po p hp) fo) rfl) (fun c => ?_) (fun c => ba_nil ?_))
              · refine ba_one (sa_app 5 rfl (pe_app 5 (ea_var 7 rfl)) (by rw [List.length_map, sizeLine_eq]; omega) ⟨_, rfl, ?_⟩)
                have c : ¬ some p ∈ ff := by simpa using c
                unfold addU
                rw [if_neg c]
                show Le [_, _, _, _, _, En.own ((ff ++ [some p]).map lstOf), _, _] _
                rw [List.map_append]
                exact .same (.same (.same (.same (.same (.same (.same (.no .nil)))))))
              · refine ⟨_, rfl, ?_⟩
                have c : some p ∈ ff := by simpa using c
                unfold addU
                rw [if_pos c]
                exact .same (.same (.same (.same (.same (.same (.same (.no .nil)))))))
end
end Kv

set_option Elab.async false
set_option linter.all false
set_option maxRecDepth 100000
set_option maxHeartbeats 4000000
namespace Kv
open PySem PySem.Calls L2 Lk
/-! ### _law_voice -/
theorem getD_mem {nm : List Str} {i : Nat} (lt : i < nm.length) : nm.getD i "" ∈ nm := by
  rw [List.getD_eq_getElem?_getD, List.getElem?_eq_getElem lt]
  exact List.getElem_mem lt
theorem getD_map {nm : List Str} {i : Nat} (lt : i < nm.length) : (nm.map str)[i]? = some (str (nm.getD i "")) := by
  rw [List.getElem?_map, List.getD_eq_getElem?_getD, List.getElem?_eq_getElem lt]
  rfl
section
variable {P : Program} {w : World} {K : PySem.W.Frag} {mg : Str → Option Value} {base : Heap}
abbrev sVoi : Stmt := (topS 50)
abbrev nVoi : List Str := ["_law_script", "_law_k", "_law_names_here", "_law_top_depth", "_law_digits_here", "_law_size", "_law_j"]
theorem sc_voi : FnScope nVoi ["_law_script", "_law_k", "_law_names_here", "_law_top_depth"] (defScope sVoi) := ⟨rfl, rfl, rfl, by decide +kernel, rfl, by decide +kernel, by decide +kernel⟩
structure VoI where
  ns : List Int
  k : Nat
  nm : List Str
  top : Nat
def VoIn (nm : List Str) (top : Nat) (v : List Str) : Prop := (∀ n ∈ v, n ∈ nm) ∧ v.length ≤ top
abbrev spVoi (K : PySem.W.Frag) : Sp := spX (fun i : VoI => i.k ≤ 1000 ∧ i.nm.length ≤ 1000 ∧ i.top ≤ 200) (fun i => [scr K i.ns, int (i.k : Int), lstA (i.nm.map str), int (i.top : Int)]) (fun i => exA (VoIn i.nm i.top) (fun v => lstA (v.map str)))
theorem ok_voi {f : Addr} {fd : FuncData} (F : Fun K "_law_voice" "_law_voice" sVoi f fd) (mI : mg "int" = none) (mR : mg "range" = none) (mL : mg "len" = none) (DD : Df P w K mg base 2 "_law_digits" ["_law_script", "_law_k", "_law_count"] (spDigits K)) : FnOk P w K mg base CX0 3 f fd ["_law_script", "_law_k", "_law_names_here", "_law_top_depth"] (spVoi K) := by
  refine fn_ok F sc_voi (fun _ _ => rfl) fun ⟨ns, k, nm, top⟩ cdv B0 outer s H E ⟨hk, hnm, htop⟩ hr => ?_
  have nd := sc_voi.nd
  have hk : k ≤ 1000 := hk
  have hnm : nm.length ≤ 1000 := hnm
  have htop : top ≤ 200 := htop
  refine ba_cons (sa_set 4 nd (ea_call DD hr (ns, k, top + 2) ⟨hk, show top + 2 ≤ 1000 by omega⟩ (eas_cons (ea_var 0 rfl) (eas_cons (ea_var 1 rfl) (eas_cons (ea_is (ea_add (ea_w (ea_var 3 rfl)) (ea_w ea_int)) (by push_cast; rfl)) eas_nil)))) ?_)
  refine ba_ex (i := 4) rfl fun ds hD => ?_
  have hD : Digs (top + 2) ds := hD
  have b0 := digb hD 0
  have b1 := digb hD 1
  refine ba_cons (sa_set 5 nd (ea_mod (ea_w (ea_int1 (ea_w (ea_add (ea_w (ea_mul (ea_w ea_int) (ea_w (ea_ixL (ea_l (ea_var 4 rfl)) (ea_w ea_int) rfl (dig hD (i := 0) (by omega)))) (.inl ⟨by omega, by omega⟩))) (ea_w (ea_ixL (ea_l (ea_var 4 rfl)) (ea_w ea_int) rfl (dig hD (i := 1) (by omega)))))) mI)) (ea_w (ea_add (ea_w (ea_var 3 rfl)) (ea_w ea_int))) (by omega)) ?_)
  generalize hz : (12 * ds.getD 0 0 + ds.getD 1 0) % ((top : Int) + 1) = z
  have z0 : 0 ≤ z := by rw [← hz]; exact Int.emod_nonneg _ (by omega)
  have z1 : z < (top : Int) + 1 := by rw [← hz]; exact Int.emod_lt_of_pos _ (by omega)
  refine ba_cons (sa_nx (Mid := fun ρ' => ∃ r : Int, 0 ≤ r ∧ r ≤ top ∧ (nm.length = 0 → r = 0) ∧ ρ' = [.fr (scr K ns), .fr (int (k : Int)), .fr (lstA (nm.map str)), .fr (int (top : Int)), .fr (lstA (ds.map int)), .fr (int r), .no]) (sa_if (et_cm (ea_w (ea_lenL (ea_l (ea_var 2 rfl)) mL)) (ea_w ea_int) cm_eqI rfl) (fun h => ?_) (fun h => ?_)) ?_)
  · exact ba_one (sa_set 5 nd ea_int ⟨0, by omega, by omega, fun _ => rfl, rfl⟩)
  · have h : ¬ ((nm.map str).length : Int) = 0 := of_decide_eq_false h
    rw [List.length_map] at h
    exact ba_nil ⟨z, z0, by omega, fun e => by omega, rfl⟩
  rintro ρ' ⟨r, r0, r1, re, rfl⟩
  let gn : Nat → Str := fun j => nm.getD ((ds.getD (2 + j) 0) % (nm.length : Int)).toNat ""
  refine ba_one (sa_ret (ea_imp (A := lstA ((List.range r.toNat).map fun j => str (gn j))) (ea_is (en_a (en_lcR (own := [("_law_j", 6)]) (z := r) (p := fun _ => true) (g := fun j => str (gn j)) 6 rfl nd mR (ea_w (ea_var 5 rfl)) ⟨by omega, by omega⟩ (blkOk_by (N := nVoi) (sc := defScope sVoi) (by decide +kernel)) (fun _ _ _ _ _ => pg_name nd rfl (Or.inl rfl)) (fun _ _ _ _ _ _ _ => pts_yes) (fun _ _ _ _ _ j hj _ => ?el))) (by rw [List.filter_eq_self.mpr fun _ _ => rfl])) fun F v hv => ⟨(List.range r.toNat).map gn, ⟨fun n hn => ?_, ?_⟩, ?_⟩))
  case el =>
    have hj : j < r.toNat := by simpa using hj
    have ne : nm.length ≠ 0 := fun e => by have := re e; omega
    have dj := digb hD (2 + j)
    have m0 : 0 ≤ (ds.getD (2 + j) 0) % (nm.length : Int) := Int.emod_nonneg _ (by omega)
    have m1 : (ds.getD (2 + j) 0) % (nm.length : Int) < nm.length := Int.emod_lt_of_pos _ (by omega)
    refine ea_ixL (j := ((ds.getD (2 + j) 0) % (nm.length : Int)).toNat) (ea_l (ea_var 2 rfl)) (ea_w (ea_mod (ea_w (ea_int1 (ea_w (ea_ixL (j := 2 + j) (ea_l (ea_var 4 rfl)) (ea_w (ea_add (ea_w ea_int) (ea_w (ea_var 6 rfl)))) (by push_cast; rfl) (dig hD (by omega)))) mI)) (ea_w (ea_is (ea_lenL (ea_l (ea_var 2 rfl)) mL) (by rw [List.length_map]))) (by omega))) (Int.toNat_of_nonneg m0).symm ?_
    exact getD_map ((by omega : ((ds.getD (2 + j) 0) % (nm.length : Int)).toNat < nm.length))
  · obtain ⟨j, hj, rfl⟩ := List.mem_map.mp hn
    have hj := List.mem_range.mp hj
    have ne : nm.length ≠ 0 := fun e => by have := re e; omega
    have m0 : 0 ≤ (ds.getD (2 + j) 0) % (nm.length : Int) := Int.emod_nonneg _ (by omega)
    have m1 : (ds.getD (2 + j) 0) % (nm.length : Int) < nm.length := Int.emod_lt_of_pos _ (by omega)
    have lt : ((ds.getD (2 + j) 0) % (nm.length : Int)).toNat < nm.length := by omega
    exact getD_mem lt
  · rw [List.length_map, List.length_range]
    show _ ≤ top
    omega
  · show (lstA (((List.range r.toNat).map gn).map str)).p F v
    rw [List.map_map]
    exact hv
end
end Kv

set_option Elab.async false
set_option linter.all false
set_option maxRecDepth 100000
set_option maxHeartbeats 4000000
namespace Kv
open PySem PySem.Calls L2 Lk
/-! ### _law_closed -/
def cloL (m : Md) : Option Pr → Bool
  | none => true
  | some q => decide (q ∈ m.closes)
theorem take_any {α : Type} {f : α → Bool} {l : List α} {i : Nat} {a : α} (e : l[i]? = some a) (h : (l.take i).any f = false) (c : f a = false) : (l.take (i + 1)).any f = false := by
  rw [List.take_add_one, e, List.any_append, h]
  simp [c]
section
variable {P : Program} {w : World} {K : PySem.W.Frag} {mg : Str → Option Value} {base : Heap}
abbrev sClo : Stmt := (topS 49)
abbrev nClo : List Str := ["_law_model", "_law_table_here", "_law_starts", "_law_voice_here", "_law_last"]
theorem sc_clo : FnScope nClo ["_law_model", "_law_table_here", "_law_starts", "_law_voice_here"] (defScope sClo) := ⟨rfl, rfl, rfl, by decide +kernel, rfl, by decide +kernel, by decide +kernel⟩
structure ClI (m : Md) (st : List (Option Pr)) (vo : List Str) : Prop where
  e : EndI m st vo
  c : okL okPr m.closes
abbrev spClo (w : World) : Sp := spX (fun i : Md × List (Option Pr) × List Str => ClI i.1 i.2.1 i.2.2) (fun i => [mdA i.1, tblA w i.1, lstsA i.2.1, lstA (i.2.2.map str)]) (fun i => bl ((endsF i.1 i.2.1 i.2.2).any (cloL i.1)))
theorem ok_clo {f : Addr} {fd : FuncData} (F : Fun K "_law_closed" "_law_closed" sClo f fd) (DE : Df P w K mg base 1 "_law_ends" ["_law_table_here", "_law_starts", "_law_voice_here"] (spEnd w)) : FnOk P w K mg base CX0 2 f fd ["_law_model", "_law_table_here", "_law_starts", "_law_voice_here"] (spClo w) := by
  refine fn_ok F sc_clo (fun _ _ => rfl) fun ⟨m, st, vo⟩ cdv B0 outer s H E ⟨hE, hC⟩ hr => ?_
  have nd := sc_clo.nd
  have hE : EndI m st vo := hE
  have hC : okL okPr m.closes := hC
  have oe := oke_F hE.g vo st hE.st
  let ρ0 : List En := [.fr (mdA m), .fr (tblA w m), .fr (lstsA st), .fr (lstA (vo.map str)), .no]
  refine ba_cons (sa_for (l := (endsF m st vo).map lstOf) 4 (fun i ρ' => ((endsF m st vo).take i).any (cloL m) = false ∧ ρ' = ρ0) PassesOwn.never rfl nd (ea_callB DE hr (m, st, vo) hE (rfl : _ = lstsA (endsF m st vo)) (eas_cons (ea_var 1 rfl) (eas_cons (ea_var 2 rfl) (eas_cons (ea_var 3 rfl) eas_nil)))) ⟨_, ⟨rfl, rfl⟩, Le.refl _⟩ ?hs ?hd)
  case hd =>
    rintro ρ' ⟨h, rfl⟩
    rw [List.length_map, List.take_length] at h
    exact ba_one (sa_ret (ea_is ea_bl (by show bl false = bl _; rw [h])))
  case hs =>
    rintro i A ρ' hi ⟨hno, rfl⟩
    rw [List.getElem?_map] at hi
    cases e : (endsF m st vo)[i]? with
    | none => rw [e] at hi; cases hi
    | some last =>
      rw [e] at hi
      have hi : lstOf last = A := by simpa using hi
      subst hi
      have hm := List.mem_of_getElem? e
      have lo := last_ok hE.g (oe.su last hm)
      have yes : cloL m last = true → bl true = bl ((endsF m st vo).any (cloL m)) := fun c => by rw [List.any_eq_true.mpr ⟨last, hm, c⟩]
      cases last with
      | none => exact ba_one (sa_if (k := true) (et_w (ewt_or (j := true) (k := true) (et_cm (ea_w (ea_var 4 rfl)) (ea_w ea_non) isN0 rfl) fun h => by cases h)) (fun _ => ba_one (sa_ret (ea_is ea_bl (yes rfl)))) (fun h => by cases h))
      | some q =>
        refine ba_one (sa_if (k := false || decide (q ∈ m.closes)) (et_w (ewt_or (j := false) (k := decide (q ∈ m.closes)) (et_cm (ea_w (ea_var 4 rfl)) (ea_w ea_non) isN1 rfl) fun _ => ewt_or1 (et_cm (ea_w (ea_var 4 rfl)) (ea_w (ea_ixL (ea_l (ea_var 0 rfl)) (ea_w ea_int) rfl (j := 3) rfl)) (cm_inD hr enc_pr lo hC) rfl))) (fun h => ?_) (fun h => ?_))
        · have h : decide (q ∈ m.closes) = true := h
          exact ba_one (sa_ret (ea_is ea_bl (yes h)))
        · have h : decide (q ∈ m.closes) = false := h
          exact ba_nil ⟨ρ0, ⟨take_any e hno h, rfl⟩, .same (.same (.same (.same (.no .nil))))⟩
end
end Kv

set_option Elab.async false
set_option linter.all false
set_option maxRecDepth 100000
set_option maxHeartbeats 4000000
namespace Kv
open PySem PySem.Calls L2 Lk NdefX
section
variable {P : Program} {w : World} {K : PySem.W.Frag} {mg : Str → Option Value} {base h : Heap} {C CP : Addr}
/-! ### BadPlace -/
abbrev sBpl : Stmt := (inClass (topS 9) 0)
theorem sc_bpl : NScope ["self", "place", "__class__"] ["self", "place"] ["__class__"] (defScope sBpl) := ⟨rfl, rfl, rfl, by decide +kernel, rfl, by decide +kernel, by decide +kernel, by decide +kernel, by decide +kernel⟩
theorem er_bpl (E : ExAt P K CP "BadPlace" "BadPlace.__init__" "place" sBpl) (X : K.In h) (G : h.Ns mainGlobals mg) : EPl P w K mg base CP := by
  obtain ⟨f, cc, cda, fd, a, ty, T⟩ := E.ex
  have T := T mg (PySem.W.mg_none_of X G E.su)
  refine ⟨PySem.W.mg_of X G E.nm, E.O, f, fd, "self", "place", a, ty, ?_, ?_⟩
  · refine ok_excI (nf := ⟨"__init__", "BadPlace.__init__", defArgs sBpl, defBody sBpl, defScope sBpl, [("__class__", cc)], cda⟩) rfl T E.O E.no sc_bpl (by decide +kernel) rfl rfl rfl (fun _ => rfl) (fun _ => rfl) (fun _ => ⟨_, rfl⟩) (fun _ => rfl) (fun _ => rfl) rfl rfl ?_ ?_
    · intro i a A outer s H E hi hr
      exact ea_fsI (ea_w (ea_var 1 rfl)) (by have : i.natAbs.log2 < 1000 := hi; omega) (by decide)
    · intro i a A outer s H E hi hr
      exact ea_var 1 rfl
  · obtain ⟨oc, od, kV, doc, pm, an, ct, osl, rfl, lk⟩ := T.lk
    intro s us I hl
    match us, hl with
    | [_, _], _ => exact .of_eq rfl
end
end Kv

set_option Elab.async false
set_option linter.all false
set_option maxRecDepth 100000
set_option maxHeartbeats 4000000
namespace Kv
open PySem PySem.Calls L2 Lk
/-! ### the rules that a piece uses -/
def openR (p : Pr) : List Str := ["open", p.1, p.2]
def closeR (p : Pr) : List Str := ["close", p.1, p.2]
def lastP (p : Pr) (r : List Pr) : Pr := (p :: r).getLast (by simp)
def usedR : List Pr → List (List Str)
  | [] => []
  | p :: r => (p :: r).map pairR ++ (openR p :: closeR (lastP p r) :: ((p :: r).zip r).map stepR)
theorem snoc_last (p : Pr) (r : List Pr) : ∃ l, p :: r = l ++ [lastP p r] := ⟨(p :: r).dropLast, (List.dropLast_concat_getLast (by simp)).symm⟩
section
variable {P : Program} {w : World} {K : PySem.W.Frag} {mg : Str → Option Value} {base : Heap} {C CM : Addr}
abbrev sUby : Stmt := (topS 23)
abbrev nUby : List Str := ["piece", "pairs", "steps", "pair", "first", "second"]
theorem sc_uby : FnScope nUby ["piece"] (defScope sUby) := ⟨rfl, rfl, rfl, by decide +kernel, rfl, by decide +kernel, by decide +kernel⟩
abbrev spUby : Sp := spX (fun i : Bool × List Pr => i.2.length ≤ 1000) (fun i => [sq i.1 (i.2.map prA)]) (fun i => rulesA (usedR i.2))
theorem ea_rule3 {X : Cx} {ρ : List En} {pos p1 pos' : Pos} {j x1} {e : Expr} {p : Pr} {z : Str} (he : EA X e ρ (prA p)) (hs : starEach (.Constant (.str z) j p1 :: [.Starred e pos']) X.env = (false, eval (.Constant (.str z) j p1) X.env) :: starEach [.Starred e pos'] X.env := by rfl)
    (hs2 : starEach (.Starred e pos' :: []) X.env = (true, eval e X.env) :: starEach [] X.env := by rfl) : EA X (.Tuple [.Constant (.str z) j p1, .Starred e pos'] x1 pos) ρ (ruleA [z, p.1, p.2]) :=
  ea_is (ea_tup (l := [str z, str p.1, str p.2]) (eas_cons ea_str (eas_star (la := [str p.1, str p.2]) (lb := []) he eas_nil hs2) hs) (by show 3 ≤ sizeLine; rw [sizeLine_eq]; decide)) rfl
theorem ok_uby {f : Addr} {fd : FuncData} (F : Fun K "used_by" "used_by" sUby f fd) (mL : mg "len" = none) (mZ : mg "zip" = none) : FnOk P w K mg base CX0 1 f fd ["piece"] spUby := by
  refine fn_ok F sc_uby (fun _ _ => rfl) fun ⟨q, l⟩ cdv B outer s H E hl hr => ?_
  have nd := sc_uby.nd
  have hl : l.length ≤ 1000 := hl
  refine ba_cons (sa_if (et_cm (ea_w (ea_lenSq (ea_var 0 rfl) mL)) (ea_w ea_int) cm_eqI rfl) (fun h => ?_) (fun h => ba_nil ?_))
  · have h : ((l.map prA).length : Int) = 0 := of_decide_eq_true h
    have e : l = [] := List.eq_nil_of_length_eq_zero (by rw [List.length_map] at h; omega)
    subst e
    exact ba_one (sa_ret (en_a (en_lst eas_nil (Nat.zero_le _))))
  · have h : ¬ ((l.map prA).length : Int) = 0 := of_decide_eq_false h
    match l, hl, h with
    | [], _, h => exact absurd rfl h
    | p :: r, hl, _ =>
    have hl : r.length + 1 ≤ 1000 := hl
    refine ba_cons (sa_setLcS (own := [("pair", 3)]) 1 3 (l := p :: r) (enc := prA) (p := fun _ => true) (g := fun p => ruleA (pairR p)) rfl nd (es_sq (ea_var 0 rfl)) (by rw [sizeLine_eq, List.length_cons]; omega) (blkOk_by (N := nUby) (sc := defScope sUby) (by decide +kernel)) (fun _ _ _ _ _ => pg_name nd rfl (Or.inl rfl)) (fun _ _ _ _ _ _ _ => pts_yes) (fun _ _ _ _ _ p _ _ => ea_rule3 (ea_var 3 rfl)) ?_)
    rw [flt_all]
    refine ba_cons (sa_setLcZ2 (own := [("first", 4), ("second", 5)]) 2 4 5 (l := (p :: r).zip r) (e1 := fun x => prA x.1) (e2 := fun x => prA x.2) (g := fun x => ruleA (stepR x)) rfl nd mZ (eas_cons (ea_var 0 rfl) (eas_cons (ea_sl1 (ea_var 0 rfl) (ea_w ea_int)) eas_nil)) ?z1 ?z2 (.inr (by rw [List.length_zip, List.length_map, List.length_cons]; omega)) (by rw [List.length_zip, sizeLine_eq, List.length_cons]; omega) (blkOk_by (N := nUby) (sc := defScope sUby) (by decide +kernel))
      (fun _ _ _ _ _ => pg_tup rfl (pgs_cons (pg_name nd rfl (Or.inl rfl)) (pgs_cons (pg_name nd rfl (Or.inl rfl)) pgs_nil))) (fun _ _ _ _ _ x _ => ?el) ?_)
    case z1 =>
      intro i x hx
      obtain ⟨h1, h2⟩ := List.getElem?_zip_eq_some.mp hx
      show ((p :: r).map prA)[i]? = some (prA x.1)
      rw [List.getElem?_map, h1]
      rfl
    case z2 =>
      intro i x hx
      obtain ⟨h1, h2⟩ := List.getElem?_zip_eq_some.mp hx
      show (r.map prA)[i]? = some (prA x.2)
      rw [List.getElem?_map, h2]
      rfl
    case el =>
      exact ea_is (ea_tup (l := [str "step", str x.1.1, str x.1.2, str x.2.1, str x.2.2]) (eas_cons ea_str (eas_star (la := [str x.1.1, str x.1.2]) (lb := [str x.2.1, str x.2.2]) (ea_var 4 rfl) (eas_star (la := [str x.2.1, str x.2.2]) (lb := []) (ea_var 5 rfl) eas_nil))) (by show 5 ≤ sizeLine; rw [sizeLine_eq]; decide)) rfl
    refine ba_free (i := 1) rfl (ba_free (i := 2) rfl ?_)
    obtain ⟨l0, e0⟩ := snoc_last p r
    have lz : ((p :: r).zip r).length ≤ 1000 := by rw [List.length_zip, List.length_cons]; omega
    refine ba_one (sa_ret (ea_is (en_a (en_lst (eas_starL (ea_var 1 rfl) (eas_cons (ea_rule3 (p := p) (ea_ixSq (j := 0) (ea_var 0 rfl) (ea_w ea_int) rfl rfl)) (eas_cons (ea_rule3 (p := lastP p r) (ea_lastSq (q := q) (l := l0.map prA) (ea_is (ea_var 0 rfl) ?last) (ea_w (ea_neg (ea_w ea_int))))) (eas_starL (ea_var 2 rfl) eas_nil)))) ?len)) ?eq))
    case last =>
      show sq q ((p :: r).map prA) = _
      rw [e0, List.map_append]
      rfl
    case len =>
      rw [List.length_append, List.length_cons, List.length_cons, List.length_append, List.length_map, List.length_map, List.length_cons, List.length_nil, sizeLine_eq]
      omega
    case eq =>
      show lstA _ = lstA ((usedR (p :: r)).map ruleA)
      unfold usedR
      rw [List.append_nil]
      simp only [List.map_append, List.map_cons, List.map_map]
      rfl
/-! ### is_unbroken -/
abbrev sUnb : Stmt := (topS 24)
abbrev nUnb : List Str := ["book", "piece", "rule"]
theorem sc_unb : FnScope nUnb ["book", "piece"] (defScope sUnb) := ⟨rfl, rfl, rfl, by decide +kernel, rfl, by decide +kernel, by decide +kernel⟩
abbrev spUnb (C CM : Addr) : Sp := spX (fun i : Bk × Bool × List Pr => Okb i.1 ∧ i.2.2.length ≤ 1000) (fun i => [bookA C CM i.1, sq i.2.1 (i.2.2.map prA)]) (fun i => bl ((usedR i.2.2).all (conB i.1)))
theorem usedR_len : ∀ l : List Pr, (usedR l).length ≤ 2 * l.length + 2
  | [] => by simp [usedR]
  | p :: r => by
    unfold usedR
    rw [List.length_append, List.length_cons, List.length_cons, List.length_map, List.length_map, List.length_zip, List.length_cons]
    omega
theorem ok_unb {f : Addr} {fd : FuncData} (F : Fun K "is_unbroken" "is_unbroken" sUnb f fd) (T : BTx K C CM) (mA : mg "all" = none) (DU : Df P w K mg base 1 "used_by" ["piece"] spUby) (DC : Mf P w K mg base 2 C "__contains__" ["self", "rule"] (spCon C CM)) : FnOk P w K mg base CX0 3 f fd ["book", "piece"] (spUnb C CM) := by
  refine fn_ok F sc_unb (fun _ _ => rfl) fun ⟨B, q, l⟩ cdv B0 outer s H E ⟨hk, hl⟩ hr => ?_
  have nd := sc_unb.nd
  have hl : l.length ≤ 1000 := hl
  have hu := usedR_len l
  refine ba_one (sa_ret (ea_is (ea_all (bs := (usedR l).map (conB B)) (en_l (en_is (en_lcA (own := [("rule", 2)]) (l := usedR l) (enc := ruleA) (g := fun r => bl (conB B r)) 2 rfl nd (ea_l (ea_callB DU (hr.mono (show 1 ≤ 2 by decide)) (q, l) hl (rfl : _ = rulesA (usedR l)) (eas_cons (ea_var 1 rfl) eas_nil))) (by rw [sizeLine_eq]; omega) (blkOk_by (N := nUnb) (sc := defScope sUnb) (by decide +kernel)) (fun _ _ _ _ _ => pg_name nd rfl (Or.inl rfl)) (fun _ _ _ _ _ r _ => ?el)) (by rw [List.map_map]; rfl))) rfl mA) ?eq))
  case el => exact ea_inO DC hr (B, r) hk (ea_var 2 rfl) (ea_var 0 rfl) rfl rfl rfl
  case eq =>
    show bl _ = bl _
    rw [List.all_map]
    rfl
end
end Kv

set_option Elab.async false
set_option linter.all false
set_option maxRecDepth 100000
set_option maxHeartbeats 4000000
namespace Kv
open PySem PySem.Calls L2 Lk
/-! ### what the law says of a piece -/
def unbF (m : Md) : List Pr → Bool
  | [] => true
  | p :: r => (p :: r).all (fun x => decide (x ∈ m.pairs)) && ((p :: r).zip r).all (fun s => decide (s ∈ m.steps)) && (decide (p ∈ m.opens) && decide (lastP p r ∈ m.closes))
theorem unb_cons (m : Md) (p : Pr) (r : List Pr) : unbF m (p :: r) = ((p :: r).all (fun x => decide (x ∈ m.pairs)) && ((p :: r).zip r).all (fun s => decide (s ∈ m.steps)) && (decide (p ∈ m.opens) && decide (lastP p r ∈ m.closes))) := rfl
theorem mem_pairs {m : Md} (g : Good m) {p : Pr} : pairR p ∈ rulesOf m ↔ p ∈ m.pairs := by
  rw [rules_eq]
  constructor
  · intro h
    rcases List.mem_append.mp h with h | h
    · obtain ⟨q, hq, e⟩ := List.mem_map.mp h
      rw [← pairR_inj e]
      exact hq
    · exact absurd rfl (rest_ok g h).1
  · exact fun h => List.mem_append_left _ (List.mem_map.mpr ⟨p, h, rfl⟩)
theorem last_mem (p : Pr) (r : List Pr) : lastP p r ∈ p :: r := List.getLast_mem _
theorem unb_is {m : Md} (g : Good m) {f : List Str → Bool} (hf : ∀ r, f r = decide (r ∈ rulesOf m)) : ∀ l : List Pr, (usedR l).all f = unbF m l
  | [] => rfl
  | p :: r => by
    unfold usedR
    rw [unb_cons, List.all_append, List.all_cons, List.all_cons, List.all_map, List.all_map]
    have e1 : ((p :: r).all (f ∘ pairR)) = (p :: r).all (fun x => decide (x ∈ m.pairs)) := by
      congr 1
      funext x
      show f (pairR x) = _
      rw [hf, decide_eq_decide]
      exact mem_pairs g
    have e2 : (((p :: r).zip r).all (f ∘ stepR)) = ((p :: r).zip r).all (fun s => decide (s ∈ m.steps)) := by
      congr 1
      funext x
      show f (stepR x) = _
      rw [hf, decide_eq_decide]
      exact mem_steps g
    rw [e1, e2]
    cases h : (p :: r).all (fun x => decide (x ∈ m.pairs)) with
    | false => rfl
    | true =>
      have hm := fun x hx => of_decide_eq_true (List.all_eq_true.mp h x hx)
      have e3 : f (openR p) = decide (p ∈ m.opens) := by rw [hf, decide_eq_decide]; exact mem_opens g (hm p List.mem_cons_self)
      have e4 : f (closeR (lastP p r)) = decide (lastP p r ∈ m.closes) := by rw [hf, decide_eq_decide]; exact mem_closes g (hm _ (last_mem p r))
      rw [e3, e4]
      cases decide (p ∈ m.opens) <;> cases decide (lastP p r ∈ m.closes) <;> cases ((p :: r).zip r).all (fun s => decide (s ∈ m.steps)) <;> rfl
def okSt (s : Pr × Pr) : Prop := okL okPr [s.1, s.2]
theorem okSt_of {s : Pr × Pr} (h1 : okPr s.1) (h2 : okPr s.2) : okSt s := fun p hp => by
  rcases List.mem_cons.mp hp with e | e
  · rw [e]; exact h1
  · rw [List.mem_singleton.mp e]; exact h2
theorem enc_st {K : PySem.W.Frag} : Enc K 2 stA okSt := enc_of (enc_tup enc_pr) (fun s : Pr × Pr => [s.1, s.2]) fun x y h => by
  have h : x.1 = y.1 ∧ x.2 = y.2 := by simpa using h
  exact Prod.ext h.1 h.2
theorem st_ok {m : Md} (g : Good m) : okL okSt m.steps := fun s hs => by
  have hp := g.st.subset hs
  unfold prod at hp
  obtain ⟨a, ha, hb⟩ := List.mem_flatMap.mp hp
  obtain ⟨b, hb, e⟩ := List.mem_map.mp hb
  rw [← e]
  exact okSt_of (g.okp ha) (g.okp hb)
theorem st_mem {m : Md} (g : Good m) {s : Pr × Pr} (hs : s ∈ m.steps) : s.1 ∈ m.pairs ∧ s.2 ∈ m.pairs := by
  have hp := g.st.subset hs
  unfold prod at hp
  obtain ⟨a, ha, hb⟩ := List.mem_flatMap.mp hp
  obtain ⟨b, hb, e⟩ := List.mem_map.mp hb
  rw [← e]
  exact ⟨ha, hb⟩
section
variable {P : Program} {w : World} {K : PySem.W.Frag} {mg : Str → Option Value} {base : Heap} {C CM : Addr}
/-! ### _law_unbroken -/
abbrev sLub : Stmt := (topS 52)
abbrev nLub : List Str := ["_law_model", "_law_piece", "_law_pair", "_law_j"]
theorem sc_lub : FnScope nLub ["_law_model", "_law_piece"] (defScope sLub) := ⟨rfl, rfl, rfl, by decide +kernel, rfl, by decide +kernel, by decide +kernel⟩
abbrev OkPc (l : List Pr) : Prop := l.length ≤ 100 ∧ okL okPr l
abbrev spLub : Sp := spX (fun i : Md × List Pr => Good i.1 ∧ OkPc i.2) (fun i => [mdA i.1, prsA i.2]) (fun i => bl (unbF i.1 i.2))
theorem ok_lub {f : Addr} {fd : FuncData} (F : Fun K "_law_unbroken" "_law_unbroken" sLub f fd) (mL : mg "len" = none) (mR : mg "range" = none) : FnOk P w K mg base CX0 1 f fd ["_law_model", "_law_piece"] spLub := by
  refine fn_ok F sc_lub (fun _ _ => rfl) fun ⟨m, l⟩ cdv B outer s H E ⟨g, hl, ho⟩ hr => ?_
  have nd := sc_lub.nd
  have g : Good m := g
  have hl : l.length ≤ 100 := hl
  have ho : okL okPr l := ho
  have op : okL okPr m.pairs := fun p hp => g.okp hp
  have oo : okL okPr m.opens := fun p hp => g.okp (g.op.subset hp)
  have oc : okL okPr m.closes := fun p hp => g.okp (g.cl.subset hp)
  have os := st_ok g
  show BA _ _ _ _ { R := bl (unbF m l) }
  refine ba_cons (sa_if (et_cm (ea_w (ea_lenL (ea_l (ea_var 1 rfl)) mL)) (ea_w ea_int) cm_eqI rfl) (fun h => ?_) (fun h => ba_nil ?_))
  · have h : ((l.map prA).length : Int) = 0 := of_decide_eq_true h
    have e : l = [] := List.eq_nil_of_length_eq_zero (by rw [List.length_map] at h; omega)
    subst e
    exact ba_one (sa_ret ea_bl)
  · have h : ¬ ((l.map prA).length : Int) = 0 := of_decide_eq_false h
    match l, hl, ho, h with
    | [], _, _, h => exact absurd rfl h
    | p :: r, hl, ho, _ =>
    let ρ0 : List En := [.fr (mdA m), .fr (prsA (p :: r)), .no, .no]
    refine ba_cons (sa_for (l := (p :: r).map prA) 2 (fun n ρ' => ((p :: r).take n).all (fun x => decide (x ∈ m.pairs)) = true ∧ ρ' = ρ0) PassesOwn.never rfl nd (ea_var 1 rfl) ⟨_, ⟨rfl, rfl⟩, .refl _⟩ ?hs ?hd)
    case hs =>
      rintro n A ρ' hn ⟨hall, rfl⟩
      rw [List.getElem?_map] at hn
      cases e : (p :: r)[n]? with
      | none => rw [e] at hn; cases hn
      | some x =>
        rw [e] at hn
        have hn : prA x = A := by simpa using hn
        subst hn
        have hx := List.mem_of_getElem? e
        refine ba_one (sa_if (et_cm (ea_w (ea_var 2 rfl)) (ea_w (ea_ixL (ea_l (ea_var 0 rfl)) (ea_w ea_int) rfl (j := 1) rfl)) (cm_notin hr enc_pr (ho x hx) op) rfl) (fun z => ?_) (fun z => ba_nil ⟨ρ0, ⟨?_, rfl⟩, .same (.same (.no (.same .nil)))⟩))
        · refine ba_one (sa_ret (ea_is ea_bl ?_))
          have hx2 : ¬ x ∈ m.pairs := by simpa using z
          have q : (p :: r).all (fun x => decide (x ∈ m.pairs)) = false := by
            rw [List.all_eq_false]
            exact ⟨x, hx, by simp [hx2]⟩
          show bl false = bl (unbF m (p :: r))
          rw [unb_cons]
          rw [q]
          rfl
        · have hx2 : x ∈ m.pairs := by simpa using z
          rw [List.take_add_one, e, List.all_append, hall]
          simp [hx2]
    case hd =>
      rintro ρ' ⟨hall, rfl⟩
      rw [List.length_map, List.take_length] at hall
      refine ba_cons (sa_forR (z := (r.length : Int)) 3 (fun n ρ' => (((p :: r).zip r).take n).all (fun s => decide (s ∈ m.steps)) = true ∧ ρ' = ρ0) PassesOwn.never rfl nd mR (ea_w (ea_is (ea_sub (ea_w (ea_lenL (ea_l (ea_var 1 rfl)) mL)) (ea_w ea_int)) ?zz)) ⟨by omega, by have hl : r.length + 1 ≤ 100 := hl; omega⟩ ⟨_, ⟨rfl, rfl⟩, .refl _⟩ ?hs ?hd)
      case zz =>
        show int (((p :: r).map prA).length - 1) = int (r.length : Int)
        rw [List.length_map, List.length_cons]
        congr 1
        omega
      case hs =>
        rintro n ρ' hn ⟨hst, rfl⟩
        have hn : n < r.length := by simpa using hn
        obtain ⟨a, ha⟩ : ∃ a, (p :: r)[n]? = some a := ⟨_, List.getElem?_eq_getElem (by rw [List.length_cons]; omega)⟩
        obtain ⟨b, hb⟩ : ∃ b, r[n]? = some b := ⟨_, List.getElem?_eq_getElem hn⟩
        have hb2 : (p :: r)[n + 1]? = some b := by rw [List.getElem?_cons_succ]; exact hb
        have hab : ((p :: r).zip r)[n]? = some (a, b) := List.getElem?_zip_eq_some.mpr ⟨ha, hb⟩
        have oab : okSt (a, b) := okSt_of (ho a (List.mem_of_getElem? ha)) (ho b (List.mem_cons_of_mem _ (List.mem_of_getElem? hb)))
        refine ba_one (sa_if (et_cm (A := stA (a, b)) (ea_w (ea_tup (eas_cons (ea_ixL (j := n) (ea_l (ea_var 1 rfl)) (ea_w (ea_var 3 rfl)) rfl (by rw [List.getElem?_map, ha]; rfl)) (eas_cons (ea_ixL (j := n + 1) (ea_l (ea_var 1 rfl)) (ea_w (ea_add (ea_w (ea_var 3 rfl)) (ea_w ea_int))) (by push_cast; rfl) (by rw [List.getElem?_map, hb2]; rfl)) eas_nil)) (by show 2 ≤ sizeLine; rw [sizeLine_eq]; decide))) (ea_w (ea_ixL (ea_l (ea_var 0 rfl)) (ea_w ea_int) rfl (j := 4) rfl)) (cm_notin (f := stA) hr enc_st oab os) rfl) (fun z => ?_) (fun z => ba_nil ⟨ρ0, ⟨?_, rfl⟩, .same (.same (.same (.no .nil)))⟩))
        · refine ba_one (sa_ret (ea_is ea_bl ?_))
          have hx2 : ¬ (a, b) ∈ m.steps := by simpa using z
          have q : ((p :: r).zip r).all (fun s => decide (s ∈ m.steps)) = false := by
            rw [List.all_eq_false]
            exact ⟨(a, b), List.mem_of_getElem? hab, by simp [hx2]⟩
          show bl false = bl (unbF m (p :: r))
          rw [unb_cons]
          rw [q, hall]
          rfl
        · have hx2 : (a, b) ∈ m.steps := by simpa using z
          rw [List.take_add_one, hab, List.all_append, hst]
          simp [hx2]
      case hd =>
        rintro ρ' ⟨hst, rfl⟩
        have e0 : ((p :: r).zip r).take ((r.length : Int)).toNat = (p :: r).zip r := by
          rw [Int.toNat_natCast]
          refine List.take_of_length_le ?_
          rw [List.length_zip, List.length_cons]
          omega
        rw [e0] at hst
        have hlast : ((p :: r).map prA)[r.length]? = some (prA (lastP p r)) := by
          rw [List.getElem?_map]
          have : (p :: r)[r.length]? = some (lastP p r) := by
            unfold lastP
            rw [List.getLast_eq_getElem]
            exact List.getElem?_eq_getElem (by rw [List.length_cons]; omega)
          rw [this]
          rfl
        refine ba_one (sa_ret (ea_is (ea_and (ea_w (ea_cm (ea_w (ea_ixL (j := 0) (A := prA p) (ea_l (ea_var 1 rfl)) (ea_w ea_int) rfl rfl)) (ea_w (ea_ixL (ea_l (ea_var 0 rfl)) (ea_w ea_int) rfl (j := 2) rfl)) (cm_in hr enc_pr (ho p List.mem_cons_self) oo) rfl)) fun _ => ea_one (ea_cm (ea_w (ea_ixL (j := r.length) (ea_l (ea_var 1 rfl)) (ea_w (ea_sub (ea_w (ea_lenL (ea_l (ea_var 1 rfl)) mL)) (ea_w ea_int))) (by rw [List.length_map, List.length_cons]; omega) hlast)) (ea_w (ea_ixL (ea_l (ea_var 0 rfl)) (ea_w ea_int) rfl (j := 3) rfl)) (cm_in hr enc_pr (ho _ (last_mem p r)) oc) rfl)) ?fin))
        show bl _ = bl (unbF m (p :: r))
        rw [unb_cons]
        rw [hall, hst, Bool.true_and, Bool.true_and]
        refine congrArg bl (congr (congrArg _ (dec_irr _ _)) (dec_irr _ _))
end
end Kv

set_option Elab.async false
set_option linter.all false
set_option maxRecDepth 100000
set_option maxHeartbeats 4000000
namespace Kv
open PySem PySem.Calls L2 Lk
/-! ### hopeful_places -/
def hopB (m : Md) : List Str → Nat → Bool
  | [], p => cloP m p
  | n :: v, p => (asc (szOf m) (stepT m n p)).any (hopB m v)
def hopL (m : Md) (f : Nat → Bool) : List (Int × As) := dcA ((List.range (szOf m)).filter f) (fun p => (p : Int)) (fun _ => bl true)
theorem hop_look {m : Md} {f : Nat → Bool} {p : Nat} (h : p < szOf m) : ((hopL m f).lookup (p : Int)).isSome = f p := by
  unfold hopL
  rw [look_isSome, dcA_fst, Bool.eq_iff_iff, decide_eq_true_eq, onceF_mem, List.mem_map]
  constructor
  · rintro ⟨x, hx, e⟩
    obtain ⟨_, h2⟩ := List.mem_filter.mp hx
    have e : x = p := by omega
    rw [← e]
    exact h2
  · exact fun h2 => ⟨p, List.mem_filter.mpr ⟨List.mem_range.mpr h, h2⟩, rfl⟩
def tls : List Str → List (List Str)
  | [] => [[]]
  | n :: v => (n :: v) :: tls v
theorem tls_len : ∀ v : List Str, (tls v).length = v.length + 1
  | [] => rfl
  | _ :: v => by rw [tls, List.length_cons, List.length_cons, tls_len v]
theorem tls_head (v : List Str) : ∃ t, tls v = v :: t := by cases v <;> exact ⟨_, rfl⟩
theorem tls_get : ∀ (v : List Str) (i : Nat), i ≤ v.length → (tls v)[i]? = some (v.drop i)
  | [], 0, _ => rfl
  | n :: v, 0, _ => rfl
  | n :: v, i + 1, h => by
    rw [tls, List.getElem?_cons_succ, List.drop_succ_cons]
    exact tls_get v i (by simpa using h)
section
variable {P : Program} {w : World} {K : PySem.W.Frag} {mg : Str → Option Value} {base : Heap} {C CM CR CP CL CU : Addr}
abbrev sHop : Stmt := (topS 25)
abbrev nHop : List Str := ["places", "voice", "hopeful", "found", "note", "rows", "place", "end"]
theorem sc_hop : FnScope nHop ["places", "voice"] (defScope sHop) := ⟨rfl, rfl, rfl, by decide +kernel, rfl, by decide +kernel, by decide +kernel⟩
abbrev asgV : Stmt → Expr
  | .Assign _ e _ => e
  | _ => .Name "" ⟨0, 0, 0, 0⟩
abbrev forB : Stmt → List Stmt
  | .For _ _ b _ _ => b
  | _ => []
abbrev dcScope : Expr → Scope
  | .DictComp _ _ _ sc _ => sc
  | _ => defScope sHop
abbrev scHop1 : Scope := dcScope (asgV ((forB ((defBody sHop).getD 2 (.Pass ⟨0, 0, 0, 0⟩))).getD 1 (.Pass ⟨0, 0, 0, 0⟩)))
abbrev hopsA (m : Md) (v : List Str) : As := lstA ((tls v).map fun s => diA (hopL m (hopB m s)))
structure HpI (m : Md) (v : List Str) : Prop where
  g : Wm m
  nn : m.names.Nodup
  hv : ∀ n ∈ v, n ∈ m.names
  l : v.length ≤ 100
abbrev spHop (w : World) (CL CR : Addr) : Sp := spX (fun i : Md × Bool × List Str => HpI i.1 i.2.2) (fun i => [placesA w CL CR i.1, sq i.2.1 (i.2.2.map str)]) (fun i => hopsA i.1 i.2.2)
theorem steps_lookA {CR : Addr} {m : Md} {n : Str} (hn : n ∈ m.names) : lookN (stepsL CR m) (.text n) = some (relA CR (szOf m) (stepT m n)) :=
  dn_look (kf := fun n : Str => NestedKey.text n) (gv := fun n => relA CR (szOf m) (stepT m n)) (fun x y h => by
    have h : x = y := by simpa using h
    rw [h]) m.names [] (.inl hn)
theorem steps_keysA {CR : Addr} {m : Md} : ∀ j ∈ (stepsL CR m).map (·.1), ∃ y, j = NestedKey.text y := fun j hj => by
  rcases dn_keys _ _ hj with z | ⟨a, _, e⟩
  · simp at z
  · exact ⟨a, e⟩
theorem ok_hop {f : Addr} {fd : FuncData} (F : Fun K "hopeful_places" "hopeful_places" sHop f fd) (Z : PTx K CL) (R : RTx K CR) (mR : mg "range" = none) (mA : mg "any" = none) (mV : mg "reversed" = none) (DC : Mf P w K mg base 1 CL "is_closed" ["self", "ends"] (spIcl w CL CR)) : FnOk P w K mg base CX0 2 f fd ["places", "voice"] (spHop w CL CR) := by
  refine fn_ok F sc_hop (fun _ _ => rfl) fun ⟨m, q, vo⟩ cdv B0 outer s H E ⟨g, nn, hv, hl⟩ hr => ?_
  have nd := sc_hop.nd
  have g : Wm m := g
  have hv : ∀ n ∈ vo, n ∈ m.names := hv
  have hl : vo.length ≤ 100 := hl
  have pl := g.pl
  have sz : szOf m ≤ 101 := by unfold szOf; omega
  have rl : (List.range (szOf m)).length < sizeLine := by rw [List.length_range, sizeLine_eq]; omega
  have szE : ∀ {X : Cx} {ρ : List En} {a : Expr} {p : Pos}, X.K = K → EA X a ρ (placesA w CL CR m) → (attributeBase a "size" X.env (eval a X.env) = eval a X.env) → EA X (.Attribute a "size" p) ρ (int (szOf m : Int)) := fun e h hb => ea_fld (A := nat (szOf m)) h (e ▸ Z.cl) (e ▸ Z.nS) rfl hb
  refine ba_cons (sa_set 2 nd (A := diA (hopL m (hopB m []))) (ea_dcG (own := [("place", 6)]) (l := List.range (szOf m)) (p := hopB m []) (kf := fun p => (p : Int)) (gv := fun _ => bl true) rfl nd (esg_name (j := 6) (by decide) (es_rng1 mR (szE rfl (ea_var 0 rfl) rfl) (by omega))) rl (blkOk_by (N := nHop) (sc := defScope sHop) (by decide +kernel)) (fun _ _ _ _ _ => pg_name nd rfl (Or.inl rfl)) (fun _ _ _ _ _ p hp => pts_one ?t0) (fun _ _ _ _ _ p hp _ => ea_var 6 rfl) (fun _ _ _ _ _ _ _ _ => ea_bl)) ?_)
  case t0 => exact et_is (et_v (ea_w (ea_methB DC hr Z.cl (m, true, [p]) (by show ([p] : List Nat).length ≤ 1000; simp) rfl (ea_var 0 rfl) (by rfl) (eas_cons (en_a (en_lst (l := [p].map nat) (eas_cons (ea_var 6 rfl) eas_nil) (by show 1 ≤ sizeLine; decide))) eas_nil) rfl))) (by simp [hopB])
  refine ba_cons (sa_setN 3 nd (en_lst (l := ((tls []).reverse).map fun s => diA (hopL m (hopB m s))) (eas_cons (ea_var 2 rfl) eas_nil) (by show 1 ≤ sizeLine; decide)) ?_)
  let ρ0 (sf : List Str) : List En := [.fr (placesA w CL CR m), .fr (sq q (vo.map str)), .no, .own ((tls sf).reverse.map fun s => diA (hopL m (hopB m s))), .no, .no, .no, .no]
  let ρ1 (sf : List Str) : List En := (ρ0 sf).set 2 (.fr (diA (hopL m (hopB m sf))))
  refine ba_cons (sa_forS (l := (vo.map str).reverse) 4 (fun i ρ' => ρ' = ρ1 ((vo.reverse.take i).reverse)) PassesOwn.never rfl nd (es_rev (ea_var 1 rfl) mV) ⟨_, rfl, Le.refl _⟩ ?hs ?hd)
  case hs =>
    rintro i A ρ' hi rfl
    rw [← List.map_reverse, List.getElem?_map] at hi
    cases e : vo.reverse[i]? with
    | none => rw [e] at hi; cases hi
    | some n =>
      rw [e] at hi
      have hi : str n = A := by simpa using hi
      subst hi
      have hn := hv n (List.mem_reverse.mp (List.mem_of_getElem? e))
      have il : i < vo.length := by have := (List.getElem?_eq_some_iff.mp e).1; simpa using this
      have tk : (vo.reverse.take (i + 1)).reverse = n :: (vo.reverse.take i).reverse := by rw [List.take_add_one, e, List.reverse_append]; rfl
      have tl : (vo.reverse.take i).reverse.length ≤ 100 := by rw [List.length_reverse, List.length_take]; omega
      rw [tk]
      generalize (vo.reverse.take i).reverse = sf at tl
      have rowE : ∀ p, p < szOf m → ((List.range (szOf m)).map fun p => natsT (asc (szOf m) (stepT m n p)))[p]? = some (natsT (asc (szOf m) (stepT m n p))) := fun p hp => by
        rw [List.getElem?_map, List.getElem?_range hp]
        rfl
      refine ba_cons (sa_set 5 nd (A := rowsA (szOf m) (stepT m n)) (ea_fld (ea_getN (A := relA CR (szOf m) (stepT m n)) hr (ea_fld (A := ndA w (stepsL CR m)) (ea_var 0 rfl) Z.cl Z.nT rfl) (ea_imp (ea_var 4 rfl) fun _ _ => nk_str) (fdS steps_keysA) (steps_lookA hn)) R.cl R.nR rfl) ?_)
      refine ba_cons (sa_set 2 nd (A := diA (hopL m (hopB m (n :: sf)))) (ea_dcG (own := [("place", 6)]) (l := List.range (szOf m)) (p := hopB m (n :: sf)) (kf := fun p => (p : Int)) (gv := fun _ => bl true) rfl nd (esg_name (j := 6) (by decide) (es_rng1 mR (szE rfl (ea_var 0 rfl) rfl) (by omega))) rl (blkOk_by (N := nHop) (sc := defScope sHop) (by decide +kernel)) (fun _ _ _ _ _ => pg_name nd rfl (by first | exact Or.inl rfl | exact Or.inr rfl)) (fun _ _ _ _ _ p hp => pts_one ?t1) (fun _ _ _ _ _ p hp _ => ea_var 6 rfl) (fun _ _ _ _ _ _ _ _ => ea_bl)) ?_)
      case t1 =>
        have hp := List.mem_range.mp hp
        refine et_v (ea_w (ea_is (ea_any (bs := (asc (szOf m) (stepT m n p)).map (hopB m sf)) ?an rfl mA) (by rw [List.any_map]; rfl)))
        have al := asc_len (szOf m) (stepT m n p)
        rw [List.map_map]
        exact en_l (en_lcSA (own := [("end", 7)]) (l := asc (szOf m) (stepT m n p)) (enc := nat) (g := fun e => bl (hopB m sf e)) 7 rfl nd (es_t (ea_ixT (j := p) (ea_var 5 rfl) (ea_w (ea_var 6 rfl)) rfl (rowE p hp))) (by rw [sizeLine_eq]; omega) (blk_relS (sc := scHop1) (sc0 := defScope sHop) rfl (blkOk_by (N := nHop) (sc := relabS scHop1 (defScope sHop)) (by decide +kernel))) (fun _ _ _ _ _ => pg_name nd rfl (by first | exact Or.inl rfl | exact Or.inr rfl)) (fun _ _ _ _ _ e he => ea_is (ea_inI hr (ea_w (ea_var 7 rfl)) (ea_var 2 rfl) (by rfl)) (by rw [hop_look (asc_mem.mp he).1])))
      have tll : (tls sf).length ≤ 101 := by rw [tls_len]; omega
      refine ba_one (sa_app 3 rfl (pe_app 3 (ea_var 2 rfl)) (by rw [List.length_map, List.length_reverse, sizeLine_eq]; omega) ⟨_, rfl, ?_⟩)
      have e2 : (tls (n :: sf)).reverse.map (fun s => diA (hopL m (hopB m s))) = (tls sf).reverse.map (fun s => diA (hopL m (hopB m s))) ++ [diA (hopL m (hopB m (n :: sf)))] := by
        rw [tls, List.reverse_cons, List.map_append]
        rfl
      show Le [_, _, _, En.own ((tls (n :: sf)).reverse.map fun s => diA (hopL m (hopB m s))), _, _, _, _] _
      rw [e2]
      exact .same (.same (.same (.same (.no (.no (.no (.no .nil)))))))
  case hd =>
    rintro ρ' rfl
    have e3 : vo.reverse.take ((vo.map str).reverse.length) = vo.reverse := by
      rw [List.length_reverse, List.length_map]
      exact List.take_of_length_le (by rw [List.length_reverse]; exact Nat.le_refl _)
    rw [e3, List.reverse_reverse]
    exact ba_one (sa_ret (ea_is (en_a (en_revS (el_var 3 rfl) (ea_w (ea_neg (ea_w ea_int))))) (by rw [← List.map_reverse, List.reverse_reverse])))
end
end Kv

set_option Elab.async false
set_option linter.all false
set_option maxRecDepth 100000
set_option maxHeartbeats 4000000
namespace Kv
open PySem PySem.Calls L2 Lk
/-! ### require_notes -/
section
variable {X : Cx}
theorem cm_notinTs {s : Str} {l : List Str} : Cm X .NotIn (str s) (tupA (l.map str)) (!decide (s ∈ l)) := ⟨_, op_notIn_seq, fun x y H Q p q z => by
  have p : x = .str s := p
  subst p
  obtain ⟨b, rfl, hb⟩ := strs_at q
  refine ⟨b, l.map V.str, rfl, .inr (SqT.of hb), rfl, ?_, ?_⟩
  · rw [List.all_map]
    exact List.all_eq_true.mpr fun _ _ => rfl
  · show Q (.bl (if true = true then _ else _)) H
    rw [if_pos rfl, inV_strs]
    exact z⟩
end
section
variable {P : Program} {w : World} {K : PySem.W.Frag} {mg : Str → Option Value} {base : Heap} {C CM CR CP CL CU CZ : Addr}
abbrev sRqn : Stmt := (topS 19)
abbrev nRqn : List Str := ["book", "voice", "note"]
theorem sc_rqn : FnScope nRqn ["book", "voice"] (defScope sRqn) := ⟨rfl, rfl, rfl, by decide +kernel, rfl, by decide +kernel, by decide +kernel⟩
def farOf (g vo : List Str) : Option Str := vo.find? fun n => !decide (n ∈ g)
def ocRqn (CU : Addr) (A : As) (g vo : List Str) : Oc := match farOf g vo with
  | none => .ret A
  | some n => .exc (erUn CU n)
theorem farOf_none {g vo : List Str} : farOf g vo = none ↔ ∀ n ∈ vo, n ∈ g := by
  unfold farOf
  rw [List.find?_eq_none]
  simp
abbrev spRqn (C CM CU : Addr) : Sp := spO (fun i : Bk × Bool × List Str => ∀ n, farOf i.1.given i.2.2 = some n → Note n) (fun i => [bookA C CM i.1, sq i.2.1 (i.2.2.map str)]) (fun i => ocRqn CU non i.1.given i.2.2)
theorem ok_rqn {f : Addr} {fd : FuncData} (F : Fun K "require_notes" "require_notes" sRqn f fd) (T : BTx K C CM) (TE : EUn P w K mg base CU) : FnOk P w K mg base (L2.CX P w) 3 f fd ["book", "voice"] (spRqn C CM CU) := by
  refine fn_okX F sc_rqn (fun _ _ => rfl) fun ⟨B, q, vo⟩ cdv B0 outer s H E hf hr tk po => ?_
  have nd := sc_rqn.nd
  have hf : ∀ n, farOf B.given vo = some n → Note n := hf
  let ρ0 : List En := [.fr (bookA C CM B), .fr (sq q (vo.map str)), .no]
  refine ba_one (sa_forS (l := vo.map str) 2 (fun i ρ' => farOf B.given (vo.take i) = none ∧ ρ' = ρ0) po rfl nd (es_sq (ea_var 1 rfl)) ⟨_, ⟨rfl, rfl⟩, Le.refl _⟩ ?hs ?hd)
  case hs =>
    rintro i A ρ' hi ⟨hbad, rfl⟩
    rw [List.getElem?_map] at hi
    cases e : vo[i]? with
    | none => rw [e] at hi; cases hi
    | some n =>
      rw [e] at hi
      have hi : str n = A := by simpa using hi
      subst hi
      have tk1 : vo.take (i + 1) = vo.take i ++ [n] := by rw [List.take_add_one, e]; rfl
      refine ba_one (sa_if (k := !decide (n ∈ B.given)) (et_cm (ea_w (ea_var 2 rfl)) (ea_w (ea_given (ea_var 0 rfl) T)) cm_notinTs rfl) (fun h => ?_) (fun h => ?_))
      · have ha : farOf B.given vo = some n := by
          have hs : vo = vo.take i ++ n :: vo.drop (i + 1) := by
            obtain ⟨hl, hx⟩ := List.getElem?_eq_some_iff.mp e
            rw [← hx, ← List.drop_eq_getElem_cons hl, List.take_append_drop]
          rw [hs]
          unfold farOf at hbad ⊢
          rw [List.find?_append, hbad, List.find?_cons, h]
          rfl
        refine ba_one (sa_raise1 TE rfl hr tk n (hf n ha) (ea_var 2 rfl) fun F cls d he => ?_)
        show (ocRqn CU non B.given vo).E F cls d
        unfold ocRqn
        rw [ha]
        exact he
      · refine ba_nil ⟨ρ0, ⟨?_, rfl⟩, .same (.same (.no .nil))⟩
        rw [tk1]
        unfold farOf at hbad ⊢
        rw [List.find?_append, hbad, List.find?_cons, h]
        rfl
  case hd =>
    rintro ρ' ⟨hbad, rfl⟩ F
    rw [List.length_map, List.take_length] at hbad
    show (ocRqn CU non B.given vo).R.p F .non
    unfold ocRqn
    rw [hbad]
    rfl
abbrev spRq0 (C CM : Addr) : Sp := spX (fun i : Bk × Bool × List Str => ∀ n ∈ i.2.2, n ∈ i.1.given) (fun i => [bookA C CM i.1, sq i.2.1 (i.2.2.map str)]) (fun _ => non)
/-- nothing is raised -/
theorem ok_rq0 {f : Addr} {fd : FuncData} (F : Fun K "require_notes" "require_notes" sRqn f fd) (T : BTx K C CM) : FnOk P w K mg base CX0 1 f fd ["book", "voice"] (spRq0 C CM) := by
  refine fn_ok F sc_rqn (fun _ _ => rfl) fun ⟨B, q, vo⟩ cdv B0 outer s H E hf hr => ?_
  have nd := sc_rqn.nd
  have hf : ∀ n ∈ vo, n ∈ B.given := hf
  let ρ0 : List En := [.fr (bookA C CM B), .fr (sq q (vo.map str)), .no]
  refine ba_one (sa_forS (l := vo.map str) 2 (fun i ρ' => ρ' = ρ0) PassesOwn.never rfl nd (es_sq (ea_var 1 rfl)) ⟨_, rfl, Le.refl _⟩ ?hs ?hd)
  case hs =>
    rintro i A ρ' hi rfl
    rw [List.getElem?_map] at hi
    cases e : vo[i]? with
    | none => rw [e] at hi; cases hi
    | some n =>
      rw [e] at hi
      have hi : str n = A := by simpa using hi
      subst hi
      have hn := hf n (List.mem_of_getElem? e)
      exact ba_one (sa_if (k := false) (et_is (et_cm (ea_w (ea_var 2 rfl)) (ea_w (ea_given (ea_var 0 rfl) T)) cm_notinTs rfl) (by simp [hn])) (fun h => by cases h) (fun _ => ba_nil ⟨ρ0, rfl, .same (.same (.no .nil))⟩))
  case hd =>
    rintro ρ' rfl F
    rfl
/-! ### answer -/
def nextP (m : Md) (n : Str) (v : List Str) (p : Nat) : Nat := ((asc (szOf m) (stepT m n p)).filter (hopB m v)).headD 0
def prAt (m : Md) (q : Nat) : Pr := (lastAt m q).getD (("", "") : Pr)
def ansF (m : Md) : List Str → Nat → List Pr
  | [], _ => []
  | n :: v, p => prAt m (nextP m n v p) :: ansF m v (nextP m n v p)
theorem next_ok {m : Md} (nd : m.pairs.Nodup) {n : Str} {v : List Str} {p : Nat} (h : hopB m (n :: v) p = true) : ∃ t, (asc (szOf m) (stepT m n p)).filter (hopB m v) = nextP m n v p :: t ∧ nextP m n v p < szOf m ∧ hopB m v (nextP m n v p) = true ∧ lastAt m (nextP m n v p) = some (prAt m (nextP m n v p)) := by
  obtain ⟨e, he, hh⟩ := List.any_eq_true.mp (show (asc (szOf m) (stepT m n p)).any (hopB m v) = true from h)
  have hin : e ∈ (asc (szOf m) (stepT m n p)).filter (hopB m v) := List.mem_filter.mpr ⟨he, hh⟩
  cases c : (asc (szOf m) (stepT m n p)).filter (hopB m v) with
  | nil => rw [c] at hin; simp at hin
  | cons q t =>
    have eq : nextP m n v p = q := by unfold nextP; rw [c]; rfl
    rw [eq]
    have hq : q ∈ (asc (szOf m) (stepT m n p)).filter (hopB m v) := by rw [c]; exact List.mem_cons_self ..
    obtain ⟨h1, h2⟩ := List.mem_filter.mp hq
    obtain ⟨h3, h4⟩ := asc_mem.mp h1
    obtain ⟨x, _, hx⟩ := (stepT_iff nd h3).mp h4
    refine ⟨t, rfl, h3, h2, ?_⟩
    unfold prAt
    rw [hx]
    rfl
abbrev sAsw : Stmt := (topS 26)
abbrev nAsw : List Str := ["book", "voice", "places", "start", "rest", "piece", "place", "note", "hopeful", "ends", "end"]
theorem sc_asw : FnScope nAsw ["book", "voice"] (defScope sAsw) := ⟨rfl, rfl, rfl, by decide +kernel, rfl, by decide +kernel, by decide +kernel⟩
structure AsI (B : Bk) (m : Md) (v : List Str) : Prop where
  pm : Pm B m
  hv : ∀ n ∈ v, n ∈ m.names
  l : v.length ≤ 100
abbrev spAsN (C CM : Addr) : Sp := spX (fun i : Bk × Md × Bool × List Str => AsI i.1 i.2.1 i.2.2.2 ∧ hopB i.2.1 i.2.2.2 0 = false) (fun i => [bookA C CM i.1, sq i.2.2.1 (i.2.2.2.map str)]) (fun _ => non)
theorem ok_asN {f : Addr} {fd : FuncData} (F : Fun K "answer" "answer" sAsw f fd) (T : BTx K C CM) (DN : Df P w K mg base 1 "require_notes" ["book", "voice"] (spRq0 C CM)) (DP : Mk1 P w K mg base 8 CL "Places" ["self", "book"] (spPli w C CM CR CL)) (DH : Df P w K mg base 2 "hopeful_places" ["places", "voice"] (spHop w CL CR)) : FnOk P w K mg base CX0 10 f fd ["book", "voice"] (spAsN C CM) := by
  refine fn_ok F sc_asw (fun _ _ => rfl) fun ⟨B, m, b, vo⟩ cdv B0 outer s H E ⟨⟨pm, hv, hl⟩, hno⟩ hr => ?_
  have nd := sc_asw.nd
  have pm : Pm B m := pm
  have hv : ∀ n ∈ vo, n ∈ m.names := hv
  have hl : vo.length ≤ 100 := hl
  have hno : hopB m vo 0 = false := hno
  obtain ⟨t, et⟩ := tls_head vo
  refine ba_cons (sa_expr (ea_w (ea_callB (B := non) DN (hr.mono (show 1 ≤ 9 by decide)) (B, b, vo) (show ∀ n ∈ vo, n ∈ B.given by rw [pm.g]; exact hv) rfl (eas_cons (ea_var 0 rfl) (eas_cons (ea_var 1 rfl) eas_nil)))) ?_)
  refine ba_cons (sa_set 2 nd (A := placesA w CL CR m) (ea_makeB DP hr (B, m) pm rfl (eas_cons (ea_var 0 rfl) eas_nil)) ?_)
  refine ba_cons (sa_unpS (A := diA (hopL m (hopB m vo))) (l := t.map fun s => diA (hopL m (hopB m s))) 3 4 rfl nd (ea_callB DH (hr.mono (show 2 ≤ 9 by decide)) (m, b, vo) ⟨pm.wm, pm.nn, hv, hl⟩ (by show hopsA m vo = _; unfold hopsA; rw [et]; rfl) (eas_cons (ea_var 2 rfl) (eas_cons (ea_var 1 rfl) eas_nil))) ?_)
  exact ba_cons (sa_if (k := true) (et_is (et_notinI hr (ea_w ea_int) (ea_var 3 rfl) (by rfl)) (by rw [show (0 : Int) = ((0 : Nat) : Int) from rfl, hop_look (Nat.succ_pos _), hno]; rfl)) (fun _ => ba_one (sa_ret ea_non)) (fun h => by cases h))
abbrev spAsS (C CM : Addr) : Sp := spXN (fun i : Bk × Md × Bool × List Str => AsI i.1 i.2.1 i.2.2.2 ∧ hopB i.2.1 i.2.2.2 0 = true) (fun i => [bookA C CM i.1, sq i.2.2.1 (i.2.2.2.map str)]) (fun i => (ansF i.2.1 i.2.2.2 0).map prA)
theorem ok_asS {f : Addr} {fd : FuncData} (F : Fun K "answer" "answer" sAsw f fd) (T : BTx K C CM) (Z : PTx K CL) (R : RTx K CR) (mZ : mg "zip" = none) (DN : Df P w K mg base 1 "require_notes" ["book", "voice"] (spRq0 C CM)) (DP : Mk1 P w K mg base 8 CL "Places" ["self", "book"] (spPli w C CM CR CL)) (DH : Df P w K mg base 2 "hopeful_places" ["places", "voice"] (spHop w CL CR)) : FnOk P w K mg base CX0 10 f fd ["book", "voice"] (spAsS C CM) := by
  refine fn_okN F sc_asw (fun _ _ => rfl) fun ⟨B, m, b, vo⟩ Fs cdv B0 outer s H E ⟨⟨pm, hv, hl⟩, hyes⟩ hr => ?_
  have nd := sc_asw.nd
  have pm : Pm B m := pm
  have hv : ∀ n ∈ vo, n ∈ m.names := hv
  have hl : vo.length ≤ 100 := hl
  have hyes : hopB m vo 0 = true := hyes
  have pl := pm.wm.pl
  have sz : szOf m ≤ 101 := by unfold szOf; omega
  obtain ⟨t, et⟩ := tls_head vo
  have tl : t.length = vo.length := by
    have z := tls_len vo
    rw [et, List.length_cons] at z
    omega
  have tg : ∀ i, i < vo.length → t[i]? = some (vo.drop (i + 1)) := fun i hi => by
    have z := tls_get vo (i + 1) hi
    rw [et, List.getElem?_cons_succ] at z
    exact z
  refine ba_cons (sa_expr (ea_w (ea_callB (B := non) DN (hr.mono (show 1 ≤ 9 by decide)) (B, b, vo) (show ∀ n ∈ vo, n ∈ B.given by rw [pm.g]; exact hv) rfl (eas_cons (ea_imp (ea_var 0 rfl) at_imp) (eas_cons (ea_imp (ea_var 1 rfl) at_imp) eas_nil)))) ?_)
  refine ba_cons (sa_set 2 nd (A := placesA w CL CR m) (ea_makeB DP hr (B, m) pm rfl (eas_cons (ea_imp (ea_var 0 rfl) at_imp) eas_nil)) ?_)
  refine ba_cons (sa_unpS (A := diA (hopL m (hopB m vo))) (l := t.map fun s => diA (hopL m (hopB m s))) 3 4 rfl nd (ea_callB DH (hr.mono (show 2 ≤ 9 by decide)) (m, b, vo) ⟨pm.wm, pm.nn, hv, hl⟩ (by show hopsA m vo = _; unfold hopsA; rw [et]; rfl) (eas_cons (ea_var 2 rfl) (eas_cons (ea_imp (ea_var 1 rfl) at_imp) eas_nil))) ?_)
  refine ba_cons (sa_if (k := false) (et_is (et_notinI hr (ea_w ea_int) (ea_var 3 rfl) (by rfl)) (by rw [show (0 : Int) = ((0 : Nat) : Int) from rfl, hop_look (Nat.succ_pos _), hyes]; rfl)) (fun h => by cases h) (fun _ => ba_nil ?_))
  refine ba_cons (sa_setN 5 nd (en_lst (l := ([] : List Pr).map prA) eas_nil (Nat.zero_le _)) ?_)
  refine ba_cons (sa_set 6 nd (A := nat 0) (ea_is ea_int rfl) ?_)
  let ρ0 (pc : List Pr) (p : Nat) : List En := [.fr (atA Fs (bookA C CM B)), .fr (atA Fs (sq b (vo.map str))), .fr (placesA w CL CR m), .fr (diA (hopL m (hopB m vo))), .fr (lstA (t.map fun s => diA (hopL m (hopB m s)))), .own (pc.map prA), .fr (nat p), .no, .no, .no, .no]
  have Z1 : ∀ (i : Nat) (z : Nat), (List.range vo.length)[i]? = some z → (vo.map str)[i]? = some (str (vo.getD z "")) := by
    intro i z hz
    have hi : i < vo.length := by have := (List.getElem?_eq_some_iff.mp hz).1; simpa using this
    rw [List.getElem?_range hi] at hz
    obtain rfl := Option.some.inj hz
    rw [List.getElem?_map, List.getD_eq_getElem?_getD, List.getElem?_eq_getElem hi]
    rfl
  have Z2 : ∀ (i : Nat) (z : Nat), (List.range vo.length)[i]? = some z → (t.map fun s => diA (hopL m (hopB m s)))[i]? = some (diA (hopL m (hopB m (vo.drop (z + 1))))) := by
    intro i z hz
    have hi : i < vo.length := by have := (List.getElem?_eq_some_iff.mp hz).1; simpa using this
    rw [List.getElem?_range hi] at hz
    obtain rfl := Option.some.inj hz
    rw [List.getElem?_map, tg i hi]
    rfl
  cases b with
  | true =>
    refine ba_cons (sa_forZ (l := List.range vo.length) (e1 := fun i => str (vo.getD i "")) (e2 := fun i => diA (hopL m (hopB m (vo.drop (i + 1))))) 7 8 (fun i ρ' => ∃ (pc : List Pr) (p : Nat), p < szOf m ∧ hopB m (vo.drop i) p = true ∧ pc ++ ansF m (vo.drop i) p = ansF m vo 0 ∧ pc.length = i ∧ ρ' = ρ0 pc p) PassesOwn.never rfl nd mZ (eas_cons (ea_imp (ea_var 1 rfl) at_imp) (eas_cons (ea_var 4 rfl) eas_nil)) Z1 Z2 (.inl (by rw [List.length_map, List.length_range])) ⟨_, ⟨[], 0, Nat.succ_pos _, hyes, rfl, rfl, rfl⟩, Le.refl _⟩ ?hs ?hd)
    case hd =>
      rintro ρ' ⟨pc, p, hp, hh, ha, hpl, rfl⟩
      rw [List.length_range] at ha
      have ha : pc = ansF m vo 0 := by
        rw [List.drop_length] at ha
        rw [← ha]
        exact (List.append_nil pc).symm
      subst ha
      exact ba_one (sa_retOwn 5 rfl (pe_own 5) rfl ⟨0, _, rfl⟩)

    case hs =>
      rintro i z ρ' hz ⟨pc, p, hp, hh, ha, hpl, rfl⟩
      have hi : i < vo.length := by have := (List.getElem?_eq_some_iff.mp hz).1; simpa using this
      rw [List.getElem?_range hi] at hz
      obtain rfl := Option.some.inj hz
      have ed : vo.drop i = vo.getD i "" :: vo.drop (i + 1) := by
        rw [List.drop_eq_getElem_cons hi, List.getD_eq_getElem?_getD, List.getElem?_eq_getElem hi]
        rfl
      have hn : vo.getD i "" ∈ m.names := hv _ (by
        rw [List.getD_eq_getElem?_getD, List.getElem?_eq_getElem hi]
        exact List.getElem_mem hi)
      rw [ed] at hh ha
      generalize vo.getD i "" = n at hh ha hn
      obtain ⟨tt, e1, e2, e3, e4⟩ := next_ok pm.nd hh
      have rowE : ((List.range (szOf m)).map fun p => natsT (asc (szOf m) (stepT m n p)))[p]? = some (natsT (asc (szOf m) (stepT m n p))) := by
        rw [List.getElem?_map, List.getElem?_range hp]
        rfl
      have al := asc_len (szOf m) (stepT m n p)
      refine ba_cons (sa_setLcS (own := [("end", 10)]) 9 10 (l := asc (szOf m) (stepT m n p)) (enc := nat) (p := hopB m (vo.drop (i + 1))) (g := nat) rfl nd (es_t (ea_ixT (j := p) (ea_fld (A := rowsA (szOf m) (stepT m n)) (ea_getN (A := relA CR (szOf m) (stepT m n)) hr (ea_fld (A := ndA w (stepsL CR m)) (ea_var 2 rfl) Z.cl Z.nT rfl) (ea_imp (ea_var 7 rfl) fun _ _ => nk_str) (fdS steps_keysA) (steps_lookA hn)) R.cl R.nR rfl) (ea_w (ea_var 6 rfl)) rfl rowE)) (by rw [sizeLine_eq]; omega) (blkOk_by (N := nAsw) (sc := defScope sAsw) (by decide +kernel)) (fun _ _ _ _ _ => pg_name nd rfl (Or.inl rfl)) (fun _ _ _ _ _ e he => pts_one (et_is (et_inI hr (ea_w (ea_var 10 rfl)) (ea_var 8 rfl) (by rfl)) (hop_look (asc_mem.mp he).1))) (fun _ _ _ _ _ e he _ => ea_var 10 rfl) ?_)
      rw [e1]
      refine ba_cons (sa_set 6 nd (A := nat (nextP m n (vo.drop (i + 1)) p)) (ea_ixL (j := 0) (el_var 9 rfl) (ea_w ea_int) rfl rfl) ?_)
      have ha2 : pc ++ prAt m (nextP m n (vo.drop (i + 1)) p) :: ansF m (vo.drop (i + 1)) (nextP m n (vo.drop (i + 1)) p) = ansF m vo 0 := ha
      generalize nextP m n (vo.drop (i + 1)) p = q at e1 e2 e3 e4 ha2
      refine ba_one (sa_app 5 rfl (pe_app 5 (A := prA (prAt m q)) (ea_ixL (j := q) (A := prA (prAt m q)) (ea_l (ea_fld (A := lstA ((lastsL m).map lstOf)) (ea_var 2 rfl) Z.cl Z.nL rfl)) (ea_w (ea_var 6 rfl)) rfl (by rw [List.getElem?_map, lastAt_get e2, e4]; rfl))) (by rw [List.length_map, sizeLine_eq]; omega) ⟨_, ⟨pc ++ [prAt m q], q, e2, e3, by rw [List.append_assoc]; exact ha2, by rw [List.length_append, hpl]; rfl, rfl⟩, ?_⟩)
      show Le [_, _, _, _, _, En.own ((pc ++ [prAt m q]).map prA), _, _, _, _, _] _
      rw [List.map_append]
      exact .same (.same (.same (.same (.same (.same (.same (.no (.no (.no (.no .nil))))))))))
  | false =>
    refine ba_cons (sa_forZT (l := List.range vo.length) (e1 := fun i => str (vo.getD i "")) (e2 := fun i => diA (hopL m (hopB m (vo.drop (i + 1))))) 7 8 (fun i ρ' => ∃ (pc : List Pr) (p : Nat), p < szOf m ∧ hopB m (vo.drop i) p = true ∧ pc ++ ansF m (vo.drop i) p = ansF m vo 0 ∧ pc.length = i ∧ ρ' = ρ0 pc p) PassesOwn.never rfl nd mZ (eas_cons (ea_imp (ea_var 1 rfl) at_imp) (eas_cons (ea_var 4 rfl) eas_nil)) Z1 Z2 (.inl (by rw [List.length_map, List.length_range])) ⟨_, ⟨[], 0, Nat.succ_pos _, hyes, rfl, rfl, rfl⟩, Le.refl _⟩ ?hs ?hd)
    case hd =>
      rintro ρ' ⟨pc, p, hp, hh, ha, hpl, rfl⟩
      rw [List.length_range] at ha
      have ha : pc = ansF m vo 0 := by
        rw [List.drop_length] at ha
        rw [← ha]
        exact (List.append_nil pc).symm
      subst ha
      exact ba_one (sa_retOwn 5 rfl (pe_own 5) rfl ⟨0, _, rfl⟩)

    case hs =>
      rintro i z ρ' hz ⟨pc, p, hp, hh, ha, hpl, rfl⟩
      have hi : i < vo.length := by have := (List.getElem?_eq_some_iff.mp hz).1; simpa using this
      rw [List.getElem?_range hi] at hz
      obtain rfl := Option.some.inj hz
      have ed : vo.drop i = vo.getD i "" :: vo.drop (i + 1) := by
        rw [List.drop_eq_getElem_cons hi, List.getD_eq_getElem?_getD, List.getElem?_eq_getElem hi]
        rfl
      have hn : vo.getD i "" ∈ m.names := hv _ (by
        rw [List.getD_eq_getElem?_getD, List.getElem?_eq_getElem hi]
        exact List.getElem_mem hi)
      rw [ed] at hh ha
      generalize vo.getD i "" = n at hh ha hn
      obtain ⟨tt, e1, e2, e3, e4⟩ := next_ok pm.nd hh
      have rowE : ((List.range (szOf m)).map fun p => natsT (asc (szOf m) (stepT m n p)))[p]? = some (natsT (asc (szOf m) (stepT m n p))) := by
        rw [List.getElem?_map, List.getElem?_range hp]
        rfl
      have al := asc_len (szOf m) (stepT m n p)
      refine ba_cons (sa_setLcS (own := [("end", 10)]) 9 10 (l := asc (szOf m) (stepT m n p)) (enc := nat) (p := hopB m (vo.drop (i + 1))) (g := nat) rfl nd (es_t (ea_ixT (j := p) (ea_fld (A := rowsA (szOf m) (stepT m n)) (ea_getN (A := relA CR (szOf m) (stepT m n)) hr (ea_fld (A := ndA w (stepsL CR m)) (ea_var 2 rfl) Z.cl Z.nT rfl) (ea_imp (ea_var 7 rfl) fun _ _ => nk_str) (fdS steps_keysA) (steps_lookA hn)) R.cl R.nR rfl) (ea_w (ea_var 6 rfl)) rfl rowE)) (by rw [sizeLine_eq]; omega) (blkOk_by (N := nAsw) (sc := defScope sAsw) (by decide +kernel)) (fun _ _ _ _ _ => pg_name nd rfl (Or.inl rfl)) (fun _ _ _ _ _ e he => pts_one (et_is (et_inI hr (ea_w (ea_var 10 rfl)) (ea_var 8 rfl) (by rfl)) (hop_look (asc_mem.mp he).1))) (fun _ _ _ _ _ e he _ => ea_var 10 rfl) ?_)
      rw [e1]
      refine ba_cons (sa_set 6 nd (A := nat (nextP m n (vo.drop (i + 1)) p)) (ea_ixL (j := 0) (el_var 9 rfl) (ea_w ea_int) rfl rfl) ?_)
      have ha2 : pc ++ prAt m (nextP m n (vo.drop (i + 1)) p) :: ansF m (vo.drop (i + 1)) (nextP m n (vo.drop (i + 1)) p) = ansF m vo 0 := ha
      generalize nextP m n (vo.drop (i + 1)) p = q at e1 e2 e3 e4 ha2
      refine ba_one (sa_app 5 rfl (pe_app 5 (A := prA (prAt m q)) (ea_ixL (j := q) (A := prA (prAt m q)) (ea_l (ea_fld (A := lstA ((lastsL m).map lstOf)) (ea_var 2 rfl) Z.cl Z.nL rfl)) (ea_w (ea_var 6 rfl)) rfl (by rw [List.getElem?_map, lastAt_get e2, e4]; rfl))) (by rw [List.length_map, sizeLine_eq]; omega) ⟨_, ⟨pc ++ [prAt m q], q, e2, e3, by rw [List.append_assoc]; exact ha2, by rw [List.length_append, hpl]; rfl, rfl⟩, ?_⟩)
      show Le [_, _, _, _, _, En.own ((pc ++ [prAt m q]).map prA), _, _, _, _, _] _
      rw [List.map_append]
      exact .same (.same (.same (.same (.same (.same (.same (.no (.no (.no (.no .nil))))))))))
abbrev spAsX (C CM CU : Addr) : Sp := spO (fun i : Bk × Md × List Str × Str => i.1.given = i.2.1.names ∧ farOf i.2.1.names i.2.2.1 = some i.2.2.2 ∧ Note i.2.2.2) (fun i => [bookA C CM i.1, lstA (i.2.2.1.map str)]) (fun i => ocUn CU i.2.2.2)
theorem ok_asX {f : Addr} {fd : FuncData} (F : Fun K "answer" "answer" sAsw f fd) (DN : DfX P w K mg base 3 "require_notes" ["book", "voice"] (spRqn C CM CU)) : FnOk P w K mg base (L2.CX P w) 4 f fd ["book", "voice"] (spAsX C CM CU) := by
  refine fn_okX F sc_asw (fun _ _ => rfl) fun ⟨B, m, vo, n⟩ cdv B0 outer s H E ⟨gE, hf, hn⟩ hr tk po => ?_
  have gE : B.given = m.names := gE
  have hf : farOf m.names vo = some n := hf
  have hn : Note n := hn
  have oc : ocRqn CU non B.given vo = ocUn CU n := by
    unfold ocRqn
    rw [gE, hf]
    rfl
  exact ba_cons (sa_exprX (o1 := ocUn CU n) (ex_is (ex_call DN hr tk (B, true, vo) (by
    show ∀ x, farOf B.given vo = some x → Note x
    rw [gE, hf]
    intro x hx
    rw [← Option.some.inj hx]
    exact hn) (eas_cons (ea_var 0 rfl) (eas_cons (ea_var 1 rfl) eas_nil))) oc) (fun F cls d he => he) (fun ⟨F, v, hv⟩ => hv.elim))
end
end Kv

set_option Elab.async false
set_option linter.all false
set_option maxRecDepth 100000
set_option maxHeartbeats 4000000
namespace Kv
open PySem PySem.Calls L2 Lk
/-! ### answers, by the model -/
theorem foldl_snocF {α β : Type} (f : β → α → β) (b : β) (l : List α) (a : α) : (l ++ [a]).foldl f b = f (l.foldl f b) a := by rw [List.foldl_append]; rfl
theorem cloL_eq {m : Md} (x : Option Pr) : cloL m x = cloO m x := by cases x <;> rfl
theorem ends_lin {m : Md} {h : List (Option Pr)} : ∀ (v : List Str) {y : Option Pr}, y ∈ endsF m h v ↔ ∃ s ∈ h, y ∈ endsF m [s] v := by
  refine rev_ind ?_ ?_
  · intro y
    show y ∈ h ↔ ∃ s ∈ h, y ∈ [s]
    simp
  · intro v n ih y
    have e1 : ∀ h, endsF m h (v ++ [n]) = endsS m (endsF m h v) n := fun h => foldl_snocF _ _ _ _
    rw [e1, endsS_mem]
    constructor
    · rintro ⟨last, h1, h2⟩
      obtain ⟨s, hs, h3⟩ := ih.mp h1
      exact ⟨s, hs, by rw [e1, endsS_mem]; exact ⟨last, h3, h2⟩⟩
    · rintro ⟨s, hs, h3⟩
      rw [e1, endsS_mem] at h3
      obtain ⟨last, h4, h5⟩ := h3
      exact ⟨last, ih.mpr ⟨s, hs, h4⟩, h5⟩
def canB (m : Md) (v : List Str) (x : Option Pr) : Bool := (endsF m [x] v).any (cloL m)
theorem can_cons {m : Md} {n : Str} {v : List Str} {x : Option Pr} : canB m (n :: v) x = true ↔ ∃ p ∈ rowL m (x, n), canB m v (some p) = true := by
  unfold canB
  have e : endsF m [x] (n :: v) = endsF m (endsS m [x] n) v := rfl
  rw [e, List.any_eq_true]
  constructor
  · rintro ⟨y, hy, c⟩
    obtain ⟨s, hs, h2⟩ := (ends_lin v).mp hy
    obtain ⟨last, hl, p, hp, rfl⟩ := endsS_mem.mp hs
    obtain rfl : last = x := by simpa using hl
    exact ⟨p, hp, List.any_eq_true.mpr ⟨y, h2, c⟩⟩
  · rintro ⟨p, hp, h⟩
    obtain ⟨y, h2, c⟩ := List.any_eq_true.mp h
    exact ⟨y, (ends_lin v).mpr ⟨some p, endsS_mem.mpr ⟨x, by simp, p, hp, rfl⟩, h2⟩, c⟩
theorem hop_can {m : Md} (nd : m.pairs.Nodup) : ∀ (v : List Str) {p : Nat}, p < szOf m → hopB m v p = canB m v (lastAt m p)
  | [], p, hp => by
    show (decide (p < szOf m) && cloO m (lastAt m p)) = ([lastAt m p]).any (cloL m)
    rw [decide_eq_true hp, Bool.true_and, List.any_cons, List.any_nil, Bool.or_false, cloL_eq]
  | n :: v, p, hp => by
    rw [Bool.eq_iff_iff, can_cons]
    show (asc (szOf m) (stepT m n p)).any (hopB m v) = true ↔ _
    rw [List.any_eq_true]
    constructor
    · rintro ⟨q, hq, h⟩
      obtain ⟨h1, h2⟩ := asc_mem.mp hq
      obtain ⟨x, hx, e⟩ := (stepT_iff nd h1).mp h2
      rw [hop_can nd v h1, e] at h
      exact ⟨x, hx, h⟩
    · rintro ⟨x, hx, h⟩
      have hp2 := (List.mem_filter.mp hx).1
      have hq := plOf_lt hp2
      refine ⟨plOf m x, asc_mem.mpr ⟨hq, (stepT_iff nd hq).mpr ⟨x, hx, plOf_at hp2⟩⟩, ?_⟩
      rw [hop_can nd v hq, plOf_at hp2]
      exact h
end Kv

set_option Elab.async false
set_option linter.all false
set_option maxRecDepth 100000
set_option maxHeartbeats 4000000
namespace Kv
open PySem PySem.Calls L2 Lk NdefX
section
variable {P : Program} {w : World} {K : PySem.W.Frag} {mg : Str → Option Value} {base : Heap} {C CM CR CU CB CQ CV : Addr}
/-! ### _law_refused -/
abbrev sRef : Stmt := (topS 53)
abbrev nRef : List Str := ["_law_book_here", "_law_voice_here", "_law_note", "e"]
theorem sc_ref : FnScope nRef ["_law_book_here", "_law_voice_here", "_law_note"] (defScope sRef) := ⟨rfl, rfl, rfl, by decide +kernel, rfl, by decide +kernel, by decide +kernel⟩
structure RvI (B : Bk) (m : Md) (vo : List Str) (n : Str) : Prop where
  pm : Pm B m
  far : farOf m.names vo = some n
  nt : Note n
abbrev spRef (C CM : Addr) : Sp := spX (fun i : Bk × Md × List Str × Str => RvI i.1 i.2.1 i.2.2.1 i.2.2.2) (fun i => [bookA C CM i.1, lstA (i.2.2.1.map str), str i.2.2.2]) (fun _ => bl true)
theorem ok_ref {f : Addr} {fd : FuncData} (F : Fun K "_law_refused" "_law_refused" sRef f fd) (U : ErU K mg CU CB CV) (gQ : mg "UnknownPair" = some (.ref CQ)) (kQ : PySem.W.kitOne K (.ref CU) (.ref CQ) = some false) (DA : DfX P w K mg base 4 "answer" ["book", "voice"] (spAsX C CM CU)) : FnOk P w K mg base CX0 6 f fd ["_law_book_here", "_law_voice_here", "_law_note"] (spRef C CM) := by
  refine fn_ok F sc_ref (fun _ _ => rfl) fun ⟨B, m, vo, n⟩ cdv B0 outer s H E ⟨pm, hf, hn⟩ hr => ?_
  have nd := sc_ref.nd
  have pm : Pm B m := pm
  refine ba_cons (sa_try_as (C := CU) (fs := [("note", str n)]) 3 rfl rfl nd rfl rfl ⟨rfl, rfl, .inl U.nm⟩ takes0 U.ex (fun wx pn xe tk po => ?hb) (fun a oe d pn hzc hf => ?hs))
  case hb =>
    exact ba_one (sa_exprX (o1 := ocUn CU n) (ex_call DA (hr.mono (show 4 ≤ 5 by decide)) tk (B, m, vo, n) ⟨pm.g, hf, hn⟩ (eas_cons (ea_var 0 rfl) (eas_cons (ea_var 1 rfl) eas_nil))) (fun F cls d he => ⟨rfl, he⟩) (fun ⟨F, v, hv⟩ => hv.elim))
  case hs =>
    refine ba_cons (sa_if (k := false) (et_w (ewt_or (j := false) (k := false) (et_v (ea_w (ea_isXo U.C hzc hf (ea_var 3 rfl) U.gB U.kB U.mI))) fun _ => ewt_or1 (et_v (ea_w (ea_isXo U.C hzc hf (ea_var 3 rfl) gQ kQ U.mI))))) (fun h => by cases h) (fun _ => ba_nil ?_))
    exact ba_one (sa_ret (ea_is (ea_and (ea_w (ea_isXo U.C hzc hf (ea_var 3 rfl) U.gV U.kV U.mI)) fun _ => ea_and (ea_w (ea_isXb U.C hzc hf (ea_var 3 rfl) U.mE bo_ve U.kE U.mI)) fun _ => ea_one (ea_cm (ea_w (ea_fldX U.C hzc hf U.no (ea_var 3 rfl) rfl)) (ea_w (ea_var 2 rfl)) cm_eqS rfl)) (by simp)))
end
end Kv

set_option Elab.async false
set_option linter.all false
set_option maxRecDepth 100000
set_option maxHeartbeats 4000000
namespace Kv
open PySem PySem.Calls L2 Lk
section
variable {X : Cx}
theorem isNN0 : Cm X .IsNot non non false := ⟨_, op_notN, fun x y H Q p q z => ⟨q, by rw [show x = .non from p]; exact z⟩⟩
theorem isNN1 {l : List As} : Cm X .IsNot (lstA l) non true := ⟨_, op_notN, fun x y H Q p q z => ⟨q, by
  obtain ⟨a, xs, rfl, _⟩ := p
  exact z⟩⟩
end
/-! ### slices, pieces -/
def cutS {α : Type} (l : List α) (i j : Option Int) : List α := (l.drop (HT.sIx l.length 0 i)).take (HT.sIx l.length l.length j - HT.sIx l.length 0 i)
theorem cutA_map {α : Type} (f : α → As) (l : List α) (i j : Option Int) : cutA (l.map f) i j = (cutS l i j).map f := by
  unfold cutA cutS
  rw [List.length_map, List.map_take, List.map_drop]
theorem cutS_mem {α : Type} {l : List α} {i j : Option Int} {x : α} (h : x ∈ cutS l i j) : x ∈ l := List.mem_of_mem_drop (List.mem_of_mem_take h)
theorem cutS_len {α : Type} {l : List α} {i j : Option Int} : (cutS l i j).length ≤ l.length := by
  unfold cutS
  rw [List.length_take, List.length_drop]
  omega
/-- one step of an answer -/
theorem next_row {m : Md} (nd : m.pairs.Nodup) {n : Str} {v : List Str} {p : Nat} (h : hopB m (n :: v) p = true) : prAt m (nextP m n v p) ∈ rowL m (lastAt m p, n) := by
  obtain ⟨t, e1, e2, e3, e4⟩ := next_ok nd h
  have hq : nextP m n v p ∈ (asc (szOf m) (stepT m n p)).filter (hopB m v) := by rw [e1]; exact List.mem_cons_self ..
  obtain ⟨h1, _⟩ := List.mem_filter.mp hq
  obtain ⟨x, hx, e⟩ := (stepT_iff nd e2).mp (asc_mem.mp h1).2
  rw [e4] at e
  rw [Option.some.inj e]
  exact hx
theorem ans_names {m : Md} (nd : m.pairs.Nodup) : ∀ (v : List Str) {p : Nat}, hopB m v p = true → (ansF m v p).map (·.1) = v
  | [], _, _ => rfl
  | n :: v, p, h => by
    obtain ⟨t, e1, e2, e3, e4⟩ := next_ok nd h
    have hr := next_row nd h
    have hm := (List.mem_filter.mp hr).2
    unfold mayB at hm
    have h1 := of_decide_eq_true ((Bool.and_eq_true _ _).mp hm).1
    show (prAt m (nextP m n v p) :: ansF m v (nextP m n v p)).map (·.1) = n :: v
    rw [List.map_cons, ans_names nd v e3, h1]
theorem ans_len {m : Md} : ∀ (v : List Str) (p : Nat), (ansF m v p).length = v.length
  | [], _ => rfl
  | n :: v, p => by
    show (prAt m (nextP m n v p) :: ansF m v (nextP m n v p)).length = _
    rw [List.length_cons, List.length_cons, ans_len v]
/-- an answer is unbroken -/
theorem ans_unb {m : Md} (nd : m.pairs.Nodup) : ∀ (v : List Str) {p : Nat}, hopB m v p = true → ∀ x r, ansF m v p = x :: r → (∀ y ∈ x :: r, y ∈ m.pairs) ∧ ((x :: r).zip r).all (fun s => decide (s ∈ m.steps)) = true ∧ x ∈ rowL m (lastAt m p, x.1) ∧ cloO m (some (lastP x r)) = true
  | [], p, h, x, r, e => by cases e
  | n :: v, p, h, x, r, e => by
    obtain ⟨t, e1, e2, e3, e4⟩ := next_ok nd h
    have hr := next_row nd h
    have e : prAt m (nextP m n v p) :: ansF m v (nextP m n v p) = x :: r := e
    obtain ⟨rfl, er⟩ := List.cons.inj e
    have hm := (List.mem_filter.mp hr).2
    unfold mayB at hm
    have h1 := of_decide_eq_true ((Bool.and_eq_true _ _).mp hm).1
    have hp := (List.mem_filter.mp hr).1
    generalize hq : nextP m n v p = q at e2 e3 e4 er hr h1 hp
    cases r with
    | nil =>
      have hv : v = [] := List.eq_nil_of_length_eq_zero (by rw [← ans_len (m := m) v q, er]; rfl)
      subst hv
      refine ⟨fun y hy => by rw [List.mem_singleton.mp hy]; exact hp, rfl, by rw [h1]; exact hr, ?_⟩
      have e3 : cloP m q = true := e3
      have z := ((Bool.and_eq_true _ _).mp e3).2
      rw [e4] at z
      exact z
    | cons y r =>
      obtain ⟨a1, a2, a3, a4⟩ := ans_unb nd v e3 y r er
      refine ⟨fun z hz => (List.mem_cons.mp hz).elim (fun e => by rw [e]; exact hp) (a1 z), ?_, by rw [h1]; exact hr, a4⟩
      rw [List.zip_cons_cons, List.all_cons, a2, Bool.and_true]
      have hm2 := (List.mem_filter.mp a3).2
      rw [e4] at hm2
      unfold mayB at hm2
      exact ((Bool.and_eq_true _ _).mp hm2).2
theorem ans_unbF {m : Md} (nd : m.pairs.Nodup) {v : List Str} (h : hopB m v 0 = true) : unbF m (ansF m v 0) = true := by
  cases e : ansF m v 0 with
  | nil => rfl
  | cons x r =>
    obtain ⟨a1, a2, a3, a4⟩ := ans_unb nd v h x r e
    rw [unb_cons, a2]
    have e1 : (x :: r).all (fun y => decide (y ∈ m.pairs)) = true := List.all_eq_true.mpr fun y hy => decide_eq_true (a1 y hy)
    have hm := (List.mem_filter.mp a3).2
    unfold mayB at hm
    have e2 : decide (x ∈ m.opens) = true := ((Bool.and_eq_true _ _).mp hm).2
    have e3 : decide (lastP x r ∈ m.closes) = true := a4
    rw [e1, e2, e3]
    rfl
section
variable {P : Program} {w : World} {K : PySem.W.Frag} {mg : Str → Option Value} {base : Heap} {C CM CU : Addr}
abbrev sLaw : Stmt := (topS 54)
abbrev nLaw : List Str := ["_law_script", "_law_model", "_law_book_here", "_law_table_here", "_law_voice_here", "_law_sung", "_law_handed", "_law_due", "_law_found", "_law_pair", "_law_far", "_law_at"]
theorem sc_law : FnScope nLaw ["_law_script"] (defScope sLaw) := ⟨rfl, rfl, rfl, by decide +kernel, rfl, by decide +kernel, by decide +kernel⟩
abbrev spLaw (K : PySem.W.Frag) : Sp := spX (fun _ : List Int => True) (fun ns => [scr K ns]) (fun _ => bl true)
theorem ok_law {f : Addr} {fd : FuncData} (F : Fun K "law" "law" sLaw f fd) (T : BTx K C CM) (mLs : mg "list" = none) (mT : mg "tuple" = none) (mL : mg "len" = none) (mI : mg "int" = none) (mIs : mg "isinstance" = none)
    (DC : Df P w K mg base 1 "_law_cell" ["_law_script", "_law_k"] (spCl K)) (DB : Df P w K mg base 4 "_law_book" ["_law_script", "_law_k"] (spBook K)) (DR : Df P w K mg base 1 "_law_rules" ["_law_model"] spRules) (DU : Df P w K mg base 1 "_law_unknown" ["_law_names_here"] spUnk) (DT : Df P w K mg base 1 "_law_table" ["_law_model"] (spTbl w))
    (DE : Df P w K mg base 2 "_law_closed" ["_law_model", "_law_table_here", "_law_starts", "_law_voice_here"] (spClo w)) (DV : Df P w K mg base 3 "_law_voice" ["_law_script", "_law_k", "_law_names_here", "_law_top_depth"] (spVoi K)) (DL : Df P w K mg base 1 "_law_unbroken" ["_law_model", "_law_piece"] spLub) (DI : Df P w K mg base 3 "is_unbroken" ["book", "piece"] (spUnb C CM))
    (DK : Mk1 P w K mg base 5 C "Book" ["self", "given", "rules"] (spBookI C CM)) (DN : Df P w K mg base 10 "answer" ["book", "voice"] (spAsN C CM)) (DS : Df P w K mg base 10 "answer" ["book", "voice"] (spAsS C CM)) (DF : Df P w K mg base 6 "_law_refused" ["_law_book_here", "_law_voice_here", "_law_note"] (spRef C CM)) : FnOk P w K mg base CX0 12 f fd ["_law_script"] (spLaw K) := by
  refine fn_ok F sc_law (fun _ _ => rfl) fun ns cdv B0 outer s H E _ hr => ?_
  have nd := sc_law.nd
  have r4 := hr.mono (show 4 ≤ 11 by decide)
  have r10 := hr.mono (show 10 ≤ 11 by decide)
  have r1 := hr.mono (show 1 ≤ 11 by decide)
  refine ba_cons (sa_set 1 nd (ea_call DB r4 (ns, 0) (show 0 ≤ 900 by decide) (eas_cons (ea_var 0 rfl) (eas_cons (ea_is (A := int 0) ea_int rfl) eas_nil))) ?_)
  refine ba_ex (i := 1) rfl fun m g => ?_
  have g : Good m := g
  have nok : okL okS m.names := fun s hs => note_ok (g.nt s hs)
  have pl := g.pl
  have gw := wm_good g
  have oc : okL okPr m.closes := fun x hx => g.okp (g.cl.subset hx)
  refine ba_cons (sa_set 2 nd (A := bookA C CM (bookOf m.names (rulesOf m))) (ea_makeB DK (hr.mono (show 6 ≤ 11 by decide)) (m.names, rulesOf m) ⟨⟨g.nl, g.nn, g.nt⟩, rd_model g, by have := rules_len g; show (rulesOf m).length ≤ 1000; omega⟩ rfl (eas_cons (en_a (en_listL (ea_l (ea_ixL (ea_l (ea_var 1 rfl)) (ea_w ea_int) rfl (j := 0) rfl)) mLs)) (eas_cons (ea_callB DR r1 m g (rfl : _ = rulesA (rulesOf m)) (eas_cons (ea_var 1 rfl) eas_nil)) eas_nil))) ?_)
  refine ba_cons (sa_set 3 nd (ea_callB DT r1 m gw (rfl : _ = tblA w m) (eas_cons (ea_var 1 rfl) eas_nil)) ?_)
  refine ba_cons (sa_set 4 nd (ea_callB DV (hr.mono (show 3 ≤ 11 by decide)) (VoI.mk ns 3 m.names 44) ⟨(by decide : 3 ≤ 1000), (by have := g.nl; show m.names.length ≤ 1000; omega), (by decide : 44 ≤ 200)⟩ (rfl : _ = exA (VoIn m.names 44) (fun v => lstA (v.map str))) (eas_cons (ea_var 0 rfl) (eas_cons (ea_is (A := int 3) ea_int rfl) (eas_cons (ea_ixL (ea_l (ea_var 1 rfl)) (ea_w ea_int) rfl (j := 0) rfl) (eas_cons (ea_is (A := int 44) ea_int rfl) eas_nil))))) ?_)
  refine ba_ex (i := 4) rfl fun vo hvo => ?_
  obtain ⟨hvo, hvl⟩ : (∀ n ∈ vo, n ∈ m.names) ∧ vo.length ≤ 44 := hvo
  have kb : KB (bookOf m.names (rulesOf m)) m := ⟨okp_model g, by unfold bookOf; rw [fold_given]; rfl, pairs_model g, rules_model g⟩
  have hcon : ∀ r, conB (bookOf m.names (rulesOf m)) r = decide (r ∈ rulesOf m) := fun r => con_of _ _ _
  generalize hB : bookOf m.names (rulesOf m) = B at kb hcon
  have pm : Pm B m := pm_model kb g hcon
  let ρ0 : List En := [.fr (scr K ns), .fr (mdA m), .fr (bookA C CM B), .fr (tblA w m), .fr (lstA (vo.map str)), .no, .no, .no, .no, .no, .no, .no]
  have hle : ∀ {a b c d e f g : En}, Le ρ0 [.fr (scr K ns), .fr (mdA m), .fr (bookA C CM B), .fr (tblA w m), .fr (lstA (vo.map str)), a, b, c, d, e, f, g] := .same (.same (.same (.same (.same (.no (.no (.no (.no (.no (.no (.no .nil)))))))))))
  have sl := sizeLine_eq
  let half : Int := (vo.length : Int) / 2
  let sungs : List (List Str) := [vo, cutS vo none (some half), cutS vo none (some 1), [], vo]
  have hsu : ∀ su ∈ sungs, (∀ n ∈ su, n ∈ m.names) ∧ su.length ≤ 44 := fun su h => by
    have h : su = vo ∨ su = cutS vo none (some half) ∨ su = cutS vo none (some 1) ∨ su = [] ∨ su = vo := by simpa [sungs] using h
    rcases h with rfl | rfl | rfl | rfl | rfl
    · exact ⟨hvo, hvl⟩
    · exact ⟨fun n hn => hvo n (cutS_mem hn), Nat.le_trans cutS_len hvl⟩
    · exact ⟨fun n hn => hvo n (cutS_mem hn), Nat.le_trans cutS_len hvl⟩
    · exact ⟨fun n hn => by simp at hn, by decide⟩
    · exact ⟨hvo, hvl⟩
  refine ba_cons (sa_for (l := sungs.map fun v => lstA (v.map str)) 5 (fun _ ρ' => ρ' = ρ0) PassesOwn.never rfl nd (en_a (en_lst (eas_cons (ea_var 4 rfl) (eas_cons (ea_is (en_a (en_slL (ea_l (ea_var 4 rfl)) eo_none (eo_some (ea_w (ea_fdiv (ea_w (ea_is (ea_lenL (ea_l (ea_var 4 rfl)) mL) (by rw [List.length_map]))) (ea_w ea_int) ⟨by decide, by decide⟩))))) (by rw [cutA_map])) (eas_cons (ea_is (en_a (en_slL (ea_l (ea_var 4 rfl)) eo_none (eo_some (ea_w ea_int)))) (by rw [cutA_map])) (eas_cons (en_a (en_lst eas_nil (Nat.zero_le _))) (eas_cons (ea_var 4 rfl) eas_nil))))) (by show 5 ≤ sizeLine; decide))) ⟨_, rfl, hle⟩ ?hs ?hd)
  case hd =>
    rintro ρ' rfl
    refine ba_cons (sa_set 10 nd (ea_call DU r1 m.names ⟨g.nl, nok⟩ (eas_cons (ea_ixL (ea_l (ea_var 1 rfl)) (ea_w ea_int) rfl (j := 0) rfl) eas_nil)) ?_)
    refine ba_ex (i := 10) rfl fun far hfar => ?_
    obtain ⟨hfar, hfn⟩ : far ∉ m.names ∧ Note far := hfar
    refine ba_cons (sa_set 11 nd (ea_mod (ea_w (ea_int1 (ea_w (ea_callB DC r1 ((ns, 4) : List Int × Nat) trivial (rfl : _ = int (cellA ns 4)) (eas_cons (ea_var 0 rfl) (eas_cons (ea_is (A := int 4) ea_int rfl) eas_nil)))) mI)) (ea_w (ea_add (ea_w (ea_is (ea_lenL (ea_l (ea_var 4 rfl)) mL) (by rw [List.length_map]))) (ea_w ea_int))) (by omega)) ?_)
    generalize cellA ns 4 % ((vo.length : Int) + 1) = at_
    have e1 : farOf m.names (cutS vo none (some at_) ++ [far] ++ cutS vo (some at_) none ++ [("" : Str)]) = some far := by
      unfold farOf
      rw [List.find?_append, List.find?_append, List.find?_append, List.find?_eq_none.mpr (fun n hn => by simp [hvo n (cutS_mem hn)])]
      simp [hfar]
    have l1 : (1 : Nat) ≤ sizeLine := by decide
    have c1 := cutS_len (l := vo) (i := none) (j := some at_)
    have c2 := cutS_len (l := vo) (i := some at_) (j := none)
    refine ba_one (sa_ret (ea_callB DF (hr.mono (show 6 ≤ 11 by decide)) (B, m, cutS vo none (some at_) ++ [far] ++ cutS vo (some at_) none ++ [("" : Str)], far) ⟨pm, e1, hfn⟩ rfl (eas_cons (ea_var 2 rfl) (eas_cons (ea_is (en_a (en_cat (en_l (en_cat (en_l (en_cat (en_l (en_slL (ea_l (ea_var 4 rfl)) eo_none (eo_some (ea_w (ea_var 11 rfl))))) (en_l (en_lst (eas_cons (ea_var 10 rfl) eas_nil) l1)) ?b1)) (en_l (en_slL (ea_l (ea_var 4 rfl)) (eo_some (ea_w (ea_var 11 rfl))) eo_none)) ?b2)) (en_l (en_lst (eas_cons ea_str eas_nil) l1)) ?b3)) ?eq) (eas_cons (ea_var 10 rfl) eas_nil)))))
    case b1 => rw [cutA_map, List.length_map]; show _ + 1 ≤ _; omega
    case b2 => rw [cutA_map, cutA_map, List.length_append, List.length_map, List.length_map]; show _ + 1 + _ ≤ _; omega
    case b3 => rw [cutA_map, cutA_map, List.length_append, List.length_append, List.length_map, List.length_map]; show _ + 1 + _ + 1 ≤ _; omega
    case eq => rw [cutA_map, cutA_map, List.map_append, List.map_append, List.map_append]; rfl
  case hs =>
    rintro i A ρ' hi rfl
    rw [List.getElem?_map] at hi
    cases e : sungs[i]? with
    | none => rw [e] at hi; cases hi
    | some su =>
      rw [e] at hi
      have hi : lstA (su.map str) = A := by simpa using hi
      subst hi
      obtain ⟨hsn, hsl⟩ := hsu su (List.mem_of_getElem? e)
      clear e hsu
      have sok : okL okS su := fun n hn => nok n (hsn n hn)
      have st : OkE m [none] := ⟨fun x hx => by rw [List.mem_singleton.mp hx]; exact List.mem_cons_self .., by simp⟩
      have ai : AsI B m su := ⟨pm, hsn, by omega⟩
      have hc : hopB m su 0 = canB m su none := hop_can g.pnd su (Nat.succ_pos _)
      refine ba_cons (sa_setN 6 nd (en_listL (ea_l (ea_var 5 rfl)) mLs) ?_)
      refine ba_free (i := 6) rfl ?_
      refine ba_cons (sa_set 7 nd (A := bl (hopB m su 0)) (ea_callB DE (hr.mono (show 2 ≤ 11 by decide)) (m, [none], su) ⟨⟨gw, st, hsn⟩, oc⟩ (by rw [hc]; rfl) (eas_cons (ea_var 1 rfl) (eas_cons (ea_var 3 rfl) (eas_cons (en_a (en_lst (l := [none].map lstOf) (eas_cons ea_non eas_nil) (by show 1 ≤ sizeLine; decide))) (eas_cons (ea_var 5 rfl) eas_nil))))) ?_)
      let ρ1 : List En := [.fr (scr K ns), .fr (mdA m), .fr (bookA C CM B), .fr (tblA w m), .fr (lstA (vo.map str)), .fr (lstA (su.map str)), .fr (lstA (su.map str)), .fr (bl (hopB m su 0)), .no, .no, .no, .no]
      have hle1 : ∀ {a b c d : En}, Le ρ1 [.fr (scr K ns), .fr (mdA m), .fr (bookA C CM B), .fr (tblA w m), .fr (lstA (vo.map str)), .fr (lstA (su.map str)), .fr (lstA (su.map str)), .fr (bl (hopB m su 0)), a, b, c, d] := .same (.same (.same (.same (.same (.same (.same (.same (.no (.no (.no (.no .nil)))))))))))
      cases hh : hopB m su 0 with
      | false =>
        simp only [ρ1, hh] at hle1
        refine ba_one (sa_for (l := [non, non]) 8 (fun _ ρ' => ρ' = [.fr (scr K ns), .fr (mdA m), .fr (bookA C CM B), .fr (tblA w m), .fr (lstA (vo.map str)), .fr (lstA (su.map str)), .fr (lstA (su.map str)), .fr (bl false), .no, .no, .no, .no]) PassesOwn.never rfl nd (en_a (en_lst (eas_cons (ea_callB DN r10 (B, m, true, su) ⟨ai, hh⟩ rfl (eas_cons (ea_var 2 rfl) (eas_cons (ea_var 6 rfl) eas_nil))) (eas_cons (ea_callB DN r10 (B, m, false, su) ⟨ai, hh⟩ rfl (eas_cons (ea_var 2 rfl) (eas_cons (ea_tupleL (ea_l (ea_var 5 rfl)) mT) eas_nil))) eas_nil)) (by show 2 ≤ sizeLine; decide))) ⟨_, rfl, hle1⟩ ?hs3 ?hd3)
        case hd3 =>
          rintro ρ' rfl
          exact ⟨_, rfl, hle⟩
        case hs3 =>
          rintro k A ρ' hk rfl
          have hA : A = non := by
            match k, hk with
            | 0, hk => simpa using hk.symm
            | 1, hk => simpa using hk.symm
            | _ + 2, hk => simp at hk
          subst hA
          refine ba_cons (sa_if (k := false) (et_w (ewt_or (j := false) (k := false) (et_is (et_cm (ea_w (ea_var 6 rfl)) (ea_w (ea_var 5 rfl)) (cm_ne (f := fun l : List Str => lstA (l.map str)) (a := su) (b := su) hr (enc_lst enc_str) sok sok) rfl) (by simp)) fun _ => ewt_or1 (et_is (et_cm (ea_w (ea_cm (ea_w (ea_var 8 rfl)) (ea_w ea_non) isNN0 rfl)) (ea_w (ea_var 7 rfl)) cm_neB rfl) (by decide)))) (fun h => by cases h) (fun _ => ba_nil ?_))
          exact ba_one (sa_if (k := false) (et_v (ea_w (ea_var 7 rfl))) (fun h => by cases h) (fun _ => ba_nil ⟨_, rfl, hle1⟩))
      | true =>
        simp only [ρ1, hh] at hle1
        have names := ans_names g.pnd su hh
        have al := ans_len (m := m) su 0
        have nmE : lstA ((ansF m su 0).map fun p => str p.1) = lstA (su.map str) := by
          have z := congrArg (List.map str) names
          rw [List.map_map] at z
          exact congrArg lstA z
        have ub := ans_unbF g.pnd hh
        have ap : ∀ x ∈ ansF m su 0, x ∈ m.pairs := fun x hx => by
          cases e : ansF m su 0 with
          | nil => rw [e] at hx; simp at hx
          | cons y r => exact (ans_unb g.pnd su hh y r e).1 x (by rw [← e]; exact hx)
        have aok : okL okPr (ansF m su 0) := fun x hx => g.okp (ap x hx)
        have uq : (usedR (ansF m su 0)).all (conB B) = true := by rw [unb_is g hcon]; exact ub
        refine ba_one (sa_for (l := [prsA (ansF m su 0), prsA (ansF m su 0)]) 8 (fun _ ρ' => ρ' = [.fr (scr K ns), .fr (mdA m), .fr (bookA C CM B), .fr (tblA w m), .fr (lstA (vo.map str)), .fr (lstA (su.map str)), .fr (lstA (su.map str)), .fr (bl true), .no, .no, .no, .no]) PassesOwn.never rfl nd (en_a (en_lst (eas_cons (en_a (en_call DS r10 (B, m, true, su) ⟨ai, hh⟩ (rfl : _ = (ansF m su 0).map prA) nl_prs (eas_cons (ea_var 2 rfl) (eas_cons (ea_var 6 rfl) eas_nil)))) (eas_cons (en_a (en_call DS r10 (B, m, false, su) ⟨ai, hh⟩ (rfl : _ = (ansF m su 0).map prA) nl_prs (eas_cons (ea_var 2 rfl) (eas_cons (ea_tupleL (ea_l (ea_var 5 rfl)) mT) eas_nil)))) eas_nil)) (by show 2 ≤ sizeLine; decide))) ⟨_, rfl, hle1⟩ ?hs3 ?hd3)
        case hd3 =>
          rintro ρ' rfl
          exact ⟨_, rfl, hle⟩
        case hs3 =>
          rintro k A ρ' hk rfl
          have hA : A = prsA (ansF m su 0) := by
            match k, hk with
            | 0, hk => simpa using hk.symm
            | 1, hk => simpa using hk.symm
            | _ + 2, hk => simp at hk
          subst hA
          refine ba_cons (sa_if (k := false) (et_w (ewt_or (j := false) (k := false) (et_is (et_cm (ea_w (ea_var 6 rfl)) (ea_w (ea_var 5 rfl)) (cm_ne (f := fun l : List Str => lstA (l.map str)) (a := su) (b := su) hr (enc_lst enc_str) sok sok) rfl) (by simp)) fun _ => ewt_or1 (et_is (et_cm (ea_w (ea_cm (ea_w (ea_var 8 rfl)) (ea_w ea_non) isNN1 rfl)) (ea_w (ea_var 7 rfl)) cm_neB rfl) (by decide)))) (fun h => by cases h) (fun _ => ba_nil ?_))
          refine ba_one (sa_if (k := true) (et_v (ea_w (ea_var 7 rfl))) (fun _ => ?_) (fun h => by cases h))
          refine ba_cons (sa_if (k := false) (et_w (ewt_or (j := false) (k := false) (et_is (et_not (et_v (ea_w (ea_isT (ea_var 8 rfl) ty_lst mLs bo_list2 kit_lst_lst mIs)))) rfl) fun _ => ewt_or1 (et_is (et_cm (ea_w (ea_is (en_a (en_lcA (own := [("_law_pair", 9)]) 9 (l := ansF m su 0) (enc := prA) (g := fun p => str p.1) rfl nd (ea_l (ea_var 8 rfl)) (by rw [sizeLine_eq, al]; omega) (blkOk_by (N := nLaw) (sc := defScope sLaw) (by decide +kernel)) (fun _ _ _ _ _ => pg_name nd rfl (Or.inl rfl)) (fun _ _ _ _ _ p _ => ea_ixT (l := [str p.1, str p.2]) (ea_var 9 rfl) (ea_w ea_int) (j := 0) rfl rfl))) nmE)) (ea_w (ea_var 5 rfl)) (cm_ne (f := fun l : List Str => lstA (l.map str)) (a := su) (b := su) hr (enc_lst enc_str) sok sok) rfl) (by simp)))) (fun h => by cases h) (fun _ => ba_nil ?_))
          exact ba_one (sa_if (k := false) (et_w (ewt_or (j := false) (k := false) (et_is (et_not (et_v (ea_w (ea_callB DL r1 (m, ansF m su 0) ⟨g, by show (ansF m su 0).length ≤ 100; omega, aok⟩ (by show bl (unbF m (ansF m su 0)) = bl true; rw [ub]) (eas_cons (ea_var 1 rfl) (eas_cons (ea_var 8 rfl) eas_nil)))))) rfl) fun _ => ewt_or1 (et_is (et_cm (ea_w (ea_callB DI (hr.mono (show 3 ≤ 11 by decide)) (B, true, ansF m su 0) ⟨kb.k.1, by show (ansF m su 0).length ≤ 1000; omega⟩ (by show bl ((usedR (ansF m su 0)).all (conB B)) = bl true; rw [uq]) (eas_cons (ea_var 2 rfl) (eas_cons (ea_var 8 rfl) eas_nil)))) (ea_w ea_bl) cm_isNotB rfl) (by decide)))) (fun h => by cases h) (fun _ => ba_nil ⟨_, rfl, hle1⟩))
end
end Kv

set_option Elab.async false
set_option linter.all false
set_option maxRecDepth 100000
set_option maxHeartbeats 4000000
namespace Kv
open PySem PySem.Calls L2 Lk
/-- a def that may raise, named -/
theorem mDX {P : Program} {w : World} {K : PySem.W.Frag} {mg : Str → Option Value} {base : Heap} {k : Nat} {x qual : Str} {st : Stmt} {f : Addr} {fd : FuncData} {ps : List Str} {sp : Sp} (F : Fun K x qual st f fd) (hm : mg x = some (.ref f)) (hb : Binds K fd ps []) (ok : FnOk P w K mg base (L2.CX P w) k f fd ps sp) : DfX P w K mg base k x ps sp := ⟨f, fd, ok, hm, F.kp, hb⟩
theorem exm_self {K : PySem.W.Frag} {S : Addr} (h1 : PySem.W.subIn K (.ref S) (.type "BaseException") = some true) (h2 : PySem.W.isClsIn K S = true) (h3 : PySem.W.typeIn K (.ref S) = some (.type "type")) (h4 : PySem.W.subIn K (.ref S) (.ref S) = some true) : PySem.W.exmOne K (.ref S) (.ref S) = some true := by
  have e1 : (PySem.W.subIn K (.ref S) (.type "BaseException") == some true) = true := by rw [h1] <;> rfl
  have e2 : ((PySem.W.clsIn K S).isSome && PySem.W.typeIn K (.ref S) == some (.type "type")) = true := by
    have h2' : (PySem.W.clsIn K S).isSome = true := h2
    rw [h2', h3] <;> rfl
  show (if (PySem.W.subIn K (.ref S) (.type "BaseException") == some true) = true then (if ((PySem.W.clsIn K S).isSome && PySem.W.typeIn K (.ref S) == some (.type "type")) = true then PySem.W.subIn K (.ref S) (.ref S) else none) else none) = some true
  rw [if_pos e1, if_pos e2]
  exact h4
section
variable {P : Program} {w : World} {K : PySem.W.Frag} {mg : Str → Option Value} {base h : Heap} {C CM : Addr}
/-- the table of the lengths -/
theorem rl_mk {d : Addr} {h1 h2 h3 h4 : Int} {t1 t2 t3 t4 u1 u2 u3 u4 : Tok} {n : Nat} (X : K.In h) (G : h.Ns mainGlobals mg) (a : PySem.W.nsIn K mainGlobals "RULE_LENGTHS" = some (some (.ref d)))
    (l : K.lookup d = some ⟨.type "dict", none, .dict #[⟨h1, .str "pair" t1, .int 3 u1⟩, ⟨h2, .str "open" t2, .int 3 u2⟩, ⟨h3, .str "close" t3, .int 3 u3⟩, ⟨h4, .str "step" t4, .int 5 u4⟩] n, #[]⟩)
    (kl : PySem.W.KeysLit w.params [⟨h1, .str "pair" t1, .int 3 u1⟩, ⟨h2, .str "open" t2, .int 3 u2⟩, ⟨h3, .str "close" t3, .int 3 u3⟩, ⟨h4, .str "step" t4, .int 5 u4⟩]) (lo : (d == sysModules) = false) : RLen K w mg := by
  refine ⟨d, _, n, PySem.W.mg_of X G a, ⟨l, kl, lo⟩, fun z m hz => ?_, fun z hz => ?_⟩
  · unfold PySem.W.nsIn
    rw [l]
    simp only [List.find?_cons, Value.isStr]
    unfold rlen at hz
    by_cases e1 : z = "pair"
    · rw [if_pos e1] at hz
      have hm : 3 = m := by simpa using hz
      subst hm e1
      exact ⟨u1, by simp⟩
    rw [if_neg e1] at hz
    have b1 : (Str.ofString "pair" == z) = false := by simpa using fun q => e1 q.symm
    by_cases e2 : z = "open"
    · rw [if_pos e2] at hz
      have hm : 3 = m := by simpa using hz
      subst hm
      have b2 : (Str.ofString "open" == z) = true := by simpa using e2.symm
      exact ⟨u2, by simp [b1, b2]⟩
    rw [if_neg e2] at hz
    have b2 : (Str.ofString "open" == z) = false := by simpa using fun q => e2 q.symm
    by_cases e3 : z = "close"
    · rw [if_pos e3] at hz
      have hm : 3 = m := by simpa using hz
      subst hm
      have b3 : (Str.ofString "close" == z) = true := by simpa using e3.symm
      exact ⟨u3, by simp [b1, b2, b3]⟩
    rw [if_neg e3] at hz
    have b3 : (Str.ofString "close" == z) = false := by simpa using fun q => e3 q.symm
    by_cases e4 : z = "step"
    · rw [if_pos e4] at hz
      have hm : 5 = m := by simpa using hz
      subst hm
      have b4 : (Str.ofString "step" == z) = true := by simpa using e4.symm
      exact ⟨u4, by simp [b1, b2, b3, b4]⟩
    rw [if_neg e4] at hz
    cases hz
  · unfold PySem.W.nsIn
    rw [l]
    unfold rlen at hz
    by_cases e1 : z = "pair"
    · rw [if_pos e1] at hz; cases hz
    rw [if_neg e1] at hz
    by_cases e2 : z = "open"
    · rw [if_pos e2] at hz; cases hz
    rw [if_neg e2] at hz
    by_cases e3 : z = "close"
    · rw [if_pos e3] at hz; cases hz
    rw [if_neg e3] at hz
    by_cases e4 : z = "step"
    · rw [if_pos e4] at hz; cases hz
    have b1 : (Str.ofString "pair" == z) = false := by simpa using fun q => e1 q.symm
    have b2 : (Str.ofString "open" == z) = false := by simpa using fun q => e2 q.symm
    have b3 : (Str.ofString "close" == z) = false := by simpa using fun q => e3 q.symm
    have b4 : (Str.ofString "step" == z) = false := by simpa using fun q => e4 q.symm
    simp [List.find?_cons, Value.isStr, b1, b2, b3, b4, DictEntry.refKey]
end
end Kv

set_option Elab.async false
set_option linter.all false
set_option maxRecDepth 100000
set_option maxHeartbeats 4000000
namespace Kv
open PySem PySem.Calls L2 Lk NdefX
section
variable {P : Program} {w : World} {K : PySem.W.Frag} {mg : Str → Option Value} {base h : Heap} {C CM CU CQ CV CB CR CP CL : Addr}
local macro_rules | `(tactic| walk_at "b1") => `(tactic| exact fun _ _ _ _ _ _ us hl => match us, hl with | [_], _ => rfl)
local macro_rules | `(tactic| walk_at "b2") => `(tactic| exact fun _ _ _ _ _ _ us hl => match us, hl with | [_, _], _ => rfl)
local macro_rules | `(tactic| walk_at "b3") => `(tactic| exact fun _ _ _ _ _ _ us hl => match us, hl with | [_, _, _], _ => rfl)
local macro_rules | `(tactic| walk_at "b4") => `(tactic| exact fun _ _ _ _ _ _ us hl => match us, hl with | [_, _, _, _], _ => rfl)
local macro_rules | `(tactic| walk_at "b5") => `(tactic| exact fun _ _ _ _ _ _ us hl => match us, hl with | [_, _, _, _, _], _ => rfl)
local macro_rules | `(tactic| walk_at "b6") => `(tactic| exact fun _ _ _ _ _ _ us hl => match us, hl with | [_, _, _, _, _, _], _ => rfl)
theorem all_mk {l : PySem.W.OpenLaw} {fa : Addr} {ea : Addr} {v8 v4 v5 : Tok} (X : K.In h) (G : h.Ns mainGlobals mg) (hfa : mg "law" = some (.ref fa))
    (z_len : PySem.W.nsIn K mainGlobals "len" = some none)
    (z_int : PySem.W.nsIn K mainGlobals "int" = some none)
    (z_range : PySem.W.nsIn K mainGlobals "range" = some none)
    (z_list : PySem.W.nsIn K mainGlobals "list" = some none)
    (z_tuple : PySem.W.nsIn K mainGlobals "tuple" = some none)
    (z_any : PySem.W.nsIn K mainGlobals "any" = some none)
    (c1 : PySem.W.nsIn K mainGlobals "LONGEST_NAME" = some (some (.int 8 v8)))
    (c2 : PySem.W.nsIn K mainGlobals "MOST_GIVEN" = some (some (.int 4 v4)))
    (c3 : PySem.W.nsIn K mainGlobals "MOST_ANSWERS" = some (some (.int 4 v5)))
    (R : RLen K w mg)
    (T : BTx K C CM)
    (l__law_cell : FnAt K "_law_cell" sCell)
    (l__law_digits : FnAt K "_law_digits" sDigits)
    (l__law_names : FnAt K "_law_names" sNames)
    (l__law_free : FnAt K "_law_free" sFree)
    (l__law_fits : FnAt K "_law_fits" sFits)
    (l__law_recipe : FnAt K "_law_recipe" sRec)
    (l__law_book : FnAt K "_law_book" sBook)
    (l_law : FnAt K "law" sLaw)
    (l__law_rules : FnAt K "_law_rules" sRules)
    (l__law_unknown : FnAt K "_law_unknown" sUnk)
    (l_is_note : FnAt K "is_note" sNote)
    (l_is_well_formed : FnAt K "is_well_formed" sWf)
    (l_named_pairs : FnAt K "named_pairs" sNamed)
    (l_checked_given : FnAt K "checked_given" sChk)
    (m_Book___contains__ : MtAt K C "__contains__" "Book.__contains__" sCon)
    (m_Book__require_note : MtAt K C "_require_note" "Book._require_note" sReqN)
    (m_Book__require_pair : MtAt K C "_require_pair" "Book._require_pair" sReqP)
    (m_Book__read_pair : MtAt K C "_read_pair" "Book._read_pair" sRP)
    (k_RuleMark : MkAt K CM "RuleMark" "RuleMark.__init__" sMarkI [])
    (m_Book_read : MtAt K C "read" "Book.read" sRead)
    (k_Book : MkAt K C "Book" "Book.__init__" sInit [.ref ea])
    (p_Book_pairs : PrAt K C "pairs" "Book.pairs" sPairs)
    (m_Book_answers : MtAt K C "answers" "Book.answers" sAns)
    (m_Book_after : MtAt K C "after" "Book.after" sAft)
    (eU : ExAt l.prog K CU "UnknownNote" "UnknownNote.__init__" "note" sUnn)
    (z_sorted : PySem.W.nsIn K mainGlobals "sorted" = some none)
    (Rr : RTx K CR)
    (eP : ExAt l.prog K CP "BadPlace" "BadPlace.__init__" "place" sBpl)
    (l_ascending : FnAt K "ascending" sAsc)
    (l_require_places : FnAt K "require_places" sRqp)
    (k_Relation : MkAt K CR "Relation" "Relation.__init__" sRelI [])
    (z_enumerate : PySem.W.nsIn K mainGlobals "enumerate" = some none)
    (Zp : PTx K CL)
    (l_step_relation : FnAt K "step_relation" sStp)
    (k_Places : MkAt K CL "Places" "Places.__init__" sPli [])
    (m_Places_is_closed : MtAt K CL "is_closed" "Places.is_closed" sIcl)
    (z_reversed : PySem.W.nsIn K mainGlobals "reversed" = some none)
    (z_zip : PySem.W.nsIn K mainGlobals "zip" = some none)
    (z_all : PySem.W.nsIn K mainGlobals "all" = some none)
    (l_require_notes : FnAt K "require_notes" sRqn)
    (l_hopeful_places : FnAt K "hopeful_places" sHop)
    (l_answer : FnAt K "answer" sAsw)
    (l_used_by : FnAt K "used_by" sUby)
    (l_is_unbroken : FnAt K "is_unbroken" sUnb)
    (l__law_table : FnAt K "_law_table" sTbl)
    (l__law_ends : FnAt K "_law_ends" sEnd)
    (l__law_voice : FnAt K "_law_voice" sVoi)
    (l__law_closed : FnAt K "_law_closed" sClo)
    (z_isinstance : PySem.W.nsIn K mainGlobals "isinstance" = some none)
    (z_ValueError : PySem.W.nsIn K mainGlobals "ValueError" = some none)
    (x0 : ExcC K CU)
    (x1 : PySem.W.isClsIn K CU = true)
    (x2 : PySem.W.subIn K (.ref CU) (.ref CU) = some true)
    (gV : PySem.W.nsIn K mainGlobals "VoiceError" = some (some (.ref CV)))
    (x4 : PySem.W.kitOne K (.ref CU) (.ref CV) = some true)
    (x5 : PySem.W.kitOne K (.ref CU) (.type "ValueError") = some true)
    (gB : PySem.W.nsIn K mainGlobals "BadName" = some (some (.ref CB)))
    (x6 : PySem.W.kitOne K (.ref CU) (.ref CB) = some false)
    (gQ : PySem.W.nsIn K mainGlobals "UnknownPair" = some (some (.ref CQ)))
    (x7 : PySem.W.kitOne K (.ref CU) (.ref CQ) = some false)
    (l__law_unbroken : FnAt K "_law_unbroken" sLub)
    (l__law_refused : FnAt K "_law_refused" sRef) :
    ∃ fd : FuncData, (∀ (s : Shared) (v : Value), BindsTo s fd ⟨[v], []⟩ [("_law_script", v)]) ∧ ∀ base : Heap, K.In base → base.Ns mainGlobals mg → FnOk l.prog w K mg base CX0 12 fa fd ["_law_script"] (spLaw K) := by
  obtain ⟨f_law, d_law, u_law, F_law⟩ := l_law.ex
  have e := hfa.symm.trans (PySem.W.mg_of X G u_law)
  cases e
  obtain ⟨f__law_cell, d__law_cell, u__law_cell, F__law_cell⟩ := l__law_cell.ex
  obtain ⟨f__law_digits, d__law_digits, u__law_digits, F__law_digits⟩ := l__law_digits.ex
  obtain ⟨f__law_names, d__law_names, u__law_names, F__law_names⟩ := l__law_names.ex
  obtain ⟨f__law_free, d__law_free, u__law_free, F__law_free⟩ := l__law_free.ex
  obtain ⟨f__law_fits, d__law_fits, u__law_fits, F__law_fits⟩ := l__law_fits.ex
  obtain ⟨f__law_recipe, d__law_recipe, u__law_recipe, F__law_recipe⟩ := l__law_recipe.ex
  obtain ⟨f__law_book, d__law_book, u__law_book, F__law_book⟩ := l__law_book.ex
  obtain ⟨f__law_rules, d__law_rules, u__law_rules, F__law_rules⟩ := l__law_rules.ex
  obtain ⟨f__law_unknown, d__law_unknown, u__law_unknown, F__law_unknown⟩ := l__law_unknown.ex
  obtain ⟨f_is_note, d_is_note, u_is_note, F_is_note⟩ := l_is_note.ex
  obtain ⟨f_is_well_formed, d_is_well_formed, u_is_well_formed, F_is_well_formed⟩ := l_is_well_formed.ex
  obtain ⟨f_named_pairs, d_named_pairs, u_named_pairs, F_named_pairs⟩ := l_named_pairs.ex
  obtain ⟨f_checked_given, d_checked_given, u_checked_given, F_checked_given⟩ := l_checked_given.ex
  obtain ⟨f_Book___contains__, d_Book___contains__, M_Book___contains__, F_Book___contains__⟩ := m_Book___contains__.ex
  obtain ⟨f_Book__require_note, d_Book__require_note, M_Book__require_note, F_Book__require_note⟩ := m_Book__require_note.ex
  obtain ⟨f_Book__require_pair, d_Book__require_pair, M_Book__require_pair, F_Book__require_pair⟩ := m_Book__require_pair.ex
  obtain ⟨f_Book__read_pair, d_Book__read_pair, M_Book__read_pair, F_Book__read_pair⟩ := m_Book__read_pair.ex
  obtain ⟨f_RuleMark, d_RuleMark, M_RuleMark, F_RuleMark⟩ := k_RuleMark.plain
  obtain ⟨f_Book_read, d_Book_read, M_Book_read, F_Book_read⟩ := m_Book_read.ex
  obtain ⟨f_Book, d_Book, M_Book, F_Book⟩ := k_Book.ex
  obtain ⟨pp_Book_pairs, f_Book_pairs, d_Book_pairs, P_Book_pairs, F_Book_pairs⟩ := p_Book_pairs.ex
  obtain ⟨f_Book_answers, d_Book_answers, M_Book_answers, F_Book_answers⟩ := m_Book_answers.ex
  obtain ⟨f_Book_after, d_Book_after, M_Book_after, F_Book_after⟩ := m_Book_after.ex
  obtain ⟨f_ascending, d_ascending, u_ascending, F_ascending⟩ := l_ascending.ex
  obtain ⟨f_require_places, d_require_places, u_require_places, F_require_places⟩ := l_require_places.ex
  obtain ⟨f_Relation, d_Relation, M_Relation, F_Relation⟩ := k_Relation.plain
  obtain ⟨f_step_relation, d_step_relation, u_step_relation, F_step_relation⟩ := l_step_relation.ex
  obtain ⟨f_Places, d_Places, M_Places, F_Places⟩ := k_Places.plain
  obtain ⟨f_Places_is_closed, d_Places_is_closed, M_Places_is_closed, F_Places_is_closed⟩ := m_Places_is_closed.ex
  obtain ⟨f_require_notes, d_require_notes, u_require_notes, F_require_notes⟩ := l_require_notes.ex
  obtain ⟨f_hopeful_places, d_hopeful_places, u_hopeful_places, F_hopeful_places⟩ := l_hopeful_places.ex
  obtain ⟨f_answer, d_answer, u_answer, F_answer⟩ := l_answer.ex
  obtain ⟨f_used_by, d_used_by, u_used_by, F_used_by⟩ := l_used_by.ex
  obtain ⟨f_is_unbroken, d_is_unbroken, u_is_unbroken, F_is_unbroken⟩ := l_is_unbroken.ex
  obtain ⟨f__law_table, d__law_table, u__law_table, F__law_table⟩ := l__law_table.ex
  obtain ⟨f__law_ends, d__law_ends, u__law_ends, F__law_ends⟩ := l__law_ends.ex
  obtain ⟨f__law_voice, d__law_voice, u__law_voice, F__law_voice⟩ := l__law_voice.ex
  obtain ⟨f__law_closed, d__law_closed, u__law_closed, F__law_closed⟩ := l__law_closed.ex
  obtain ⟨f__law_unbroken, d__law_unbroken, u__law_unbroken, F__law_unbroken⟩ := l__law_unbroken.ex
  obtain ⟨f__law_refused, d__law_refused, u__law_refused, F__law_refused⟩ := l__law_refused.ex
  have b_law : ∀ (s : Shared) (v : Value), BindsTo s d_law ⟨[v], []⟩ [("_law_script", v)] := fun s v => by
    obtain ⟨oc, od, kV, doc, pm, an, cdv, ct, osl, rfl, lk, hcd⟩ := F_law.ex
    exact .of_eq rfl
  refine ⟨d_law, b_law, fun base _ _ => ?_⟩
  have m_len := PySem.W.mg_none_of X G z_len
  have m_int := PySem.W.mg_none_of X G z_int
  have m_range := PySem.W.mg_none_of X G z_range
  have m_list := PySem.W.mg_none_of X G z_list
  have m_tuple := PySem.W.mg_none_of X G z_tuple
  have m_any := PySem.W.mg_none_of X G z_any
  have D1 : Df l.prog w K mg base 1 "_law_cell" ["_law_script", "_law_k"] (spCl K) := mD F__law_cell (PySem.W.mg_of X G u__law_cell) (F__law_cell.binds (ps := ["_law_script", "_law_k"]) (by walk_at "b2")) (ok_cell F__law_cell m_len)
  have D2 : Df l.prog w K mg base 2 "_law_digits" ["_law_script", "_law_k", "_law_count"] (spDigits K) := mD F__law_digits (PySem.W.mg_of X G u__law_digits) (F__law_digits.binds (ps := ["_law_script", "_law_k", "_law_count"]) (by walk_at "b3")) (ok_digits F__law_digits m_int m_range D1)
  have D3 : Df l.prog w K mg base 3 "_law_names" ["_law_script", "_law_k", "_law_count"] (spNames K) := mD F__law_names (PySem.W.mg_of X G u__law_names) (F__law_names.binds (ps := ["_law_script", "_law_k", "_law_count"]) (by walk_at "b3")) (ok_names F__law_names m_int m_range D2)
  have D4 : Df l.prog w K mg base 1 "_law_free" ["_law_digits_here", "_law_names_here", "_law_marks"] (spFree) := mD F__law_free (PySem.W.mg_of X G u__law_free) (F__law_free.binds (ps := ["_law_digits_here", "_law_names_here", "_law_marks"]) (by walk_at "b3")) (ok_free F__law_free m_range m_len)
  have D5 : Df l.prog w K mg base 1 "_law_fits" ["_law_kind", "_law_odd", "_law_one", "_law_two"] (spFits) := mD F__law_fits (PySem.W.mg_of X G u__law_fits) (F__law_fits.binds (ps := ["_law_kind", "_law_odd", "_law_one", "_law_two"]) (by walk_at "b4")) (ok_fits F__law_fits)
  have D6 : Df l.prog w K mg base 2 "_law_recipe" ["_law_digits_here", "_law_names_here", "_law_marks"] (spRec) := mD F__law_recipe (PySem.W.mg_of X G u__law_recipe) (F__law_recipe.binds (ps := ["_law_digits_here", "_law_names_here", "_law_marks"]) (by walk_at "b3")) (ok_rec F__law_recipe m_range m_len m_int m_list D5)
  have D7 : Df l.prog w K mg base 4 "_law_book" ["_law_script", "_law_k"] (spBook K) := mD F__law_book (PySem.W.mg_of X G u__law_book) (F__law_book.binds (ps := ["_law_script", "_law_k"]) (by walk_at "b2")) (ok_book F__law_book m_int D1 D2 D3 D4 D6)
  have D8 : Df l.prog w K mg base 1 "_law_rules" ["_law_model"] (spRules) := mD F__law_rules (PySem.W.mg_of X G u__law_rules) (F__law_rules.binds (ps := ["_law_model"]) (by walk_at "b1")) (ok_rules F__law_rules)
  have D9 : Df l.prog w K mg base 1 "_law_unknown" ["_law_names_here"] (spUnk) := mD F__law_unknown (PySem.W.mg_of X G u__law_unknown) (F__law_unknown.binds (ps := ["_law_names_here"]) (by walk_at "b1")) (ok_unk F__law_unknown)
  have DN : Df l.prog w K mg base 1 "is_note" ["name"] (spNote) := mD F_is_note (PySem.W.mg_of X G u_is_note) (F_is_note.binds (ps := ["name"]) (by walk_at "b1")) (ok_note F_is_note m_len ⟨_, PySem.W.mg_of X G c1⟩)
  have DW : Df l.prog w K mg base 1 "is_well_formed" ["rule"] (spWf) := mD F_is_well_formed (PySem.W.mg_of X G u_is_well_formed) (F_is_well_formed.binds (ps := ["rule"]) (by walk_at "b1")) (ok_wf F_is_well_formed m_len R)
  have DP : Df l.prog w K mg base 1 "named_pairs" ["rule"] (spNamed) := mD F_named_pairs (PySem.W.mg_of X G u_named_pairs) (F_named_pairs.binds (ps := ["rule"]) (by walk_at "b1")) (ok_named F_named_pairs m_len m_range)
  have DC : Df l.prog w K mg base 2 "checked_given" ["given"] (spChk) := mD F_checked_given (PySem.W.mg_of X G u_checked_given) (F_checked_given.binds (ps := ["given"]) (by walk_at "b1")) (ok_chk F_checked_given m_len m_tuple ⟨_, PySem.W.mg_of X G c2⟩ DN)
  have E1 : Mf l.prog w K mg base 2 C "__contains__" ["self", "rule"] (spCon C CM) := ⟨f_Book___contains__, d_Book___contains__, ok_con F_Book___contains__ T m_any DP, M_Book___contains__, F_Book___contains__.binds (ps := ["self", "rule"]) (by walk_at "b2")⟩
  have E4 : Mf l.prog w K mg base 1 C "_require_note" ["self", "note"] (spReqN C CM) := ⟨f_Book__require_note, d_Book__require_note, ok_reqN F_Book__require_note T, M_Book__require_note, F_Book__require_note.binds (ps := ["self", "note"]) (by walk_at "b2")⟩
  have E5 : Mf l.prog w K mg base 3 C "_require_pair" ["self", "pair"] (spReqP C CM) := ⟨f_Book__require_pair, d_Book__require_pair, ok_reqP F_Book__require_pair T E1, M_Book__require_pair, F_Book__require_pair.binds (ps := ["self", "pair"]) (by walk_at "b2")⟩
  have E3 : Mf l.prog w K mg base 2 C "_read_pair" ["self", "note", "answer"] (spRP C CM) := ⟨f_Book__read_pair, d_Book__read_pair, ok_rp F_Book__read_pair T m_len ⟨_, PySem.W.mg_of X G c3⟩ DN E4, M_Book__read_pair, F_Book__read_pair.binds (ps := ["self", "note", "answer"]) (by walk_at "b3")⟩
  have EM : Mk1 l.prog w K mg base 1 CM "RuleMark" ["self"] (spMarkI CM) := ⟨f_RuleMark, d_RuleMark, ok_markI F_RuleMark T, M_RuleMark, F_RuleMark.binds (ps := ["self"]) (by walk_at "b1"), PySem.W.mg_of X G k_RuleMark.nm⟩
  have E2 : Mf l.prog w K mg base 4 C "read" ["self", "rule"] (spRead C CM) := ⟨f_Book_read, d_Book_read, ok_read F_Book_read T DW DP E3 E4 E5 EM, M_Book_read, F_Book_read.binds (ps := ["self", "rule"]) (by walk_at "b2")⟩
  have bB : Binds K d_Book ["self", "given", "rules"] [] := by
    obtain ⟨ds, hv, hb⟩ := F_Book.binds1 (ps := ["self", "given", "rules"]) 3 1 (by simp) rfl fun T kV doc pm an cdv ct us its h1 h2 => by
      match us, its, h1, h2 with
      | [_, _, _], [_], _, _ => exact ⟨_, rfl, rfl⟩
    cases hv
    exact hb
  have EB : Mk1 l.prog w K mg base 5 C "Book" ["self", "given", "rules"] (spBookI C CM) := ⟨f_Book, d_Book, ok_init F_Book T DC E2, M_Book, bB, PySem.W.mg_of X G k_Book.nm⟩
  have EP : Pf l.prog w K mg base 3 C "pairs" (spPairs C CM) := ⟨pp_Book_pairs, f_Book_pairs, d_Book_pairs, ok_pairs F_Book_pairs T E1, P_Book_pairs, F_Book_pairs.binds (ps := ["self"]) (by walk_at "b1")⟩
  have EA : Mf l.prog w K mg base 3 C "answers" ["self", "note"] (spAns C CM) := ⟨f_Book_answers, d_Book_answers, ok_ans F_Book_answers T E4 E1, M_Book_answers, F_Book_answers.binds (ps := ["self", "note"]) (by walk_at "b2")⟩
  have EF : Mf l.prog w K mg base 4 C "after" ["self", "last", "note"] (spAft C CM) := ⟨f_Book_after, d_Book_after, ok_aft F_Book_after T E4 E5 EA E1, M_Book_after, F_Book_after.binds (ps := ["self", "last", "note"]) (by walk_at "b3")⟩
  have TU : EUn l.prog w K mg base CU := er_unn eU X G
  have m_sorted := PySem.W.mg_none_of X G z_sorted
  have TP : EPl l.prog w K mg base CP := er_bpl eP X G
  have rA : Df l.prog w K mg base 1 "ascending" ["places"] (spAsc) := mD F_ascending (PySem.W.mg_of X G u_ascending) (F_ascending.binds (ps := ["places"]) (by walk_at "b1")) (ok_asc F_ascending m_int m_tuple m_sorted)
  have rP : DfX l.prog w K mg base 3 "require_places" ["places", "size"] (spRqp CP) := mDX F_require_places (PySem.W.mg_of X G u_require_places) (F_require_places.binds (ps := ["places", "size"]) (by walk_at "b2")) (ok_rqp F_require_places TP)
  have rK : MkX l.prog w K mg base 4 CR "Relation" ["self", "rows"] (spRelI CR CP) := ⟨f_Relation, d_Relation, ok_relI F_Relation Rr m_len m_tuple rA rP, M_Relation, F_Relation.binds (ps := ["self", "rows"]) (by walk_at "b2"), PySem.W.mg_of X G k_Relation.nm⟩
  have m_enumerate := PySem.W.mg_none_of X G z_enumerate
  have pS : Df l.prog w K mg base 6 "step_relation" ["book", "numbers", "note"] (spStp w C CM CR) := mD F_step_relation (PySem.W.mg_of X G u_step_relation) (F_step_relation.binds (ps := ["book", "numbers", "note"]) (by walk_at "b3")) (ok_stp F_step_relation T EF rK)
  have pP : Mk1 l.prog w K mg base 8 CL "Places" ["self", "book"] (spPli w C CM CR CL) := ⟨f_Places, d_Places, ok_pli F_Places T Zp m_enumerate EP E1 m_len pS, M_Places, F_Places.binds (ps := ["self", "book"]) (by walk_at "b2"), PySem.W.mg_of X G k_Places.nm⟩
  have pC : Mf l.prog w K mg base 1 CL "is_closed" ["self", "ends"] (spIcl w CL CR) := ⟨f_Places_is_closed, d_Places_is_closed, ok_icl F_Places_is_closed Zp m_any, M_Places_is_closed, F_Places_is_closed.binds (ps := ["self", "ends"]) (by walk_at "b2")⟩
  have m_reversed := PySem.W.mg_none_of X G z_reversed
  have m_zip := PySem.W.mg_none_of X G z_zip
  have m_all := PySem.W.mg_none_of X G z_all
  have pN0 : Df l.prog w K mg base 1 "require_notes" ["book", "voice"] (spRq0 C CM) := mD F_require_notes (PySem.W.mg_of X G u_require_notes) (F_require_notes.binds (ps := ["book", "voice"]) (by walk_at "b2")) (ok_rq0 F_require_notes T)
  have pN : DfX l.prog w K mg base 3 "require_notes" ["book", "voice"] (spRqn C CM CU) := mDX F_require_notes (PySem.W.mg_of X G u_require_notes) (F_require_notes.binds (ps := ["book", "voice"]) (by walk_at "b2")) (ok_rqn F_require_notes T TU)
  have pH : Df l.prog w K mg base 2 "hopeful_places" ["places", "voice"] (spHop w CL CR) := mD F_hopeful_places (PySem.W.mg_of X G u_hopeful_places) (F_hopeful_places.binds (ps := ["places", "voice"]) (by walk_at "b2")) (ok_hop F_hopeful_places Zp Rr m_range m_any m_reversed pC)
  have pA0 : Df l.prog w K mg base 10 "answer" ["book", "voice"] (spAsN C CM) := mD F_answer (PySem.W.mg_of X G u_answer) (F_answer.binds (ps := ["book", "voice"]) (by walk_at "b2")) (ok_asN F_answer T pN0 pP pH)
  have pA1 : Df l.prog w K mg base 10 "answer" ["book", "voice"] (spAsS C CM) := mD F_answer (PySem.W.mg_of X G u_answer) (F_answer.binds (ps := ["book", "voice"]) (by walk_at "b2")) (ok_asS F_answer T Zp Rr m_zip pN0 pP pH)
  have pAX : DfX l.prog w K mg base 4 "answer" ["book", "voice"] (spAsX C CM CU) := mDX F_answer (PySem.W.mg_of X G u_answer) (F_answer.binds (ps := ["book", "voice"]) (by walk_at "b2")) (ok_asX F_answer pN)
  have pUb : Df l.prog w K mg base 1 "used_by" ["piece"] (spUby) := mD F_used_by (PySem.W.mg_of X G u_used_by) (F_used_by.binds (ps := ["piece"]) (by walk_at "b1")) (ok_uby F_used_by m_len m_zip)
  have pUn : Df l.prog w K mg base 3 "is_unbroken" ["book", "piece"] (spUnb C CM) := mD F_is_unbroken (PySem.W.mg_of X G u_is_unbroken) (F_is_unbroken.binds (ps := ["book", "piece"]) (by walk_at "b2")) (ok_unb F_is_unbroken T m_all pUb E1)
  have DT : Df l.prog w K mg base 1 "_law_table" ["_law_model"] (spTbl w) := mD F__law_table (PySem.W.mg_of X G u__law_table) (F__law_table.binds (ps := ["_law_model"]) (by walk_at "b1")) (ok_tbl F__law_table)
  have DE : Df l.prog w K mg base 1 "_law_ends" ["_law_table_here", "_law_starts", "_law_voice_here"] (spEnd w) := mD F__law_ends (PySem.W.mg_of X G u__law_ends) (F__law_ends.binds (ps := ["_law_table_here", "_law_starts", "_law_voice_here"]) (by walk_at "b3")) (ok_end F__law_ends m_list)
  have DV : Df l.prog w K mg base 3 "_law_voice" ["_law_script", "_law_k", "_law_names_here", "_law_top_depth"] (spVoi K) := mD F__law_voice (PySem.W.mg_of X G u__law_voice) (F__law_voice.binds (ps := ["_law_script", "_law_k", "_law_names_here", "_law_top_depth"]) (by walk_at "b4")) (ok_voi F__law_voice m_int m_range m_len D2)
  have DCl : Df l.prog w K mg base 2 "_law_closed" ["_law_model", "_law_table_here", "_law_starts", "_law_voice_here"] (spClo w) := mD F__law_closed (PySem.W.mg_of X G u__law_closed) (F__law_closed.binds (ps := ["_law_model", "_law_table_here", "_law_starts", "_law_voice_here"]) (by walk_at "b4")) (ok_clo F__law_closed DE)
  have m_isinstance := PySem.W.mg_none_of X G z_isinstance
  have m_ValueError := PySem.W.mg_none_of X G z_ValueError
  have U : ErU K mg CU CB CV := ⟨x0, PySem.W.mg_of X G eU.nm, exm_self eU.O.exC x1 eU.O.tyC x2, eU.no, PySem.W.mg_of X G gV, x4, m_ValueError, x5, PySem.W.mg_of X G gB, x6, m_isinstance⟩
  have DLu : Df l.prog w K mg base 1 "_law_unbroken" ["_law_model", "_law_piece"] (spLub) := mD F__law_unbroken (PySem.W.mg_of X G u__law_unbroken) (F__law_unbroken.binds (ps := ["_law_model", "_law_piece"]) (by walk_at "b2")) (ok_lub F__law_unbroken m_len m_range)
  have DF : Df l.prog w K mg base 6 "_law_refused" ["_law_book_here", "_law_voice_here", "_law_note"] (spRef C CM) := mD F__law_refused (PySem.W.mg_of X G u__law_refused) (F__law_refused.binds (ps := ["_law_book_here", "_law_voice_here", "_law_note"]) (by walk_at "b3")) (ok_ref F__law_refused U (PySem.W.mg_of X G gQ) x7 pAX)
  exact ok_law F_law T m_list m_tuple m_len m_int m_isinstance D1 D7 D8 D9 DT DCl DV DLu pUn EB pA0 pA1 DF
end
theorem walk {l : PySem.W.OpenLaw} {q : Program} {loose : List Str} {XP : (Str → Option Value) → Heap → Prop} {YP : World → Heap → Prop} {d : DefRec} {K : Params → PySem.W.Frag} (hn : l.most = some 63) (hdf : d.params.defaults = [])
    (hY : ∀ (w : World) (h : Heap), YP w h → (K w.params).In h)
    (F : ∀ (w : World) (mg : Str → Option Value) (fa : Addr) (h : Heap), (K w.params).In h → h.Ns mainGlobals mg → mg d.name = some (.ref fa) →
      ∃ fd : FuncData, (∀ (s : Shared) (u : Value), BindsTo s fd ⟨[u], []⟩ [("_law_script", u)]) ∧ ∀ base : Heap, (K w.params).In base → base.Ns mainGlobals mg → FnOk l.prog w (K w.params) mg base CX0 12 fa fd ["_law_script"] (spLaw (K w.params))) :
    PySem.W.WalkO q loose XP YP l.row.toRowW d [] (fun f vs => PySem.call f vs) :=
  L2.walk_of (n := 63) (k := 12) (x := "_law_script") (CX := fun _ => CX0) (sp := fun w => spLaw (K w.params)) hn (by decide) hdf ⟨rfl, by decide, by decide⟩ hY F (fun _ H a ns hl _ hS => ⟨ns, trivial, H, Ex.refl H, ⟨⟨a, rfl, hS⟩, trivial⟩, fun v H' F' g hv => hv⟩) fun _ _ _ _ _ z => z
end Kv

set_option Elab.async false
set_option linter.all false
set_option maxRecDepth 100000
open PySem PySem.W PyProof.Rows
local macro_rules | `(tactic| walk_at "def") => `(tactic| (refine' Lk.fn_at ?a ?l ?c ?k; (case a => k_is); (case l => k_is); (case c => k_is); (case k => k_is)))
local macro_rules | `(tactic| walk_at "met") => `(tactic| (refine' Lk.mt_at ?a ?i ?l ?c ?k; (case a => k_is); (case i => k_is); (case l => k_is); (case c => k_is); (case k => k_is)))
local macro_rules | `(tactic| walk_at "prp") => `(tactic| (refine' Lk.pr_at ?a ?g ?t ?r ?l ?c ?k; (case a => k_is); (case g => k_is); (case t => k_is); (case r => k_is); (case l => k_is); (case c => k_is); (case k => k_is)))
local macro_rules | `(tactic| walk_at "mk0") => `(tactic| (refine' Lk.mk_at0 ?n ?m ?kc ?a ?i ?l ?c ?k; (case n => k_is); (case m => k_is); (case kc => k_is); (case a => k_is); (case i => k_is); (case l => k_is); (case c => k_is); (case k => k_is)))
local macro_rules | `(tactic| walk_at "mk1") => `(tactic| (refine' Lk.mk_at1 ?n ?m ?kc ?a ?i ?l ?lt ?c ?k; (case n => k_is); (case m => k_is); (case kc => k_is); (case a => k_is); (case i => k_is); (case l => k_is); (case lt => k_is); (case c => k_is); (case k => k_is)))
local macro_rules | `(tactic| walk_at "cls") => `(tactic| (refine' ⟨?pg, ?hd, ?po, ?sa⟩; (case pg => k_is); (case hd => k_is); (case po => k_is); (case sa => k_is)))
local macro_rules | `(tactic| walk_at "exa") => `(tactic| (refine' Kv.ex_at ?nm ?cl ?rv ?sa ?exC ?tyC ?kC ?no ?su ?a ?ty ?lk ?cd ?lc ?v2 ?fe ?ce ?sub2 ?op ?ini ?sve ?top; (case nm => k_is); (case cl => k_is); (case rv => rfl); (case sa => k_is); (case exC => k_is); (case tyC => k_is); (case kC => k_is); (case no => k_is); (case su => k_is); (case a => k_is); (case ty => k_is); (case lk => k_is); (case cd => k_is); (case lc => k_is); (case v2 => rfl); (case fe => decide +kernel); (case ce => k_is); (case sub2 => k_is); (case op => k_is); (case ini => ks_is); (case sve => k_is); (case top => decide +kernel)))
local macro_rules | `(tactic| walk_at "exc") => `(tactic| (refine' ⟨?hg, ?hk, ?hs, ?hd, ?ha, ?hn, ?ht, ?hm⟩; (case hg => k_is); (case hk => k_is); (case hs => k_is); (case hd => k_is); (case ha => k_is); (case hn => k_is); (case ht => k_is); (case hm => k_is)))
local macro_rules | `(tactic| walk_at "btx") => `(tactic| (refine' ⟨?cb, ?cm, ?nG, ?nA, ?nM, ?nH⟩; (case cb => walk_at "cls"); (case cm => walk_at "cls"); (case nG => (unfold L2.NoAttr; k_is)); (case nA => (unfold L2.NoAttr; k_is)); (case nM => (unfold L2.NoAttr; k_is)); (case nH => (unfold L2.NoAttr; k_is))))
local macro_rules | `(tactic| walk_at "noat") => `(tactic| (unfold L2.NoAttr; k_is))
local macro_rules | `(tactic| walk_at "any") => `(tactic| first | k_is | rfl | decide +kernel)
set_option maxHeartbeats 0 in
theorem PySem.Challenge.cw_lookvoice_k19_whole_answer_holds : PySem.Challenge.rw_lookvoice_k19_whole_answer.Holds := by
  w_on; o_law; k_head; (case hw => w_witness2)
  k_fill
  refine Kv.walk (l := PySem.Challenge.rw_lookvoice_k19_whole_answer) rfl rfl (fun w h Y => PySem.W.kIn_of Y) ?F
  case F =>
    intro w mg fa h KX G hmg
    refine' Kv.all_mk KX G hmg ?z_len ?z_int ?z_range ?z_list ?z_tuple ?z_any ?c1 ?c2 ?c3 ?R ?T ?l__law_cell ?l__law_digits ?l__law_names ?l__law_free ?l__law_fits ?l__law_recipe ?l__law_book ?l_law ?l__law_rules ?l__law_unknown ?l_is_note ?l_is_well_formed ?l_named_pairs ?l_checked_given ?m_Book___contains__ ?m_Book__require_note ?m_Book__require_pair ?m_Book__read_pair ?k_RuleMark ?m_Book_read ?k_Book ?p_Book_pairs ?m_Book_answers ?m_Book_after ?eU ?z_sorted ?Rr ?eP ?l_ascending ?l_require_places ?k_Relation ?z_enumerate ?Zp ?l_step_relation ?k_Places ?m_Places_is_closed ?z_reversed ?z_zip ?z_all ?l_require_notes ?l_hopeful_places ?l_answer ?l_used_by ?l_is_unbroken ?l__law_table ?l__law_ends ?l__law_voice ?l__law_closed ?z_isinstance ?z_ValueError ?x0 ?x1 ?x2 ?gV ?x4 ?x5 ?gB ?x6 ?gQ ?x7 ?l__law_unbroken ?l__law_refused
    (case k_RuleMark => walk_at "mk0")
    (case k_Book => walk_at "mk1")
    (case eU => walk_at "exa")
    (case eP => walk_at "exa")
    (case k_Relation => walk_at "mk0")
    (case k_Places => walk_at "mk0")
    (case c1 => k_is)
    (case c2 => k_is)
    (case c3 => k_is)
    (case gV => k_is)
    (case gB => k_is)
    (case gQ => k_is)
    (case z_len => k_is)
    (case z_int => k_is)
    (case z_range => k_is)
    (case z_list => k_is)
    (case z_tuple => k_is)
    (case z_any => k_is)
    (case R => 
      refine' Kv.rl_mk KX G ?a ?l ?kl ?lo
      (case a => k_is); (case l => k_is); (case kl => exact ⟨⟨_, _, rfl, rfl⟩, ⟨_, _, rfl, rfl⟩, ⟨_, _, rfl, rfl⟩, ⟨_, _, rfl, rfl⟩, trivial⟩); (case lo => rfl))
    (case T => walk_at "btx")
    (case l__law_cell => walk_at "def")
    (case l__law_digits => walk_at "def")
    (case l__law_names => walk_at "def")
    (case l__law_free => walk_at "def")
    (case l__law_fits => walk_at "def")
    (case l__law_recipe => walk_at "def")
    (case l__law_book => walk_at "def")
    (case l_law => walk_at "def")
    (case l__law_rules => walk_at "def")
    (case l__law_unknown => walk_at "def")
    (case l_is_note => walk_at "def")
    (case l_is_well_formed => walk_at "def")
    (case l_named_pairs => walk_at "def")
    (case l_checked_given => walk_at "def")
    (case m_Book___contains__ => walk_at "met")
    (case m_Book__require_note => walk_at "met")
    (case m_Book__require_pair => walk_at "met")
    (case m_Book__read_pair => walk_at "met")
    (case m_Book_read => walk_at "met")
    (case p_Book_pairs => walk_at "prp")
    (case m_Book_answers => walk_at "met")
    (case m_Book_after => walk_at "met")
    (case z_sorted => k_is)
    (case Rr => (refine' ⟨?cl, ?nS, ?nR⟩; (case cl => walk_at "cls"); (case nS => walk_at "noat"); (case nR => walk_at "noat")))
    (case l_ascending => walk_at "def")
    (case l_require_places => walk_at "def")
    (case z_enumerate => k_is)
    (case Zp => (refine' ⟨?cl, ?nS, ?nG, ?nL, ?nN, ?nT, ?nC⟩; (case cl => walk_at "cls"); (case nS => walk_at "noat"); (case nG => walk_at "noat"); (case nL => walk_at "noat"); (case nN => walk_at "noat"); (case nT => walk_at "noat"); (case nC => walk_at "noat")))
    (case l_step_relation => walk_at "def")
    (case m_Places_is_closed => walk_at "met")
    (case z_reversed => k_is)
    (case z_zip => k_is)
    (case z_all => k_is)
    (case l_require_notes => walk_at "def")
    (case l_hopeful_places => walk_at "def")
    (case l_answer => walk_at "def")
    (case l_used_by => walk_at "def")
    (case l_is_unbroken => walk_at "def")
    (case l__law_table => walk_at "def")
    (case l__law_ends => walk_at "def")
    (case l__law_voice => walk_at "def")
    (case l__law_closed => walk_at "def")
    (case z_isinstance => k_is)
    (case z_ValueError => k_is)
    (case x0 => walk_at "exc")
    (case x1 => k_is)
    (case x2 => walk_at "any")
    (case x4 => walk_at "any")
    (case x5 => walk_at "any")
    (case x6 => walk_at "any")
    (case x7 => walk_at "any")
    (case l__law_unbroken => walk_at "def")
    (case l__law_refused => walk_at "def")
#print axioms PySem.Challenge.cw_lookvoice_k19_whole_answer_holds
