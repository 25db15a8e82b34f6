import PyProof.Rows.All
import Wide.All
import OpenK.AllK
import Wide.FinOn
import HandS.ForMost
import HandS.Deep
import HandS.Star
import HandS.Property
import HandS.Exc
import HandS.StrMore
import HandS.Text
import HandS.More
import HandS.Dict
import HandS.Rev
import HandS.IsInst
import HandS.ExcInit
import HandS.ExcOwn
import HandS.TryOnly
import HandS.Nested
import HandS.FStr
import HandS.FStrTup
import KE.KExcSuper
import HandS.DictComp
import HandS.SortInts
import HandS.Zip
import HandS.WordsExc
import HandS.ExcIs
import KE.KExcIs
import HandS.HotCalls
import HandS.TupAny
import PyProof.DictMoreH
import HandS.DictTup
import HandS.SetKeys
import HandS.Defaults
import KE.RegKSuper
import PySem.Challenge.RW_lookvoice_k03_relation_product
set_option Elab.async false
set_option linter.all false
set_option maxRecDepth 100000
set_option maxHeartbeats 4000000
namespace Lk
open PySem L2

/-! ### heaps that grow -/
def Ex (H H' : Hp) : Prop := ∀ a o, H a = some o → H' a = some o
theorem Ex.refl (H : Hp) : Ex H H := fun _ _ h => h
theorem Ex.trans {H H1 H2 : Hp} (a : Ex H H1) (b : Ex H1 H2) : Ex H H2 := fun x o h => b x o (a x o h)
theorem Ex.new {H : Hp} {p : Addr} {o : HO} (h : H p = none) : Ex H (upd H p o) := fun a u e => by
  rw [upd_ne (ne_of_none e h)]
  exact e
theorem Ex.none {H H' : Hp} (e : Ex H H') {p : Addr} (h : H' p = none) : H p = none := by
  cases h1 : H p with
  | none => rfl
  | some o =>
    rw [e p o h1] at h
    cases h
theorem Ex.rd {H H' : Hp} {a : Addr} {u : HO} (e : Ex H H') (h : Rd H a u) : Rd H' a u := by
  rcases h with h | ⟨o, h⟩
  · exact Or.inl (e a _ h)
  · exact Or.inr ⟨o, e a _ h⟩
theorem Ex.sql {K : PySem.W.Frag} {H H' : Hp} {a : Addr} {xs : List V} (e : Ex H H') (h : SqL K H a xs) : SqL K H' a xs := by
  rcases h with h | h
  · exact Or.inl (e.rd h)
  · exact Or.inr h
theorem Ex.sqt {K : PySem.W.Frag} {H H' : Hp} {a : Addr} {xs : List V} (e : Ex H H') (h : SqT K H a xs) : SqT K H' a xs := by
  rcases h with h | h
  · exact Or.inl (e.rd h)
  · exact Or.inr h
/-- F, a part of H, has grown to F', H to H'; what was in H outside of F is outside of F' -/
structure Gr (F H F' H' : Hp) : Prop where
  f : Ex F F'
  h : Ex H H'
  i : Ex F' H'
  n : ∀ a o, H a = some o → F a = none → F' a = none
theorem Gr.refl {F H : Hp} (e : Ex F H) : Gr F H F H := ⟨Ex.refl F, Ex.refl H, e, fun _ _ _ h => h⟩
theorem Gr.trans {F H F1 H1 F2 H2 : Hp} (a : Gr F H F1 H1) (b : Gr F1 H1 F2 H2) : Gr F H F2 H2 :=
  ⟨a.f.trans b.f, a.h.trans b.h, b.i, fun x o h1 h2 => b.n x o (a.h x o h1) (a.n x o h1 h2)⟩
/-- a new object, in both -/
theorem Gr.new {F H : Hp} {p : Addr} {o : HO} (e : Ex F H) (hp : H p = none) : Gr F H (upd F p o) (upd H p o) := by
  refine ⟨Ex.new (e.none hp), Ex.new hp, fun a u h => ?_, fun a u h1 h2 => ?_⟩
  · by_cases hb : a = p
    · rw [hb, upd_same] at h
      rw [hb, upd_same]
      exact h
    · rw [upd_ne hb] at h
      rw [upd_ne hb]
      exact e a u h
  · rw [upd_ne (ne_of_none h1 hp)]
    exact h2
/-- a new object, in H alone -/
theorem Gr.newH {F H : Hp} {p : Addr} {o : HO} (e : Ex F H) (hp : H p = none) : Gr F H F (upd H p o) :=
  ⟨Ex.refl F, Ex.new hp, e.trans (Ex.new hp), fun _ _ _ h => h⟩
/-- an object of H' that was not in H is taken in -/
theorem Gr.take {F H F' H' : Hp} {p : Addr} {o : HO} (g : Gr F H F' H') (hn : H p = none) (hF : F' p = none) (hp : H' p = some o) : Gr F H (upd F' p o) H' := by
  refine ⟨g.f.trans (Ex.new hF), g.h, fun a u h => ?_, fun a u h1 h2 => ?_⟩
  · by_cases hb : a = p
    · rw [hb, upd_same] at h
      rw [hb, hp]
      exact h
    · rw [upd_ne hb] at h
      exact g.i a u h
  · rw [upd_ne (ne_of_none h1 hn)]
    exact g.n a u h1 h2

/-! ### what is said of a value -/
structure As where
  p : Hp → V → Prop
  mono : ∀ {F F' : Hp} {v : V}, Ex F F' → p F v → p F' v
def sc (c : V) : As := ⟨fun _ v => v = c, fun _ h => h⟩
abbrev int (i : Int) : As := sc (.int i)
abbrev str (s : Str) : As := sc (.str s)
abbrev bl (b : Bool) : As := sc (.bl b)
abbrev non : As := sc .non
def AllV (F : Hp) : List V → List As → Prop
  | [], [] => True
  | v :: vs, A :: l => A.p F v ∧ AllV F vs l
  | _, _ => False
theorem AllV.mono {F F' : Hp} (e : Ex F F') : ∀ {vs : List V} {l : List As}, AllV F vs l → AllV F' vs l
  | [], [], h => h
  | _ :: _, A :: _, h => ⟨A.mono e h.1, AllV.mono e h.2⟩
  | [], _ :: _, h => h.elim
  | _ :: _, [], h => h.elim
theorem AllV.length {F : Hp} : ∀ {vs : List V} {l : List As}, AllV F vs l → vs.length = l.length
  | [], [], _ => rfl
  | _ :: _, _ :: _, h => congrArg (· + 1) (AllV.length h.2)
  | [], _ :: _, h => h.elim
  | _ :: _, [], h => h.elim
theorem AllV.get {F : Hp} : ∀ {vs : List V} {l : List As} {i : Nat} {A : As}, AllV F vs l → l[i]? = some A → ∃ v, vs[i]? = some v ∧ A.p F v
  | v :: _, B :: _, 0, A, h, e => by
    have e : B = A := by simpa using e
    subst e
    exact ⟨v, rfl, h.1⟩
  | _ :: vs, _ :: l, i + 1, A, h, e => by
    obtain ⟨v, h1, h2⟩ := AllV.get (vs := vs) (l := l) (i := i) h.2 (by simpa using e)
    exact ⟨v, by simpa using h1, h2⟩
  | [], [], _, _, _, e => by simp at e
  | [], _ :: _, _, _, h, _ => h.elim
  | _ :: _, [], _, _, h, _ => h.elim
theorem AllV.append {F : Hp} : ∀ {vs us : List V} {l m : List As}, AllV F vs l → AllV F us m → AllV F (vs ++ us) (l ++ m)
  | [], _, [], _, _, k => k
  | _ :: _, _, _ :: _, _, h, k => ⟨h.1, AllV.append h.2 k⟩
  | [], _, _ :: _, _, h, _ => h.elim
  | _ :: _, _, [], _, h, _ => h.elim
theorem AllV.nil {F : Hp} : AllV F [] [] := trivial
theorem AllV.one {F : Hp} {v : V} {A : As} (h : A.p F v) : AllV F [v] [A] := ⟨h, trivial⟩
theorem AllV.snoc {F : Hp} {vs : List V} {l : List As} {v : V} {A : As} (h : AllV F vs l) (k : A.p F v) : AllV F (vs ++ [v]) (l ++ [A]) := h.append (.one k)
theorem AllV.take {F : Hp} : ∀ {vs : List V} {l : List As} (n : Nat), AllV F vs l → AllV F (vs.take n) (l.take n)
  | _, _, 0, _ => by simp [AllV]
  | [], [], _ + 1, _ => trivial
  | _ :: _, _ :: _, n + 1, h => ⟨h.1, AllV.take n h.2⟩
  | [], _ :: _, _ + 1, h => h.elim
  | _ :: _, [], _ + 1, h => h.elim
theorem AllV.drop {F : Hp} : ∀ {vs : List V} {l : List As} (n : Nat), AllV F vs l → AllV F (vs.drop n) (l.drop n)
  | _, _, 0, h => h
  | [], [], _ + 1, _ => trivial
  | _ :: _, _ :: _, n + 1, h => AllV.drop n h.2
  | [], _ :: _, _ + 1, h => h.elim
  | _ :: _, [], _ + 1, h => h.elim
theorem AllV.scs {F : Hp} : ∀ {vs : List V} {cs : List V}, AllV F vs (cs.map sc) → vs = cs
  | [], [], _ => rfl
  | v :: vs, c :: cs, h => by
    have e : v = c := h.1
    rw [e, AllV.scs (vs := vs) (cs := cs) h.2]
  | [], _ :: _, h => h.elim
  | _ :: _, [], h => h.elim
theorem AllV.of_scs {F : Hp} : ∀ {cs : List V}, AllV F cs (cs.map sc)
  | [] => trivial
  | _ :: _ => ⟨rfl, AllV.of_scs⟩
theorem AllV.eraseIdx {F : Hp} : ∀ {vs : List V} {l : List As} (n : Nat), AllV F vs l → AllV F (vs.eraseIdx n) (l.eraseIdx n)
  | [], [], _, _ => by simp [AllV]
  | _ :: _, _ :: _, 0, h => h.2
  | _ :: _, _ :: _, n + 1, h => ⟨h.1, AllV.eraseIdx n h.2⟩
  | [], _ :: _, _, h => h.elim
  | _ :: _, [], _, h => h.elim
theorem AllV.imp {F : Hp} {α : Type} {f g : α → As} : ∀ {vs : List V} {l : List α}, AllV F vs (l.map f) → (∀ a ∈ l, ∀ v, (f a).p F v → (g a).p F v) → AllV F vs (l.map g)
  | [], [], _, _ => trivial
  | _ :: vs, a :: l, h, k => ⟨k a List.mem_cons_self _ h.1, AllV.imp (vs := vs) (l := l) h.2 fun b hb => k b (List.mem_cons_of_mem _ hb)⟩
  | [], _ :: _, h, _ => h.elim
  | _ :: _, [], h, _ => h.elim
/-- a list, a tuple of what is said -/
def lstA (l : List As) : As := ⟨fun F v => ∃ a xs, v = .ref a ∧ F a = some (.lst xs) ∧ AllV F xs l, fun e ⟨a, xs, h1, h2, h3⟩ => ⟨a, xs, h1, e a _ h2, h3.mono e⟩⟩
def tupA (l : List As) : As := ⟨fun F v => ∃ a xs, v = .ref a ∧ F a = some (.tup xs) ∧ AllV F xs l, fun e ⟨a, xs, h1, h2, h3⟩ => ⟨a, xs, h1, e a _ h2, h3.mono e⟩⟩
def exA {ι : Type} (pre : ι → Prop) (f : ι → As) : As := ⟨fun F v => ∃ i, pre i ∧ (f i).p F v, fun e ⟨i, h, k⟩ => ⟨i, h, (f i).mono e k⟩⟩
/-- ints of the script -/
def scr (K : PySem.W.Frag) (ns : List Int) : As := ⟨fun F v => ∃ a, v = .ref a ∧ SqL K F a (ns.map V.int), fun e ⟨a, h1, h2⟩ => ⟨a, h1, e.sql h2⟩⟩

/-! ### the slots -/
inductive En where
  | no
  | fr (A : As)
  | own (l : List As)
structure Sat (H0 F : Hp) (σ : L2.St) (H : Hp) (ρ : List En) : Prop where
  ex : Ex F H
  fr : ∀ (i : Nat) (A : As), ρ[i]? = some (En.fr A) → ∃ v : V, σ[i]? = some (some v) ∧ A.p F v
  own : ∀ (i : Nat) (l : List As), ρ[i]? = some (En.own l) → ∃ (p : Addr) (xs : List V), σ[i]? = some (some (V.ref p)) ∧ F p = none ∧ H0 p = none ∧ H p = some (HO.lst xs) ∧ AllV F xs l
  sep : ∀ (i j : Nat) (l m : List As) (p : Addr), ρ[i]? = some (En.own l) → ρ[j]? = some (En.own m) → σ[i]? = some (some (V.ref p)) → σ[j]? = some (some (V.ref p)) → i = j
  len : ρ.length = σ.length
theorem Sat.gr {H0 F H F' H' : Hp} {σ : L2.St} {ρ : List En} (S : Sat H0 F σ H ρ) (g : Gr F H F' H') : Sat H0 F' σ H' ρ := by
  refine ⟨g.i, fun i A e => ?_, fun i l e => ?_, S.sep, S.len⟩
  · obtain ⟨v, h1, h2⟩ := S.fr i A e
    exact ⟨v, h1, A.mono g.f h2⟩
  · obtain ⟨p, xs, h1, h2, h3, h4, h5⟩ := S.own i l e
    exact ⟨p, xs, h1, g.n p _ h4 h2, h3, g.h p _ h4, h5.mono g.f⟩

/-! ### expressions -/
def tA (ρ : List En) (A : As) : TE := fun σ H Q => ∃ H0 F, Sat H0 F σ H ρ ∧ ∀ v H' F', Gr F H F' H' → A.p F' v → Q v H'
def tW (ρ : List En) (A : As) : TE := fun σ H Q => ∃ H0 F, Sat H0 F σ H ρ ∧ ∀ v H' F', Gr F H F' H' → A.p H' v → Q v H'
def tL (ρ : List En) (l : List As) : TE := fun σ H Q => ∃ H0 F, Sat H0 F σ H ρ ∧ ∀ a xs H' F', Gr F H F' H' → H' a = some (.lst xs) → AllV F' xs l → Q (.ref a) H'
def tN (ρ : List En) (l : List As) : TE := fun σ H Q => ∃ H0 F, Sat H0 F σ H ρ ∧ ∀ a xs H' F', Gr F H F' H' → H a = none → F' a = none → H' a = some (.lst xs) → AllV F' xs l → Q (.ref a) H'
def tTs (ρ : List En) (b : Bool) : TT := fun σ H Q => ∃ H0 F, Sat H0 F σ H ρ ∧ ∀ H' F', Gr F H F' H' → Q b H'
def tAs (ρ : List En) (l : List As) : TA := fun σ H Q => ∃ H0 F, Sat H0 F σ H ρ ∧ ∀ vs H' F', Gr F H F' H' → AllV F' vs l → Q vs H'
abbrev EA (X : Cx) (e : Expr) (ρ : List En) (A : As) : Prop := PE X e (tA ρ A)
abbrev EW (X : Cx) (e : Expr) (ρ : List En) (A : As) : Prop := PE X e (tW ρ A)
abbrev EL (X : Cx) (e : Expr) (ρ : List En) (l : List As) : Prop := PE X e (tL ρ l)
abbrev EN (X : Cx) (e : Expr) (ρ : List En) (l : List As) : Prop := PE X e (tN ρ l)
abbrev ET (X : Cx) (e : Expr) (ρ : List En) (b : Bool) : Prop := PT X e (tTs ρ b)
abbrev EAs (X : Cx) (es : List Expr) (ρ : List En) (l : List As) : Prop := PA X es (tAs ρ l)
theorem pe_imp {X : Cx} {e : Expr} {t t' : TE} (h : PE X e t) (i : ∀ σ H Q, t' σ H Q → t σ H Q) : PE X e t' := ⟨fun pins s σ H Q I q => h.run pins s σ H Q I (i σ H Q q)⟩
theorem pt_imp {X : Cx} {e : Expr} {t t' : TT} (h : PT X e t) (i : ∀ σ H Q, t' σ H Q → t σ H Q) : PT X e t' := ⟨fun pins s σ H Q I q => h.run pins s σ H Q I (i σ H Q q)⟩
theorem pw_imp {X : Cx} {e : Expr} {t t' : TT} (h : PW X e t) (i : ∀ σ H Q, t' σ H Q → t σ H Q) : PW X e t' := ⟨fun wh pins s σ H Q I q => h.run wh pins s σ H Q I (i σ H Q q)⟩
theorem pa_imp {X : Cx} {es : List Expr} {t t' : TA} (h : PA X es t) (i : ∀ σ H Q, t' σ H Q → t σ H Q) : PA X es t' := ⟨fun pos pins s σ H Q I q => h.run pos pins s σ H Q I (i σ H Q q)⟩
theorem ps_imp {X : Cx} {st : Stmt} {t t' : TS} (h : PS X st t) (i : ∀ D σ H, t' D σ H → t D σ H) : PS X st t' := ⟨fun pins s σ H D I q => h.run pins s σ H D I (i D σ H q)⟩
theorem pss_imp {X : Cx} {st : List Stmt} {t t' : TS} (h : PSs X st t) (i : ∀ D σ H, t' D σ H → t D σ H) : PSs X st t' := ⟨fun pins s σ H D I q => h.run pins s σ H D I (i D σ H q)⟩
section
variable {X : Cx} {e a b c : Expr} {es : List Expr} {ρ : List En} {A B C : As} {l m : List As} {pos : Pos}
theorem ea_imp (h : EA X e ρ A) (i : ∀ F v, A.p F v → B.p F v) : EA X e ρ B := pe_imp h fun σ H Q ⟨H0, F, S, k⟩ => ⟨H0, F, S, fun v H' F' g p => k v H' F' g (i F' v p)⟩
theorem ew_imp (h : EW X e ρ A) (i : ∀ F v, A.p F v → B.p F v) : EW X e ρ B := pe_imp h fun σ H Q ⟨H0, F, S, k⟩ => ⟨H0, F, S, fun v H' F' g p => k v H' F' g (i H' v p)⟩
theorem ea_is (h : EA X e ρ A) (i : A = B) : EA X e ρ B := i ▸ h
theorem ew_is (h : EW X e ρ A) (i : A = B) : EW X e ρ B := i ▸ h
theorem et_is {x y : Bool} (h : ET X e ρ x) (i : x = y) : ET X e ρ y := i ▸ h
theorem ea_w (h : EA X e ρ A) : EW X e ρ A := pe_imp h fun σ H Q ⟨H0, F, S, k⟩ => ⟨H0, F, S, fun v H' F' g p => k v H' F' g (A.mono g.i p)⟩
theorem ea_l (h : EA X e ρ (lstA l)) : EL X e ρ l := pe_imp h fun σ H Q ⟨H0, F, S, k⟩ => ⟨H0, F, S, fun v H' F' g ⟨a, xs, e1, e2, e3⟩ => by
  subst e1
  exact k a xs H' F' g (g.i a _ e2) e3⟩
theorem en_l (h : EN X e ρ l) : EL X e ρ l := pe_imp h fun σ H Q ⟨H0, F, S, k⟩ => ⟨H0, F, S, fun a xs H' F' g _ _ h2 h3 => k a xs H' F' g h2 h3⟩
theorem en_a (h : EN X e ρ l) : EA X e ρ (lstA l) := pe_imp h fun σ H Q ⟨H0, F, S, k⟩ => ⟨H0, F, S, fun a xs H' F' g n f h2 h3 =>
  k _ H' (upd F' a (.lst xs)) (g.take n f h2) ⟨a, xs, rfl, upd_same, h3.mono (Ex.new f)⟩⟩
theorem el_w (h : EL X e ρ l) : EW X e ρ (lstA l) := pe_imp h fun σ H Q ⟨H0, F, S, k⟩ => ⟨H0, F, S, fun a xs H' F' g h2 h3 => k _ H' F' g ⟨a, xs, rfl, h2, h3.mono g.i⟩⟩
theorem en_w (h : EN X e ρ l) : EW X e ρ (lstA l) := el_w (en_l h)
theorem sc_w {v : V} (h : EW X e ρ (sc v)) : EA X e ρ (sc v) := pe_imp h fun σ H Q ⟨H0, F, S, k⟩ => ⟨H0, F, S, fun u H' F' g p => k u H' F' g p⟩

/-! names and constants -/
theorem ea_var (i : Nat) {x : Str} (hr : ρ[i]? = some (.fr A)) (hN : X.N[i]? = some x := by rfl) (hv : Vis X.env.scope x := by first | exact Or.inl rfl | exact Or.inr (Or.inl rfl) | exact Or.inr (Or.inr rfl)) (hd : (x == ("__debug__" : Str)) = false := by decide)
    (hcd : (x == ("__classdict__" : Str)) = false := by decide) : EA X (.Name x pos) ρ A := pe_imp (pe_var hN hv hd hcd) fun σ H Q ⟨H0, F, S, k⟩ => by
  obtain ⟨v, h1, h2⟩ := S.fr i A hr
  exact ⟨v, h1, k v H F (.refl S.ex) h2⟩
theorem el_var (i : Nat) {x : Str} (hr : ρ[i]? = some (.own l)) (hN : X.N[i]? = some x := by rfl) (hv : Vis X.env.scope x := by first | exact Or.inl rfl | exact Or.inr (Or.inl rfl) | exact Or.inr (Or.inr rfl)) (hd : (x == ("__debug__" : Str)) = false := by decide)
    (hcd : (x == ("__classdict__" : Str)) = false := by decide) : EL X (.Name x pos) ρ l := pe_imp (pe_var hN hv hd hcd) fun σ H Q ⟨H0, F, S, k⟩ => by
  obtain ⟨p, xs, h1, h2, h3, h4, h5⟩ := S.own i l hr
  exact ⟨_, h1, k p xs H F (.refl S.ex) h4 h5⟩
theorem ea_c {v : V} (h : PE X e (tC v)) : EA X e ρ (sc v) := pe_imp h fun σ H Q ⟨H0, F, S, k⟩ => k v H F (.refl S.ex) rfl
theorem ea_int {i : Int} {j} : EA X (.Constant (.int i) j pos) ρ (int i) := ea_c pe_int
theorem ea_str {s : Str} {j} : EA X (.Constant (.str s) j pos) ρ (str s) := ea_c pe_str
theorem ea_bl {k : Bool} {j} : EA X (.Constant (.bool k) j pos) ρ (bl k) := ea_c pe_bl
theorem ea_non {j} : EA X (.Constant .none j pos) ρ non := ea_c pe_non
theorem ea_glob {x : Str} {v : V} {u : Value} (hg : Gl X x) (hm : X.mg x = some u) (r : RelV v u) (hd : (x == ("__debug__" : Str)) = false := by decide) : EA X (.Name x pos) ρ (sc v) := ea_c (pe_glob hg hm r hd)

/-! two-place operations -/
theorem ea_op {op : Operator} {r : R2} (ho : OpR X (binaryOp op) r) (ha : EW X a ρ A) (hb : EW X b ρ B) {v : V} (hr : ∀ x y H Q, A.p H x → B.p H y → Q v H → r x y H Q) : EA X (.BinOp a op b pos) ρ (sc v) :=
  pe_imp (pe_op ho ha hb) fun σ H Q ⟨H0, F, S, k⟩ => ⟨H0, F, S, fun x H1 F1 g1 h1 => ⟨H0, F1, S.gr g1, fun y H2 F2 g2 h2 => hr x y H2 Q (A.mono g2.h h1) h2 (k v H2 F2 (g1.trans g2) rfl)⟩⟩
theorem ea_add {i j : Int} (ha : EW X a ρ (int i)) (hb : EW X b ρ (int j)) : EA X (.BinOp a .Add b pos) ρ (int (i + j)) := ea_op op_add ha hb fun x y H Q h1 h2 q => ⟨i, j, h1, h2, q⟩
theorem ea_sub {i j : Int} (ha : EW X a ρ (int i)) (hb : EW X b ρ (int j)) : EA X (.BinOp a .Sub b pos) ρ (int (i - j)) := ea_op op_sub ha hb fun x y H Q h1 h2 q => ⟨i, j, h1, h2, q⟩
theorem ea_mul {i j : Int} (ha : EW X a ρ (int i)) (hb : EW X b ρ (int j)) (hc : CMul i j) : EA X (.BinOp a .Mult b pos) ρ (int (i * j)) := ea_op op_mul ha hb fun x y H Q h1 h2 q => ⟨i, j, h1, h2, hc, q⟩
theorem ea_fdiv {i j : Int} (ha : EW X a ρ (int i)) (hb : EW X b ρ (int j)) (hc : CDiv i j) : EA X (.BinOp a .FloorDiv b pos) ρ (int (i / j)) := ea_op op_fdiv ha hb fun x y H Q h1 h2 q => ⟨i, j, h1, h2, hc, q⟩
theorem ea_mod {i j : Int} (ha : EW X a ρ (int i)) (hb : EW X b ρ (int j)) (hc : 0 < j) : EA X (.BinOp a .Mod b pos) ρ (int (i % j)) := ea_op op_mod ha hb fun x y H Q h1 h2 q => ⟨i, j, h1, h2, hc, q⟩
theorem ea_pow {i j : Int} (ha : EW X a ρ (int i)) (hb : EW X b ρ (int j)) (hc : CPow i j) : EA X (.BinOp a .Pow b pos) ρ (int (i ^ j.toNat)) := ea_op op_pow ha hb fun x y H Q h1 h2 q => ⟨i, j, h1, h2, hc, q⟩
theorem ea_adds {s t : Str} (ha : EW X a ρ (str s)) (hb : EW X b ρ (str t)) (hc : s.length + t.length ≤ sizeLine) : EA X (.BinOp a .Add b pos) ρ (str (s ++ t)) := ea_op op_add_str ha hb fun x y H Q h1 h2 q => ⟨s, t, h1, h2, hc, q⟩
/-- lists: a new one -/
theorem en_cat (ha : EL X a ρ l) (hb : EL X b ρ m) (hz : l.length + m.length ≤ sizeLine) : EN X (.BinOp a .Add b pos) ρ (l ++ m) :=
  pe_imp (pe_op op_cat ha hb) fun σ H Q ⟨H0, F, S, k⟩ => ⟨H0, F, S, fun x xs H1 F1 g1 h1 h2 => ⟨H0, F1, S.gr g1, fun y ys H2 F2 g2 h3 h4 => by
    have h5 := h2.mono g2.f
    refine ⟨x, y, xs, ys, rfl, rfl, g2.h x _ h1, h3, by rw [h2.length, h4.length]; exact hz, fun p hp => ?_⟩
    have g := g1.trans g2
    exact k p _ _ F2 (g.trans (.newH g.i hp)) (g.h.none hp) (g.i.none hp) upd_same (h5.append h4)⟩⟩
/-- tuples (the left one not empty) -/
theorem ea_catT (ha : EA X a ρ (tupA l)) (hb : EA X b ρ (tupA m)) (h0 : l ≠ []) (hz : l.length + m.length ≤ sizeLine) : EA X (.BinOp a .Add b pos) ρ (tupA (l ++ m)) :=
  pe_imp (pe_op op_catT ha hb) fun σ H Q ⟨H0, F, S, k⟩ => ⟨H0, F, S, fun v H1 F1 g1 ⟨x, xs, e1, h1, h2⟩ => ⟨H0, F1, S.gr g1, fun u H2 F2 g2 ⟨y, ys, e2, h3, h4⟩ => by
    have h5 := h2.mono g2.f
    have g := g1.trans g2
    have n1 : xs ≠ [] := fun z => by
      have q := h2.length
      rw [z] at q
      exact h0 (List.length_eq_zero_iff.mp q.symm)
    refine ⟨x, y, xs, ys, e1, e2, SqT.of (g2.h x _ (g1.i x _ h1)), SqT.of (g2.i y _ h3), n1, by rw [h2.length, h4.length]; exact hz, fun z => ?_, fun z p hp => ?_⟩
    · have hm : m = [] := List.length_eq_zero_iff.mp (by rw [← h4.length, z]; rfl)
      subst hm
      rw [List.append_nil] at k
      exact k _ H2 F2 g ⟨x, xs, rfl, g2.f x _ h1, h5⟩
    · exact k _ _ _ (g.trans (.new g.i hp)) ⟨p, _, rfl, upd_same, (h5.append h4).mono (Ex.new (g.i.none hp))⟩⟩⟩

/-! arguments, displays -/
theorem eas_nil : EAs X [] ρ [] := pa_imp pa_nil fun σ H Q ⟨H0, F, S, k⟩ => k [] H F (.refl S.ex) trivial
theorem eas_cons (ha : EA X e ρ A) (hr : EAs X es ρ l) (hs : starEach (e :: es) X.env = (false, eval e X.env) :: starEach es X.env := by rfl) : EAs X (e :: es) ρ (A :: l) :=
  pa_imp (pa_cons ha hr hs) fun σ H Q ⟨H0, F, S, k⟩ => ⟨H0, F, S, fun v H1 F1 g1 h1 => ⟨H0, F1, S.gr g1, fun vs H2 F2 g2 h2 => k (v :: vs) H2 F2 (g1.trans g2) ⟨A.mono g2.f h1, h2⟩⟩⟩
theorem ea_tup {x1} (h : EAs X es ρ l) (hz : l.length ≤ sizeLine) : EA X (.Tuple es x1 pos) ρ (tupA l) :=
  pe_imp (pe_tup h) fun σ H Q ⟨H0, F, S, k⟩ => ⟨H0, F, S, fun vs H1 F1 g1 h1 => ⟨by rw [h1.length]; exact hz, fun p hp =>
    k _ _ _ (g1.trans (.new g1.i hp)) ⟨p, vs, rfl, upd_same, h1.mono (Ex.new (g1.i.none hp))⟩⟩⟩
theorem en_lst (h : EAs X es ρ l) (hz : l.length ≤ sizeLine) : EN X (.List es pos) ρ l :=
  pe_imp (pe_lst h) fun σ H Q ⟨H0, F, S, k⟩ => ⟨H0, F, S, fun vs H1 F1 g1 h1 => ⟨by rw [h1.length]; exact hz, fun p hp =>
    k p vs _ F1 (g1.trans (.newH g1.i hp)) (g1.h.none hp) (g1.i.none hp) upd_same h1⟩⟩

/-! tests -/
theorem et_cmp {op : CmpOp} {r : R2} (ho : OpR X (compareOp op) r) (ha : EW X a ρ A) (hb : EW X b ρ B) {k : Bool} (hr : ∀ x y H Q, A.p H x → B.p H y → Q (.bl k) H → r x y H Q) (hm : behindInMarks op b = false) : ET X (.Compare a [op] [b] pos) ρ k :=
  pt_imp (pt_cmpR ho ha hb hm) fun σ H Q ⟨H0, F, S, q⟩ => ⟨H0, F, S, fun x H1 F1 g1 h1 => ⟨H0, F1, S.gr g1, fun y H2 F2 g2 h2 => hr x y H2 _ (A.mono g2.h h1) h2 ⟨k, rfl, q H2 F2 (g1.trans g2)⟩⟩⟩
theorem ea_cmp {op : CmpOp} {r : R2} (ho : OpR X (compareOp op) r) (ha : EW X a ρ A) (hb : EW X b ρ B) {k : Bool} (hr : ∀ x y H Q, A.p H x → B.p H y → Q (.bl k) H → r x y H Q) (hm : behindInMarks op b = false) : EA X (.Compare a [op] [b] pos) ρ (bl k) :=
  pe_imp (pe_cmpR ho ha hb hm) fun σ H Q ⟨H0, F, S, q⟩ => ⟨H0, F, S, fun x H1 F1 g1 h1 => ⟨H0, F1, S.gr g1, fun y H2 F2 g2 h2 => hr x y H2 _ (A.mono g2.h h1) h2 (q _ H2 F2 (g1.trans g2) rfl)⟩⟩
/-- a comparison by values: op, what it gives -/
structure Cm (X : Cx) (op : CmpOp) (A B : As) (k : Bool) : Prop where
  of : ∃ r, OpR X (compareOp op) r ∧ ∀ x y H Q, A.p H x → B.p H y → Q (.bl k) H → r x y H Q
theorem et_cm {op : CmpOp} {k : Bool} (ha : EW X a ρ A) (hb : EW X b ρ B) (h : Cm X op A B k) (hm : behindInMarks op b = false) : ET X (.Compare a [op] [b] pos) ρ k := let ⟨_, ho, hr⟩ := h.of; et_cmp ho ha hb hr hm
theorem ea_cm {op : CmpOp} {k : Bool} (ha : EW X a ρ A) (hb : EW X b ρ B) (h : Cm X op A B k) (hm : behindInMarks op b = false) : EA X (.Compare a [op] [b] pos) ρ (bl k) := let ⟨_, ho, hr⟩ := h.of; ea_cmp ho ha hb hr hm
theorem cm_lt {i j : Int} : Cm X .Lt (int i) (int j) (decide (i < j)) := ⟨_, op_lt, fun x y H Q h1 h2 q => ⟨i, j, h1, h2, q⟩⟩
theorem cm_le {i j : Int} : Cm X .LtE (int i) (int j) (decide (i ≤ j)) := ⟨_, op_le, fun x y H Q h1 h2 q => ⟨i, j, h1, h2, q⟩⟩
theorem cm_gt {i j : Int} : Cm X .Gt (int i) (int j) (decide (j < i)) := ⟨_, op_gt, fun x y H Q h1 h2 q => ⟨i, j, h1, h2, q⟩⟩
theorem cm_ge {i j : Int} : Cm X .GtE (int i) (int j) (decide (j ≤ i)) := ⟨_, op_ge, fun x y H Q h1 h2 q => ⟨i, j, h1, h2, q⟩⟩
theorem cm_eqI {i j : Int} : Cm X .Eq (int i) (int j) (decide (i = j)) := ⟨_, op_eq, fun x y H Q h1 h2 q => by
  have e1 : x = .int i := h1
  have e2 : y = .int j := h2
  subst e1 e2
  refine ⟨rfl, ?_⟩
  have e : decide (V.int i = V.int j) = decide (i = j) := by simp
  rw [e]
  exact q⟩
theorem cm_neI {i j : Int} : Cm X .NotEq (int i) (int j) (!decide (i = j)) := ⟨_, op_ne, fun x y H Q h1 h2 q => by
  have e1 : x = .int i := h1
  have e2 : y = .int j := h2
  subst e1 e2
  refine ⟨rfl, ?_⟩
  have e : decide (V.int i = V.int j) = decide (i = j) := by simp
  rw [e]
  exact q⟩
theorem cm_eqS {s t : Str} : Cm X .Eq (str s) (str t) (decide (s = t)) := ⟨_, op_eq, fun x y H Q h1 h2 q => by
  have e1 : x = .str s := h1
  have e2 : y = .str t := h2
  subst e1 e2
  refine ⟨rfl, ?_⟩
  have e : decide (V.str s = V.str t) = decide (s = t) := by simp
  rw [e]
  exact q⟩
theorem cm_neS {s t : Str} : Cm X .NotEq (str s) (str t) (!decide (s = t)) := ⟨_, op_ne, fun x y H Q h1 h2 q => by
  have e1 : x = .str s := h1
  have e2 : y = .str t := h2
  subst e1 e2
  refine ⟨rfl, ?_⟩
  have e : decide (V.str s = V.str t) = decide (s = t) := by simp
  rw [e]
  exact q⟩
theorem cm_eqB {s t : Bool} : Cm X .Eq (bl s) (bl t) (decide (s = t)) := ⟨_, op_eq, fun x y H Q h1 h2 q => by
  have e1 : x = .bl s := h1
  have e2 : y = .bl t := h2
  subst e1 e2
  refine ⟨rfl, ?_⟩
  have e : decide (V.bl s = V.bl t) = decide (s = t) := by simp
  rw [e]
  exact q⟩
theorem cm_neB {s t : Bool} : Cm X .NotEq (bl s) (bl t) (!decide (s = t)) := ⟨_, op_ne, fun x y H Q h1 h2 q => by
  have e1 : x = .bl s := h1
  have e2 : y = .bl t := h2
  subst e1 e2
  refine ⟨rfl, ?_⟩
  have e : decide (V.bl s = V.bl t) = decide (s = t) := by simp
  rw [e]
  exact q⟩
/-- a value's truth -/
theorem et_v {k : Bool} (h : EW X e ρ (bl k)) (he : ∀ whole, isTrue e X.env whole = (do let v ← whole; standAt e.pos; holding [v] (truthy v)) := by intro _; rfl) : ET X e ρ k :=
  pt_imp (pt_val h he) fun σ H Q ⟨H0, F, S, q⟩ => ⟨H0, F, S, fun v H1 F1 g1 h1 => ⟨k, h1, q H1 F1 g1⟩⟩
abbrev EWt (X : Cx) (e : Expr) (ρ : List En) (b : Bool) : Prop := PW X e (tTs ρ b)
theorem et_not {k : Bool} (h : ET X a ρ k) : ET X (.UnaryOp .Not a pos) ρ (!k) := pt_imp (pt_not h) fun σ H Q ⟨H0, F, S, q⟩ => ⟨H0, F, S, fun H1 F1 g1 => q H1 F1 g1⟩
theorem ea_not {k : Bool} (h : EW X a ρ (bl k)) : EA X (.UnaryOp .Not a pos) ρ (bl (!k)) := pe_imp (pe_not h) fun σ H Q ⟨H0, F, S, q⟩ => ⟨H0, F, S, fun v H1 F1 g1 h1 => ⟨k, h1, q _ H1 F1 g1 rfl⟩⟩
theorem ewt_and1 {k : Bool} (h : ET X a ρ k) : EWt X (.BoolOp .And [a] pos) ρ k := pw_and1 h
theorem ewt_or1 {k : Bool} (h : ET X a ρ k) : EWt X (.BoolOp .Or [a] pos) ρ k := pw_or1 h
theorem ewt_and {j k : Bool} (h1 : ET X a ρ j) (h2 : j = true → EWt X (.BoolOp .And (b :: es) pos) ρ k) : EWt X (.BoolOp .And (a :: b :: es) pos) ρ (j && k) := by
  have hb : PW X (.BoolOp .And (b :: es) pos) (fun σ H Q => j = true ∧ tTs ρ k σ H Q) := ⟨fun wh pins s σ H Q I ⟨z, q⟩ => (h2 z).run wh pins s σ H Q I q⟩
  refine pw_imp (pw_and h1 hb) fun σ H Q ⟨H0, F, S, q⟩ => ⟨H0, F, S, fun H1 F1 g1 => ?_⟩
  cases j with
  | true => exact ⟨rfl, H0, F1, S.gr g1, fun H2 F2 g2 => q H2 F2 (g1.trans g2)⟩
  | false => exact q H1 F1 g1
theorem ewt_or {j k : Bool} (h1 : ET X a ρ j) (h2 : j = false → EWt X (.BoolOp .Or (b :: es) pos) ρ k) : EWt X (.BoolOp .Or (a :: b :: es) pos) ρ (j || k) := by
  have hb : PW X (.BoolOp .Or (b :: es) pos) (fun σ H Q => j = false ∧ tTs ρ k σ H Q) := ⟨fun wh pins s σ H Q I ⟨z, q⟩ => (h2 z).run wh pins s σ H Q I q⟩
  refine pw_imp (pw_or h1 hb) fun σ H Q ⟨H0, F, S, q⟩ => ⟨H0, F, S, fun H1 F1 g1 => ?_⟩
  cases j with
  | false => exact ⟨rfl, H0, F1, S.gr g1, fun H2 F2 g2 => q H2 F2 (g1.trans g2)⟩
  | true => exact q H1 F1 g1
theorem et_w {k : Bool} (h : EWt X e ρ k) : ET X e ρ k := h.pt
/-- .. as values -/
theorem ea_one {op} (h : EA X a ρ A) : EA X (.BoolOp op [a] pos) ρ A := pe_imp (pe_one h) fun σ H Q q => q
theorem ea_and {j k : Bool} (h1 : EW X a ρ (bl j)) (h2 : j = true → EA X (.BoolOp .And (b :: es) pos) ρ (bl k)) : EA X (.BoolOp .And (a :: b :: es) pos) ρ (bl (j && k)) := by
  have hb : PE X (.BoolOp .And (b :: es) pos) (fun σ H Q => j = true ∧ tA ρ (bl k) σ H Q) := ⟨fun pins s σ H Q I ⟨z, q⟩ => (h2 z).run pins s σ H Q I q⟩
  refine pe_imp (pe_and h1 hb) fun σ H Q ⟨H0, F, S, q⟩ => ⟨H0, F, S, fun v H1 F1 g1 hv => ⟨j, hv, ?_⟩⟩
  cases j with
  | true => exact ⟨rfl, H0, F1, S.gr g1, fun v H2 F2 g2 h => q v H2 F2 (g1.trans g2) h⟩
  | false => exact q _ H1 F1 g1 rfl
theorem ea_or {j k : Bool} (h1 : EW X a ρ (bl j)) (h2 : j = false → EA X (.BoolOp .Or (b :: es) pos) ρ (bl k)) : EA X (.BoolOp .Or (a :: b :: es) pos) ρ (bl (j || k)) := by
  have hb : PE X (.BoolOp .Or (b :: es) pos) (fun σ H Q => j = false ∧ tA ρ (bl k) σ H Q) := ⟨fun pins s σ H Q I ⟨z, q⟩ => (h2 z).run pins s σ H Q I q⟩
  refine pe_imp (pe_or h1 hb) fun σ H Q ⟨H0, F, S, q⟩ => ⟨H0, F, S, fun v H1 F1 g1 hv => ⟨j, hv, ?_⟩⟩
  cases j with
  | false => exact ⟨rfl, H0, F1, S.gr g1, fun v H2 F2 g2 h => q v H2 F2 (g1.trans g2) h⟩
  | true => exact q _ H1 F1 g1 rfl
theorem ea_if {k : Bool} (hc : ET X c ρ k) (h1 : k = true → EA X a ρ A) (h2 : k = false → EA X b ρ A) : EA X (.IfExp c a b pos) ρ A := by
  have p1 : PE X a (fun σ H Q => k = true ∧ tA ρ A σ H Q) := ⟨fun pins s σ H Q I ⟨z, q⟩ => (h1 z).run pins s σ H Q I q⟩
  have p2 : PE X b (fun σ H Q => k = false ∧ tA ρ A σ H Q) := ⟨fun pins s σ H Q I ⟨z, q⟩ => (h2 z).run pins s σ H Q I q⟩
  refine pe_imp (pe_ifExp hc p1 p2) fun σ H Q ⟨H0, F, S, q⟩ => ⟨H0, F, S, fun H1 F1 g1 => ?_⟩
  cases k with
  | true => exact ⟨rfl, H0, F1, S.gr g1, fun v H2 F2 g2 h => q v H2 F2 (g1.trans g2) h⟩
  | false => exact ⟨rfl, H0, F1, S.gr g1, fun v H2 F2 g2 h => q v H2 F2 (g1.trans g2) h⟩

/-! items, slices, len -/
theorem ea_ixL {i : Int} {j : Nat} (ha : EL X a ρ l) (hb : EW X b ρ (int i)) (hi : i = (j : Int)) (hj : l[j]? = some A) (hs : PlainIx b := by exact fun _ _ => rfl) : EA X (.Subscript a b pos) ρ A :=
  pe_imp (pe_ix ix_list ha hb hs) fun σ H Q ⟨H0, F, S, k⟩ => ⟨H0, F, S, fun x xs H1 F1 g1 h1 h2 => ⟨H0, F1, S.gr g1, fun y H2 F2 g2 h3 => by
    obtain ⟨v, e1, e2⟩ := h2.get hj
    have h3 : y = .int i := h3
    subst h3
    subst hi
    exact ⟨x, xs, (j : Int), v, rfl, rfl, SqL.of (g2.h x _ h1), atI_nat e1, k v H2 F2 (g1.trans g2) (A.mono g2.f e2)⟩⟩⟩
theorem ea_ixT {i : Int} {j : Nat} (ha : EA X a ρ (tupA l)) (hb : EW X b ρ (int i)) (hi : i = (j : Int)) (hj : l[j]? = some A) (hs : PlainIx b := by exact fun _ _ => rfl) : EA X (.Subscript a b pos) ρ A :=
  pe_imp (pe_ix ix_tup ha hb hs) fun σ H Q ⟨H0, F, S, k⟩ => ⟨H0, F, S, fun x H1 F1 g1 ⟨p, xs, e0, h1, h2⟩ => ⟨H0, F1, S.gr g1, fun y H2 F2 g2 h3 => by
    obtain ⟨v, e1, e2⟩ := h2.get hj
    have h3 : y = .int i := h3
    subst h3
    subst hi
    exact ⟨p, xs, (j : Int), v, e0, rfl, SqT.of (g2.h p _ (g1.i p _ h1)), atI_nat e1, k v H2 F2 (g1.trans g2) (A.mono g2.f e2)⟩⟩⟩
theorem ea_ixS {s : Str} {i : Int} {j : Nat} {c0 : Nat} (ha : EW X a ρ (str s)) (hb : EW X b ρ (int i)) (hz : s.length ≤ sizeLine) (hi : i = (j : Int)) (hj : s.cps.toList[j]? = some c0) (hs : PlainIx b := by exact fun _ _ => rfl) : EA X (.Subscript a b pos) ρ (str ⟨#[c0]⟩) :=
  pe_imp (pe_ix ix_str ha hb hs) fun σ H Q ⟨H0, F, S, k⟩ => ⟨H0, F, S, fun x H1 F1 g1 h1 => ⟨H0, F1, S.gr g1, fun y H2 F2 g2 h3 => by
    have h3 : y = .int i := h3
    have h1 : x = .str s := h1
    subst h3
    subst hi
    subst h1
    exact ⟨s, (j : Int), c0, rfl, rfl, hz, atI_nat hj, k _ H2 F2 (g1.trans g2) rfl⟩⟩⟩
theorem ea_len (ha : EL X a ρ l) {x : Str} {p : Pos} (hg : Gl X x) (hm : X.mg x = none) (hv : bootBuiltins x = some (.builtin "len")) (hn : x ≠ "__name__" := by decide) (hdb : (x == ("__debug__" : Str)) = false := by decide)
    (hs : starEach [a] X.env = (false, eval a X.env) :: starEach [] X.env := by rfl) (hpl : (backTo pos (starEach [] X.env)).any (·.1) = false := by rfl) : EA X (.Call (.Name x p) [a] [] pos) ρ (int (l.length : Int)) :=
  pe_imp (pe_callB call_len_seq hg hm hv (pa_cons ha pa_nil hs) hn hdb (he := hs) (hpl := hpl)) fun σ H Q ⟨H0, F, S, k⟩ => ⟨H0, F, S, fun x xs H1 F1 g1 h1 h2 => ⟨x, xs, rfl, .inl (SqL.of h1), by
    rw [h2.length]
    exact k _ H1 F1 g1 rfl⟩⟩
theorem ea_lenT (ha : EA X a ρ (tupA l)) {x : Str} {p : Pos} (hg : Gl X x) (hm : X.mg x = none) (hv : bootBuiltins x = some (.builtin "len")) (hn : x ≠ "__name__" := by decide) (hdb : (x == ("__debug__" : Str)) = false := by decide)
    (hs : starEach [a] X.env = (false, eval a X.env) :: starEach [] X.env := by rfl) (hpl : (backTo pos (starEach [] X.env)).any (·.1) = false := by rfl) : EA X (.Call (.Name x p) [a] [] pos) ρ (int (l.length : Int)) :=
  pe_imp (pe_callB call_len_seq hg hm hv (pa_cons ha pa_nil hs) hn hdb (he := hs) (hpl := hpl)) fun σ H Q ⟨H0, F, S, k⟩ => ⟨H0, F, S, fun v H1 F1 g1 ⟨p, xs, e0, h1, h2⟩ => ⟨p, xs, by rw [e0], .inr (SqT.of (g1.i p _ h1)), by
    rw [h2.length]
    exact k _ H1 F1 g1 rfl⟩⟩
end

/-! ### statements -/
structure Wn where
  R : As
  B : List En → Prop := fun _ => False
  C : List En → Prop := fun _ => False
  /-- what may be raised, where, and what is wished of it -/
  er : List En → Hp → Value → Option Addr → Prop := fun _ _ _ _ => False
  wx : WX := fun _ _ _ _ => True
def sA (ρ : List En) (Nx : List En → Prop) (W : Wn) : TS := fun D σ H => ∃ F0 H0 F, Gr F0 H0 F H ∧ Sat H0 F σ H ρ ∧
  (∀ ρ' σ' H' F', Nx ρ' → Gr F0 H0 F' H' → Sat H0 F' σ' H' ρ' → D.nx σ' H') ∧ (∀ v H' F', Gr F0 H0 F' H' → W.R.p F' v → D.rt v H') ∧
  (∀ ρ' σ' H' F', W.B ρ' → Gr F0 H0 F' H' → Sat H0 F' σ' H' ρ' → D.bk σ' H') ∧ (∀ ρ' σ' H' F', W.C ρ' → Gr F0 H0 F' H' → Sat H0 F' σ' H' ρ' → D.ct σ' H') ∧
  (∀ cls d ρ' σ' H' F', W.er ρ' F' cls d → Gr F0 H0 F' H' → Sat H0 F' σ' H' ρ' → W.wx cls d σ' H')
abbrev SA (X : Cx) (st : Stmt) (ρ : List En) (Nx : List En → Prop) (W : Wn) : Prop := PS X st (sA ρ Nx W)
abbrev BA (X : Cx) (sts : List Stmt) (ρ : List En) (Nx : List En → Prop) (W : Wn) : Prop := PSs X sts (sA ρ Nx W)
/-- ρ says no more than ρ' -/
inductive Le : List En → List En → Prop
  | nil : Le [] []
  | no {e : En} {ρ ρ' : List En} : Le ρ ρ' → Le (.no :: ρ) (e :: ρ')
  | same {e : En} {ρ ρ' : List En} : Le ρ ρ' → Le (e :: ρ) (e :: ρ')
  | imp {A B : As} {ρ ρ' : List En} : (∀ F v, B.p F v → A.p F v) → Le ρ ρ' → Le (.fr A :: ρ) (.fr B :: ρ')
theorem Le.refl : ∀ ρ, Le ρ ρ
  | [] => .nil
  | _ :: ρ => .same (Le.refl ρ)
theorem Le.len {ρ ρ' : List En} (h : Le ρ ρ') : ρ.length = ρ'.length := by
  induction h with
  | nil => rfl
  | no _ ih => simp [ih]
  | same _ ih => simp [ih]
  | imp _ _ ih => simp [ih]
theorem Le.own {ρ ρ' : List En} (h : Le ρ ρ') : ∀ {i : Nat} {l : List As}, ρ[i]? = some (.own l) → ρ'[i]? = some (.own l) := by
  induction h with
  | nil => intro i l e; simp at e
  | no _ ih => intro i l e; cases i with
    | zero => simp at e
    | succ i => simpa using ih (by simpa using e)
  | same _ ih => intro i l e; cases i with
    | zero => simpa using e
    | succ i => simpa using ih (by simpa using e)
  | imp _ _ ih => intro i l e; cases i with
    | zero => simp at e
    | succ i => simpa using ih (by simpa using e)
theorem Le.fr {ρ ρ' : List En} (h : Le ρ ρ') : ∀ {i : Nat} {A : As}, ρ[i]? = some (.fr A) → ∃ B, ρ'[i]? = some (.fr B) ∧ ∀ F v, B.p F v → A.p F v := by
  induction h with
  | nil => intro i l e; simp at e
  | no _ ih => intro i l e; cases i with
    | zero => simp at e
    | succ i => simpa using ih (by simpa using e)
  | @same e0 _ _ _ ih => intro i A e; cases i with
    | zero =>
      have e : e0 = .fr A := by simpa using e
      subst e
      exact ⟨A, by simp, fun _ _ h => h⟩
    | succ i => simpa using ih (by simpa using e)
  | @imp A0 B0 _ _ k _ ih => intro i A e; cases i with
    | zero =>
      have e : A0 = A := by simpa using e
      subst e
      exact ⟨B0, by simp, k⟩
    | succ i => simpa using ih (by simpa using e)
theorem Sat.le {H0 F H : Hp} {σ : L2.St} {ρ ρ' : List En} (S : Sat H0 F σ H ρ') (h : Le ρ ρ') : Sat H0 F σ H ρ := by
  refine ⟨S.ex, fun i A e => ?_, fun i l e => S.own i l (h.own e), fun i j l m p e1 e2 => S.sep i j l m p (h.own e1) (h.own e2), h.len.trans S.len⟩
  obtain ⟨B, e1, k⟩ := h.fr e
  obtain ⟨v, e2, q⟩ := S.fr i B e1
  exact ⟨v, e2, k F v q⟩
theorem Sat.set {H0 F H : Hp} {σ : L2.St} {ρ : List En} (S : Sat H0 F σ H ρ) {i : Nat} {v : V} {A : As} (h : A.p F v) : Sat H0 F (σ.set i (some v)) H (ρ.set i (.fr A)) := by
  have hl := S.len
  refine ⟨S.ex, fun j B e => ?_, fun j l e => ?_, fun j k l m p e1 e2 h1 h2 => ?_, by rw [List.length_set, List.length_set, hl]⟩
  · by_cases hj : i = j
    · subst hj
      by_cases hi : i < ρ.length
      · rw [List.getElem?_set_self hi] at e
        have e : A = B := by simpa using e
        subst e
        exact ⟨v, List.getElem?_set_self (by omega), h⟩
      · rw [List.getElem?_eq_none (by rw [List.length_set]; omega)] at e
        cases e
    · rw [List.getElem?_set_ne hj] at e
      obtain ⟨u, h1, h2⟩ := S.fr j B e
      exact ⟨u, by rw [List.getElem?_set_ne hj]; exact h1, h2⟩
  · by_cases hj : i = j
    · subst hj
      by_cases hi : i < ρ.length
      · rw [List.getElem?_set_self hi] at e
        simp at e
      · rw [List.getElem?_eq_none (by rw [List.length_set]; omega)] at e
        cases e
    · rw [List.getElem?_set_ne hj] at e
      obtain ⟨p, xs, h1, h2⟩ := S.own j l e
      exact ⟨p, xs, by rw [List.getElem?_set_ne hj]; exact h1, h2⟩
  · have nj : ∀ j l, (ρ.set i (.fr A))[j]? = some (.own l) → i ≠ j := fun j l e z => by
      subst z
      by_cases hi : i < ρ.length
      · rw [List.getElem?_set_self hi] at e
        simp at e
      · rw [List.getElem?_eq_none (by rw [List.length_set]; omega)] at e
        cases e
    have n1 := nj j l e1
    have n2 := nj k m e2
    rw [List.getElem?_set_ne n1] at e1 h1
    rw [List.getElem?_set_ne n2] at e2 h2
    exact S.sep j k l m p e1 e2 h1 h2
theorem Sat.setN {H0 F H : Hp} {σ : L2.St} {ρ : List En} (S : Sat H0 F σ H ρ) {i : Nat} {p : Addr} {xs : List V} {l : List As} (h0 : H0 p = none) (hF : F p = none) (hH : H p = some (.lst xs)) (h : AllV F xs l) (hn : ∀ j m q, ρ[j]? = some (.own m) → σ[j]? = some (some (.ref q)) → q ≠ p ∨ j = i) :
    Sat H0 F (σ.set i (some (.ref p))) H (ρ.set i (.own l)) := by
  have hl := S.len
  have out : ∀ {j : Nat} {α : Type} {x : α} {L : List α} {y : α}, (L.set i x)[j]? = some y → i = j → L.length ≤ i → False := fun {j α x L y} e z q => by
    subst z
    rw [List.getElem?_eq_none (by rw [List.length_set]; exact q)] at e
    cases e
  refine ⟨S.ex, fun j B e => ?_, fun j m e => ?_, fun j k m n q e1 e2 h1 h2 => ?_, by rw [List.length_set, List.length_set, hl]⟩
  · by_cases hj : i = j
    · by_cases hi : i < ρ.length
      · subst hj
        rw [List.getElem?_set_self hi] at e
        simp at e
      · exact (out e hj (by omega)).elim
    · rw [List.getElem?_set_ne hj] at e
      obtain ⟨u, h1, h2⟩ := S.fr j B e
      exact ⟨u, by rw [List.getElem?_set_ne hj]; exact h1, h2⟩
  · by_cases hj : i = j
    · by_cases hi : i < ρ.length
      · subst hj
        rw [List.getElem?_set_self hi] at e
        have e : l = m := by simpa using e
        subst e
        exact ⟨p, xs, List.getElem?_set_self (by omega), hF, h0, hH, h⟩
      · exact (out e hj (by omega)).elim
    · rw [List.getElem?_set_ne hj] at e
      obtain ⟨p', xs', h1, h2⟩ := S.own j m e
      exact ⟨p', xs', by rw [List.getElem?_set_ne hj]; exact h1, h2⟩
  · by_cases hj : i = j
    · by_cases hk : i = k
      · omega
      · exfalso
        by_cases hi : i < σ.length
        · subst hj
          rw [List.getElem?_set_self hi] at h1
          have h1 : p = q := by simpa using h1
          rw [List.getElem?_set_ne hk] at e2 h2
          rcases hn k n q e2 h2 with z | z
          · exact z h1.symm
          · exact hk z.symm
        · exact out h1 hj (by omega)
    · by_cases hk : i = k
      · exfalso
        by_cases hi : i < σ.length
        · subst hk
          rw [List.getElem?_set_self hi] at h2
          have h2 : p = q := by simpa using h2
          rw [List.getElem?_set_ne hj] at e1 h1
          rcases hn j m q e1 h1 with z | z
          · exact z h2.symm
          · exact hj z.symm
        · exact out h2 hk (by omega)
      · rw [List.getElem?_set_ne hj] at e1 h1
        rw [List.getElem?_set_ne hk] at e2 h2
        exact S.sep j k m n q e1 e2 h1 h2
end Lk

set_option Elab.async false
set_option linter.all false
set_option maxRecDepth 100000
set_option maxHeartbeats 4000000
namespace Lk
open PySem PySem.Calls L2
section
variable {X : Cx} {e a b c : Expr} {es : List Expr} {ρ : List En} {A B C : As} {l m : List As} {pos : Pos} {st : Stmt} {sts s1 s2 : List Stmt} {Nx Mid : List En → Prop} {W : Wn}

/-! ### blocks and statements -/
theorem ba_nil (h : Nx ρ) : BA X [] ρ Nx W := pss_imp pss_nil fun D σ H ⟨F0, H0, F, g, S, k, _⟩ => k ρ σ H F h g S
theorem ba_cons (h : SA X st ρ (fun ρ' => BA X sts ρ' Nx W) W) : BA X (st :: sts) ρ Nx W := by
  have hu : PSs X sts (fun D σ H => ∃ ρ', BA X sts ρ' Nx W ∧ sA ρ' Nx W D σ H) := ⟨fun pins s σ H D I ⟨ρ', hb, q⟩ => hb.run pins s σ H D I q⟩
  exact pss_imp (pss_cons h hu) fun D σ H ⟨F0, H0, F, g, S, k, r⟩ => ⟨F0, H0, F, g, S, fun ρ' σ' H' F' hm g' S' => ⟨ρ', hm, F0, H0, F', g', S', k, r⟩, r⟩
theorem ba_one (h : SA X st ρ Nx W) : BA X [st] ρ Nx W := pss_one h
theorem ba_le {ρ' : List En} (h : BA X sts ρ' Nx W) (le : Le ρ' ρ) : BA X sts ρ Nx W := pss_imp h fun D σ H ⟨F0, H0, F, g, S, k⟩ => ⟨F0, H0, F, g, S.le le, k⟩
theorem sa_le {ρ' : List En} (h : SA X st ρ' Nx W) (le : Le ρ' ρ) : SA X st ρ Nx W := ps_imp h fun D σ H ⟨F0, H0, F, g, S, k⟩ => ⟨F0, H0, F, g, S.le le, k⟩
theorem ba_nx (h : BA X sts ρ Mid W) (i : ∀ ρ', Mid ρ' → Nx ρ') : BA X sts ρ Nx W := pss_imp h fun D σ H ⟨F0, H0, F, g, S, k, r⟩ => ⟨F0, H0, F, g, S, fun ρ' σ' H' F' q => k ρ' σ' H' F' (i ρ' q), r⟩
theorem sa_nx (h : SA X st ρ Mid W) (i : ∀ ρ', Mid ρ' → Nx ρ') : SA X st ρ Nx W := ps_imp h fun D σ H ⟨F0, H0, F, g, S, k, r⟩ => ⟨F0, H0, F, g, S, fun ρ' σ' H' F' q => k ρ' σ' H' F' (i ρ' q), r⟩
/-- what is said with a letter is opened -/
theorem sat_ex {H0 F H : Hp} {σ : L2.St} {ι : Type} {pre : ι → Prop} {f : ι → As} {i : Nat} (S : Sat H0 F σ H ρ) (hi : ρ[i]? = some (En.fr (exA pre f))) : ∃ x, pre x ∧ Sat H0 F σ H (ρ.set i (.fr (f x))) := by
  obtain ⟨v, h1, x, hp, h2⟩ := S.fr i _ hi
  refine ⟨x, hp, ?_⟩
  have T := S.set (i := i) (v := v) (A := f x) h2
  have e : σ.set i (some v) = σ := by
    obtain ⟨hl, hq⟩ := List.getElem?_eq_some_iff.mp h1
    rw [← hq]
    exact List.set_getElem_self hl
  rw [e] at T
  exact T
theorem ba_ex {ι : Type} {pre : ι → Prop} {f : ι → As} {i : Nat} (hi : ρ[i]? = some (En.fr (exA pre f))) (h : ∀ x, pre x → BA X sts (ρ.set i (.fr (f x))) Nx W) : BA X sts ρ Nx W := by
  refine ⟨fun pins s σ H D I ⟨F0, H0, F, g, S, k⟩ => ?_⟩
  obtain ⟨x, hp, T⟩ := sat_ex S hi
  exact (h x hp).run pins s σ H D I ⟨F0, H0, F, g, T, k⟩
/-- a list of one's own is let go -/
theorem sat_free {H0 F0 F H : Hp} {σ : L2.St} {i : Nat} (g : Gr F0 H0 F H) (S : Sat H0 F σ H ρ) (hi : ρ[i]? = some (En.own l)) : ∃ F', Gr F0 H0 F' H ∧ Sat H0 F' σ H (ρ.set i (.fr (lstA l))) := by
  obtain ⟨p, xs, h1, h2, h3, h4, h5⟩ := S.own i l hi
  have g' : Gr F0 H0 (upd F p (.lst xs)) H := g.take h3 h2 h4
  have hi' : i < ρ.length := (List.getElem?_eq_some_iff.mp hi).1
  refine ⟨upd F p (.lst xs), g', ⟨g'.i, fun j B e => ?_, fun j m e => ?_, fun j k m n q e1 e2 q1 q2 => ?_, by rw [List.length_set]; exact S.len⟩⟩
  · by_cases hj : i = j
    · subst hj
      rw [List.getElem?_set_self hi'] at e
      have e : lstA l = B := by simpa using e
      subst e
      exact ⟨_, h1, p, xs, rfl, upd_same, h5.mono (Ex.new h2)⟩
    · rw [List.getElem?_set_ne hj] at e
      obtain ⟨v, e1, e2⟩ := S.fr j B e
      exact ⟨v, e1, B.mono (Ex.new h2) e2⟩
  · by_cases hj : i = j
    · subst hj
      rw [List.getElem?_set_self hi'] at e
      simp at e
    · rw [List.getElem?_set_ne hj] at e
      obtain ⟨q, ys, e1, e2, e3, e4, e5⟩ := S.own j m e
      have nq : q ≠ p := fun z => hj (S.sep i j l m p hi e h1 (z ▸ e1))
      exact ⟨q, ys, e1, by rw [upd_ne nq]; exact e2, e3, e4, e5.mono (Ex.new h2)⟩
  · have nj : ∀ j m, (ρ.set i (.fr (lstA l)))[j]? = some (En.own m) → i ≠ j := fun j m e z => by
      subst z
      rw [List.getElem?_set_self hi'] at e
      simp at e
    have n1 := nj j m e1
    have n2 := nj k n e2
    rw [List.getElem?_set_ne n1] at e1
    rw [List.getElem?_set_ne n2] at e2
    exact S.sep j k m n q e1 e2 q1 q2
theorem ba_free {i : Nat} (hi : ρ[i]? = some (En.own l)) (h : BA X sts (ρ.set i (.fr (lstA l))) Nx W) : BA X sts ρ Nx W := by
  refine ⟨fun pins s σ H D I ⟨F0, H0, F, g, S, k⟩ => ?_⟩
  obtain ⟨F', g', T⟩ := sat_free g S hi
  exact h.run pins s σ H D I ⟨F0, H0, F', g', T, k⟩
theorem sa_free {i : Nat} (hi : ρ[i]? = some (En.own l)) (h : SA X st (ρ.set i (.fr (lstA l))) Nx W) : SA X st ρ Nx W := by
  refine ⟨fun pins s σ H D I ⟨F0, H0, F, g, S, k⟩ => ?_⟩
  obtain ⟨F', g', T⟩ := sat_free g S hi
  exact h.run pins s σ H D I ⟨F0, H0, F', g', T, k⟩
/-- name = e -/
theorem sa_set (i : Nat) {x : Str} {pos' : Pos} (hN : X.N.Nodup) (he : EA X e ρ A) (k : Nx (ρ.set i (.fr A))) (hi : X.N[i]? = some x := by rfl) (hx : Loc X.env.scope x := by first | exact .inl rfl | exact .inr rfl) (hs : swapsWith e (some (.Name x pos')) pos.line X.env = pure false := by rfl)
    (hf : X.fn x = true ∨ X.env.scope.names.lookup x = some .local := by first | exact .inl rfl | exact .inr rfl | assumption) : SA X (.Assign [.Name x pos'] e pos) ρ Nx W :=
  ps_imp (ps_set hN hi hx he hs hf) fun D σ H ⟨F0, H0, F, g, S, q, _⟩ => ⟨H0, F, S, fun v H' F' g' hv => q _ _ H' F' k (g.trans g') ((S.gr g').set hv)⟩
/-- name = a new list -/
theorem sa_setN (i : Nat) {x : Str} {pos' : Pos} (hN : X.N.Nodup) (he : EN X e ρ l) (k : Nx (ρ.set i (.own l))) (hi : X.N[i]? = some x := by rfl) (hx : Loc X.env.scope x := by first | exact .inl rfl | exact .inr rfl) (hs : swapsWith e (some (.Name x pos')) pos.line X.env = pure false := by rfl)
    (hf : X.fn x = true ∨ X.env.scope.names.lookup x = some .local := by first | exact .inl rfl | exact .inr rfl | assumption) : SA X (.Assign [.Name x pos'] e pos) ρ Nx W :=
  ps_imp (ps_set hN hi hx he hs hf) fun D σ H ⟨F0, H0, F, g, S, q, _⟩ => ⟨H0, F, S, fun p xs H' F' g' n1 n2 hp hv => q _ _ H' F' k (g.trans g') ((S.gr g').setN (g.h.none n1) n2 hp hv fun j m y e1 e2 => .inl fun z => by
    obtain ⟨p', xs', h1, _, _, h4, _⟩ := S.own j m e1
    rw [h1] at e2
    have e3 : p' = y := by simpa using e2
    rw [e3, z, n1] at h4
    cases h4)⟩
theorem sa_ret (he : EA X e ρ W.R) : SA X (.Return (some e) pos) ρ Nx W := ps_imp (ps_ret he) fun D σ H ⟨F0, H0, F, g, S, _, q, _⟩ => ⟨H0, F, S, fun v H' F' g' hv => q v H' F' (g.trans g') hv⟩
theorem sa_retN (h : ∀ F, W.R.p F .non) : SA X (.Return none pos) ρ Nx W := ps_imp ps_retN fun D σ H ⟨F0, H0, F, g, S, _, q, _⟩ => q .non H F g (h F)
theorem sa_if {k : Bool} (hc : ET X c ρ k) (h1 : k = true → BA X s1 ρ Nx W) (h2 : k = false → BA X s2 ρ Nx W) : SA X (.If c s1 s2 pos) ρ Nx W := by
  have p1 : PSs X s1 (fun D σ H => k = true ∧ sA ρ Nx W D σ H) := ⟨fun pins s σ H D I ⟨z, q⟩ => (h1 z).run pins s σ H D I q⟩
  have p2 : PSs X s2 (fun D σ H => k = false ∧ sA ρ Nx W D σ H) := ⟨fun pins s σ H D I ⟨z, q⟩ => (h2 z).run pins s σ H D I q⟩
  refine ps_imp (ps_if hc p1 p2) fun D σ H ⟨F0, H0, F, g, S, q⟩ => ⟨H0, F, S, fun H1 F1 g1 => ?_⟩
  cases k with
  | true => exact ⟨rfl, F0, H0, F1, g.trans g1, S.gr g1, q⟩
  | false => exact ⟨rfl, F0, H0, F1, g.trans g1, S.gr g1, q⟩
theorem sa_expr (he : EW X e ρ A) (k : Nx ρ) (hs : swapsWith e none pos.line X.env = pure false := by rfl) : SA X (.Expr e pos) ρ Nx W :=
  ps_imp (ps_expr he hs) fun D σ H ⟨F0, H0, F, g, S, q, _⟩ => ⟨H0, F, S, fun v H' F' g' _ => q ρ σ H' F' k (g.trans g') (S.gr g')⟩
theorem sa_pass (k : Nx ρ) : SA X (.Pass pos) ρ Nx W := ps_imp ps_pass fun D σ H ⟨F0, H0, F, g, S, q, _⟩ => q ρ σ H F k g S
theorem sa_never (h : False) : SA X st ρ Nx W := h.elim
/-- an owned list is written -/
theorem sat_wr {H0 F0 F H : Hp} {σ : L2.St} {i : Nat} {p : Addr} {ys : List V} (g : Gr F0 H0 F H) (S : Sat H0 F σ H ρ) (hi : ρ[i]? = some (En.own l)) (hp : σ[i]? = some (some (V.ref p))) (hv : AllV F ys m) :
    Gr F0 H0 F (upd H p (.lst ys)) ∧ Sat H0 F σ (upd H p (.lst ys)) (ρ.set i (.own m)) := by
  obtain ⟨p', xs, h1, h2, h3, h4, h5⟩ := S.own i l hi
  have e : p' = p := by
    rw [h1] at hp
    simpa using hp
  subst e
  have x1 : Ex F (upd H p' (.lst ys)) := fun a o z => by
    rw [upd_ne (ne_of_none z h2)]
    exact S.ex a o z
  have x2 : Ex H0 (upd H p' (.lst ys)) := fun a o z => by
    rw [upd_ne (ne_of_none z h3)]
    exact g.h a o z
  have hi' : i < ρ.length := (List.getElem?_eq_some_iff.mp hi).1
  refine ⟨⟨g.f, x2, x1, g.n⟩, ⟨x1, fun j B e => ?_, fun j m' e => ?_, fun j k m1 n1 q e1 e2 q1 q2 => ?_, by rw [List.length_set]; exact S.len⟩⟩
  · by_cases hj : i = j
    · subst hj
      rw [List.getElem?_set_self hi'] at e
      simp at e
    · rw [List.getElem?_set_ne hj] at e
      exact S.fr j B e
  · by_cases hj : i = j
    · subst hj
      rw [List.getElem?_set_self hi'] at e
      have e : m = m' := by simpa using e
      subst e
      exact ⟨p', ys, h1, h2, h3, upd_same, hv⟩
    · rw [List.getElem?_set_ne hj] at e
      obtain ⟨q, zs, e1, e2, e3, e4, e5⟩ := S.own j m' e
      have nq : q ≠ p' := fun z => hj (S.sep i j l m' p' hi e h1 (z ▸ e1))
      exact ⟨q, zs, e1, e2, e3, by rw [upd_ne nq]; exact e4, e5⟩
  · have back : ∀ j m', (ρ.set i (.own m))[j]? = some (En.own m') → ∃ m'', ρ[j]? = some (En.own m'') := fun j m' e => by
      by_cases hj : i = j
      · subst hj
        exact ⟨l, hi⟩
      · rw [List.getElem?_set_ne hj] at e
        exact ⟨m', e⟩
    obtain ⟨a1, z1⟩ := back j m1 e1
    obtain ⟨a2, z2⟩ := back k n1 e2
    exact S.sep j k a1 a2 q z1 z2 q1 q2
/-- x.append(e), x a list of one's own: hb by pe_bm .. (pv i) (pa_cons _ pa_nil) -/
theorem sa_app (i : Nat) (hr : ρ[i]? = some (En.own l)) (hb : PE X e (tBM X.K "list" rAppend (tVar i) (tCons (tA ρ A) tNil))) (hz : l.length < sizeLine) (k : Nx (ρ.set i (.own (l ++ [A])))) (hsw : swapsWith e none pos.line X.env = pure false := by rfl) :
    SA X (.Expr e pos) ρ Nx W := by
  refine ps_imp (ps_expr hb hsw) fun D σ H ⟨F0, H0, F, g, S, q, _⟩ => ?_
  obtain ⟨p, xs, h1, h2, h3, h4, h5⟩ := S.own i l hr
  refine ⟨_, h1, .inl ⟨rfl, _, SqL.of h4⟩, H0, F, S, fun v H' F' g' hv' => ?_⟩
  have g2 := g.trans g'
  refine ⟨p, xs, v, rfl, rfl, g'.h p _ h4, by rw [h5.length]; exact hz, ?_⟩
  obtain ⟨g3, S3⟩ := sat_wr g2 (S.gr g') hr h1 ((h5.mono g'.f).snoc hv')
  exact q _ σ _ F' k g3 S3

/-! ### calls -/
def spP (l : List As) (A : As) : Sp := fun vs H Q _ => ∃ F, Ex F H ∧ AllV F vs l ∧ ∀ v H' F', Gr F H F' H' → A.p F' v → Q v H'
def spX {ι : Type} (pre : ι → Prop) (l : ι → List As) (A : ι → As) : Sp := fun vs H Q E => ∃ i, pre i ∧ spP (l i) (A i) vs H Q E
/-- a def of the module that keeps a promise -/
structure Df (P : Program) (w : World) (K : PySem.W.Frag) (mg : Str → Option Value) (base : Heap) (k : Nat) (x : Str) (ps : List Str) (sp : Sp) : Prop where
  ex : ∃ f fd, FnOk P w K mg base CX0 k f fd ps sp ∧ mg x = some (.ref f) ∧ PySem.W.keepIn K (.ref f) = true ∧ Binds K fd ps []
theorem Df.mono {P : Program} {w : World} {K : PySem.W.Frag} {mg : Str → Option Value} {base : Heap} {j k : Nat} {x : Str} {ps : List Str} {sp : Sp} (D : Df P w K mg base j x ps sp) (h : j ≤ k) : Df P w K mg base k x ps sp :=
  let ⟨f, fd, h1, h2⟩ := D.ex
  ⟨f, fd, h1.mono h, h2⟩
theorem ea_call {k : Nat} {x : Str} {ps : List Str} {ι : Type} {pre : ι → Prop} {l : ι → List As} {A : ι → As} {p : Pos} (D : Df X.prog X.w X.K X.mg X.base k x ps (spX pre l A)) (hr : Room k X.A) (i : ι) (hp : pre i) (ha : EAs X (e :: es) ρ (l i)) (hg : Gl X x := by rfl)
    (hdb : (x == ("__debug__" : Str)) = false := by decide) (he : starEach (e :: es) X.env = (false, eval e X.env) :: starEach es X.env := by rfl) (hpl : (backTo pos (starEach es X.env)).any (·.1) = false := by rfl) : EA X (.Call (.Name x p) (e :: es) [] pos) ρ (A i) := by
  obtain ⟨f, fd, G, hm, hk, hb⟩ := D.ex
  refine pe_imp (pe_call G hr hg hm hk hb .nil pass0 ha (hdb := hdb) (he := he) (hpl := hpl)) fun σ H Q ⟨H0, F, S, q⟩ => ⟨H0, F, S, fun vs H1 F1 g1 h1 => ?_⟩
  show spX pre l A (vs ++ []) H1 Q E0
  rw [List.append_nil]
  exact ⟨i, hp, F1, g1.i, h1, fun v H' F' g hv => q v H' F' (g1.trans g) hv⟩

/-! ### loops -/
def tbL (I : Nat → List En → Prop) (l : List As) (j : Nat) (W : Wn) (Nx : List En → Prop) : TS := fun D σ H => ∃ n A ρ', l[n]? = some A ∧ I n ρ' ∧ sA (ρ'.set j (.fr A)) (fun ρ2 => ∃ ρ3, I (n + 1) ρ3 ∧ Le ρ3 ρ2) { W with B := Nx, C := fun ρ2 => ∃ ρ3, I (n + 1) ρ3 ∧ Le ρ3 ρ2 } D σ H
def tbR (I : Nat → List En → Prop) (z : Nat) (j : Nat) (W : Wn) (Nx : List En → Prop) : TS := fun D σ H => ∃ (n : Nat) (ρ' : List En), n < z ∧ I n ρ' ∧ sA (ρ'.set j (.fr (int (n : Int)))) (fun ρ2 => ∃ ρ3, I (n + 1) ρ3 ∧ Le ρ3 ρ2) { W with B := Nx, C := fun ρ2 => ∃ ρ3, I (n + 1) ρ3 ∧ Le ρ3 ρ2 } D σ H
/-- for x in a list that stays -/
theorem sa_for (j : Nat) {x : Str} {px : Pos} {it : Expr} (I : Nat → List En → Prop) (hp : PassesOwn (model X.prog X.w) X.A X.env X.xe) (hcalm : X.calm = true) (hN : X.N.Nodup) (hi : EA X it ρ (lstA l)) (h0 : ∃ ρ0, I 0 ρ0 ∧ Le ρ0 ρ)
    (hs : ∀ n A ρ', l[n]? = some A → I n ρ' → BA X sts (ρ'.set j (.fr A)) (fun ρ2 => ∃ ρ3, I (n + 1) ρ3 ∧ Le ρ3 ρ2) { W with B := Nx, C := fun ρ2 => ∃ ρ3, I (n + 1) ρ3 ∧ Le ρ3 ρ2 })
    (hd : ∀ ρ', I l.length ρ' → Nx ρ') (hj : X.N[j]? = some x := by rfl) (hx : Loc X.env.scope x := by first | exact .inl rfl | exact .inr rfl) (hf : X.fn x = true ∨ X.env.scope.names.lookup x = some .local := by first | exact .inl rfl | exact .inr rfl | assumption)
    (hfo : ∀ z, foldedSetIterable it X.env z = pure z := by intro _; rfl) :
    SA X (.For (.Name x px) it sts [] pos) ρ Nx W := by
  have hb : PSs X sts (tbL I l j W Nx) := ⟨fun pins s σ H D I' ⟨n, A, ρ', h1, h2, q⟩ => (hs n A ρ' h1 h2).run pins s σ H D I' q⟩
  refine ps_imp (ps_for hp hcalm (pi_list hi) (pg_name hN hj hx hf) hb hfo) fun D σ H ⟨F0, H0, F, g, S, q1, q2, q3, q4, q5⟩ => ?_
  refine ⟨H0, F, S, fun v H1 F1 g1 ⟨a, xs, ev, ha, hall⟩ => ⟨a, ev, ⟨xs, SqL.of (g1.i a _ ha)⟩, ?_⟩⟩
  have gA := g.trans g1
  refine for_list (K := X.K) (a := a) (xs := xs) (g := gName j) (tb := tbL I l j W Nx) (D := D) (fun n σ' H' => ∃ ρ' F', I n ρ' ∧ Gr F0 H0 F' H' ∧ Ex F1 F' ∧ Sat H0 F' σ' H' ρ') ?_ (fun n σ' H' _ ⟨ρ', F', _, g', x', _⟩ => SqL.of (g'.i a _ (x' a _ ha))) ?_ ?_
  · obtain ⟨ρ0, i0, le⟩ := h0
    exact ⟨ρ0, F1, i0, gA, Ex.refl F1, (S.gr g1).le le⟩
  · rintro n y σ' H' hy ⟨ρ', F', hI, g', x', S'⟩
    have hn : n < l.length := by
      have z := (List.getElem?_eq_some_iff.mp hy).1
      rw [hall.length] at z
      exact z
    obtain ⟨u, hu, hA⟩ := hall.get (List.getElem?_eq_getElem hn)
    rw [hy] at hu
    have e : y = u := by simpa using hu
    subst e
    have fin : ∀ ρ2 σ2 H2 F2, (∃ ρ3, I (n + 1) ρ3 ∧ Le ρ3 ρ2) → Gr F0 H0 F2 H2 → Ex F' F2 → Sat H0 F2 σ2 H2 ρ2 → ∃ ρ' F', I (n + 1) ρ' ∧ Gr F0 H0 F' H2 ∧ Ex F1 F' ∧ Sat H0 F' σ2 H2 ρ' := fun ρ2 σ2 H2 F2 ⟨ρ3, i3, le⟩ g2 x2 S2 => ⟨ρ3, F2, i3, g2, x'.trans x2, S2.le le⟩
    -- the body, from F'
    refine ⟨n, l[n], ρ', List.getElem?_eq_getElem hn, hI, F', H0, F', ?_, S'.set (l[n].mono x' hA), ?_, ?_, ?_, ?_, ?_⟩
    · exact ⟨Ex.refl F', g'.h, g'.i, fun a o z1 z2 => z2⟩
    · intro ρ2 σ2 H2 F2 hm g2 S2
      exact fin ρ2 σ2 H2 F2 hm ⟨g'.f.trans g2.f, g2.h, g2.i, fun a o z1 z2 => g2.n a o z1 (g'.n a o z1 z2)⟩ g2.f S2
    · intro v H2 F2 g2 hv
      exact q2 v H2 F2 ⟨g'.f.trans g2.f, g2.h, g2.i, fun a o z1 z2 => g2.n a o z1 (g'.n a o z1 z2)⟩ hv
    · intro ρ2 σ2 H2 F2 hm g2 S2
      exact q1 ρ2 σ2 H2 F2 hm ⟨g'.f.trans g2.f, g2.h, g2.i, fun a o z1 z2 => g2.n a o z1 (g'.n a o z1 z2)⟩ S2
    · intro ρ2 σ2 H2 F2 hm g2 S2
      exact fin ρ2 σ2 H2 F2 hm ⟨g'.f.trans g2.f, g2.h, g2.i, fun a o z1 z2 => g2.n a o z1 (g'.n a o z1 z2)⟩ g2.f S2
    · intro cls d ρ2 σ2 H2 F2 he g2 S2
      exact q5 cls d ρ2 σ2 H2 F2 he ⟨g'.f.trans g2.f, g2.h, g2.i, fun a o z1 z2 => g2.n a o z1 (g'.n a o z1 z2)⟩ S2
  · rintro σ' H' ⟨ρ', F', hI, g', x', S'⟩
    rw [hall.length] at hI
    exact q1 ρ' σ' H' F' (hd ρ' hI) g' S'
/-- for k in range(n) -/
theorem sa_forR (j : Nat) {x : Str} {px p1 : Pos} {it : Expr} {z : Int} (I : Nat → List En → Prop) (hp : PassesOwn (model X.prog X.w) X.A X.env X.xe) (hcalm : X.calm = true) (hN : X.N.Nodup) (hm : X.mg "range" = none) (hi : EW X it ρ (int z)) (hz : -(2 ^ 62) ≤ z ∧ z < 2 ^ 62) (h0 : ∃ ρ0, I 0 ρ0 ∧ Le ρ0 ρ)
    (hs : ∀ (n : Nat) ρ', n < z.toNat → I n ρ' → BA X sts (ρ'.set j (.fr (int (n : Int)))) (fun ρ2 => ∃ ρ3, I (n + 1) ρ3 ∧ Le ρ3 ρ2) { W with B := Nx, C := fun ρ2 => ∃ ρ3, I (n + 1) ρ3 ∧ Le ρ3 ρ2 })
    (hd : ∀ ρ', I z.toNat ρ' → Nx ρ') (hj : X.N[j]? = some x := by rfl) (hx : Loc X.env.scope x := by first | exact .inl rfl | exact .inr rfl) (hf : X.fn x = true ∨ X.env.scope.names.lookup x = some .local := by first | exact .inl rfl | exact .inr rfl | assumption)
    (hg : Gl X "range" := by rfl) (hse : starEach [it] X.env = [(false, eval it X.env)] := by rfl) (hfo : ∀ z, foldedSetIterable (.Call (.Name "range" p1) [it] [] pos) X.env z = pure z := by intro _; rfl) {pos' : Pos} :
    SA X (.For (.Name x px) (.Call (.Name "range" p1) [it] [] pos) sts [] pos') ρ Nx W := by
  have hb : PSs X sts (tbR I z.toNat j W Nx) := ⟨fun pins s σ H D I' ⟨n, ρ', h1, h2, q⟩ => (hs n ρ' h1 h2).run pins s σ H D I' q⟩
  refine ps_imp (ps_for hp hcalm (pi_range1 hg hm (pa_cons hi pa_nil hse) hse) (pg_name hN hj hx hf) hb hfo) fun D σ H ⟨F0, H0, F, g, S, q1, q2, q3, q4, q5⟩ => ?_
  refine ⟨H0, F, S, fun v H1 F1 g1 ev => ?_⟩
  have ev : v = .int z := ev
  subst ev
  refine ⟨z, rfl, hz.1, hz.2, ?_⟩
  have gA := g.trans g1
  refine for_range (lo := 0) (n := z.toNat) (g := gName j) (tb := tbR I z.toNat j W Nx) (D := D) (fun n σ' H' => ∃ ρ' F', I n ρ' ∧ Gr F0 H0 F' H' ∧ Sat H0 F' σ' H' ρ') ?_ ?_ ?_
  · obtain ⟨ρ0, i0, le⟩ := h0
    exact ⟨ρ0, F1, i0, gA, (S.gr g1).le le⟩
  · rintro n σ' H' hn ⟨ρ', F', hI, g', S'⟩
    have e0 : (0 : Int) + (n : Int) = (n : Int) := Int.zero_add _
    show tbR I z.toNat j W Nx _ (σ'.set j (some (.int ((0 : Int) + (n : Int))))) H'
    rw [e0]
    refine ⟨n, ρ', hn, hI, F0, H0, F', g', S'.set rfl, ?_, q2, q1, ?_, q5⟩
    · intro ρ2 σ2 H2 F2 ⟨ρ3, i3, le⟩ g2 S2
      exact ⟨ρ3, F2, i3, g2, S2.le le⟩
    · intro ρ2 σ2 H2 F2 ⟨ρ3, i3, le⟩ g2 S2
      exact ⟨ρ3, F2, i3, g2, S2.le le⟩
  · rintro σ' H' ⟨ρ', F', hI, g', S'⟩
    exact q1 ρ' σ' H' F' (hd ρ' hI) g' S'
end

/-! ### a def -/
def entry (N : List Str) (l : List As) : List En := l.map En.fr ++ List.replicate (N.length - l.length) En.no
theorem sat_start {N ps : List Str} {vs : List V} {F H : Hp} {l : List As} (e : Ex F H) (h : AllV F vs l) : Sat H F (L2.start N vs) H (entry N l) := by
  have hl := h.length
  refine ⟨e, fun i A ei => ?_, fun i m ei => ?_, fun i j m n p ei => ?_, ?_⟩
  · by_cases hi : i < l.length
    · unfold entry at ei
      rw [List.getElem?_append_left (by simpa using hi), List.getElem?_map] at ei
      cases q : l[i]? with
      | none =>
        rw [q] at ei
        cases ei
      | some B =>
        rw [q] at ei
        have e2 : B = A := by simpa using ei
        subst e2
        obtain ⟨v, h1, h2⟩ := h.get q
        refine ⟨v, ?_, h2⟩
        unfold L2.start
        rw [List.getElem?_append_left (by simpa [hl] using hi), List.getElem?_map, h1]
        rfl
    · unfold entry at ei
      rw [List.getElem?_append_right (by simpa using Nat.le_of_not_lt hi)] at ei
      have z := List.mem_replicate.mp (List.mem_of_getElem? ei)
      cases z.2
  · by_cases hi : i < l.length
    · unfold entry at ei
      rw [List.getElem?_append_left (by simpa using hi), List.getElem?_map] at ei
      cases q : l[i]? with
      | none =>
        rw [q] at ei
        cases ei
      | some B =>
        rw [q] at ei
        simp at ei
    · unfold entry at ei
      rw [List.getElem?_append_right (by simpa using Nat.le_of_not_lt hi)] at ei
      have z := List.mem_replicate.mp (List.mem_of_getElem? ei)
      cases z.2
  · by_cases hi : i < l.length
    · unfold entry at ei
      rw [List.getElem?_append_left (by simpa using hi), List.getElem?_map] at ei
      cases q : l[i]? with
      | none =>
        rw [q] at ei
        cases ei
      | some B =>
        rw [q] at ei
        simp at ei
    · unfold entry at ei
      rw [List.getElem?_append_right (by simpa using Nat.le_of_not_lt hi)] at ei
      have z := List.mem_replicate.mp (List.mem_of_getElem? ei)
      cases z.2
  · unfold entry L2.start
    simp [hl]
theorem fn_ok {P : Program} {w : World} {K : PySem.W.Frag} {mg : Str → Option Value} {base : Heap} {x qual : Str} {st : Stmt} {f : Addr} {fd : FuncData} {N ps : List Str} {k : Nat} {ι : Type} {pre : ι → Prop} {l : ι → List As} {A : ι → As} (F : Fun K x qual st f fd) (S : FnScope N ps (defScope st)) (hl : ∀ i, pre i → (l i).length = ps.length)
    (hb : ∀ (i : ι) (cdv : Value) (B : Around) (outer : List Env) (s : Shared) (H : Hp) (E : XK), pre i → Room k (B.deeper (PyProof.Rows.envOfC qual (defScope st) s.heap.objs.size f cdv)) →
      BA (cxOf CX0 P w K mg base N qual (defScope st) f cdv B outer s H E).nox (defBody st) (entry N (l i)) (fun _ => ∀ F, (A i).p F .non) { R := A i }) : FnOk P w K mg base CX0 (k + 1) f fd ps (spX pre l A) := by
  refine F.ok S (fun vs H Q E h => ?_) (fun cdv B outer s H vs Q E hr h => ?_)
  · obtain ⟨i, hp, F, e, hv, _⟩ := h
    rw [hv.length, hl i hp]
  · obtain ⟨i, hp, F, e, hv, q⟩ := h
    refine ⟨_, hb i cdv B outer s H E hp hr, F, H, F, .refl e, sat_start (ps := ps) e hv, ?_, ?_, ?_, ?_, ?_⟩
    · intro ρ' σ' H' F' hn g' S'
      exact q .non H' F' g' (hn F')
    · intro v H' F' g' hv
      exact q v H' F' g' hv
    · intro _ _ _ _ z
      exact z.elim
    · intro _ _ _ _ z
      exact z.elim
    · intro _ _ _ _ _ _ z
      exact z.elim
end Lk

set_option Elab.async false
set_option linter.all false
set_option maxRecDepth 100000
set_option maxHeartbeats 4000000
namespace Lk
open PySem PySem.Calls L2
/-! ### comprehensions -/
def wipeE (ρ : List En) : List Nat → List En
  | [] => ρ
  | v :: vs => (wipeE ρ vs).set v .no
theorem wipeE_length (ρ : List En) : ∀ vs, (wipeE ρ vs).length = ρ.length
  | [] => rfl
  | v :: vs => by unfold wipeE; rw [List.length_set, wipeE_length ρ vs]
theorem wipeE_get {ρ : List En} {i : Nat} {x : En} (hx : x ≠ .no) : ∀ {vs : List Nat}, (wipeE ρ vs)[i]? = some x → ρ[i]? = some x ∧ i ∉ vs
  | [], h => ⟨h, by simp⟩
  | v :: vs, h => by
    unfold wipeE at h
    by_cases hi : v = i
    · subst hi
      by_cases hv : v < (wipeE ρ vs).length
      · rw [List.getElem?_set_self hv] at h
        exact absurd (Option.some.inj h).symm hx
      · rw [List.getElem?_eq_none (by simpa using hv)] at h; cases h
    · rw [List.getElem?_set_ne hi] at h
      obtain ⟨h1, h2⟩ := wipeE_get hx h
      exact ⟨h1, by simp only [List.mem_cons, not_or]; exact ⟨fun e => hi e.symm, h2⟩⟩
theorem wipe_get {σ : L2.St} {i : Nat} : ∀ {vs : List Nat}, i ∉ vs → (wipe σ vs)[i]? = σ[i]?
  | [], _ => rfl
  | v :: vs, h => by
    unfold wipe
    have h1 : v ≠ i := fun e => h (e ▸ List.mem_cons_self)
    rw [List.getElem?_set_ne h1]
    exact wipe_get fun z => h (List.mem_cons_of_mem _ z)
theorem Sat.wipe {H0 F H : Hp} {σ : L2.St} {ρ : List En} (S : Sat H0 F σ H ρ) (vs : List Nat) : Sat H0 F (L2.wipe σ vs) H (wipeE ρ vs) := by
  refine ⟨S.ex, fun i A e => ?_, fun i l e => ?_, fun i j l m p e1 e2 h1 h2 => ?_, by rw [wipeE_length, wipe_length]; exact S.len⟩
  · obtain ⟨h1, h2⟩ := wipeE_get (x := En.fr A) (fun z => by cases z) e
    rw [wipe_get h2]
    exact S.fr i A h1
  · obtain ⟨h1, h2⟩ := wipeE_get (x := En.own l) (fun z => by cases z) e
    rw [wipe_get h2]
    exact S.own i l h1
  · obtain ⟨a1, a2⟩ := wipeE_get (x := En.own l) (fun z => by cases z) e1
    obtain ⟨b1, b2⟩ := wipeE_get (x := En.own m) (fun z => by cases z) e2
    rw [wipe_get a2] at h1
    rw [wipe_get b2] at h2
    exact S.sep i j l m p a1 b1 h1 h2
theorem wipe_set {σ : L2.St} {j : Nat} {x : Option V} : ∀ {vs : List Nat}, j ∈ vs → L2.wipe ((L2.wipe σ vs).set j x) vs = L2.wipe σ vs := by
  have idem : ∀ (vs : List Nat) (τ : L2.St) (i : Nat), i ∈ vs → (L2.wipe τ vs)[i]? = if i < τ.length then some none else none := by
    intro vs
    induction vs with
    | nil => intro τ i h; simp at h
    | cons v vs ih =>
      intro τ i h
      unfold L2.wipe
      by_cases e : v = i
      · subst e
        rw [List.getElem?_set]
        simp [wipe_length]
      · rw [List.getElem?_set_ne e]
        exact ih τ i ((List.mem_cons.mp h).resolve_left fun z => e z.symm)
  intro vs hj
  refine List.ext_getElem? fun i => ?_
  by_cases hi : i ∈ vs
  · rw [idem vs _ i hi, idem vs _ i hi, List.length_set, wipe_length]
  · rw [wipe_get hi, List.getElem?_set_ne (fun z => hi (by rw [← z]; exact hj))]
section
variable {α : Type}
/-- the test and the element of a comprehension over data -/
def tTc (ρ : α → List En) (l : List α) (p : α → Bool) : TT := fun σ H Q => ∃ a, a ∈ l ∧ tTs (ρ a) (p a) σ H Q
def tEc (ρ : α → List En) (l : List α) (p : α → Bool) (g : α → As) : TE := fun σ H Q => ∃ a, a ∈ l ∧ p a = true ∧ tA (ρ a) (g a) σ H Q
theorem pts_c {X : Cx} {ifs : List Expr} {ρ : α → List En} {l : List α} {p : α → Bool} (h : ∀ a ∈ l, PTs X ifs (tTs (ρ a) (p a))) : PTs X ifs (tTc ρ l p) := ⟨fun pins s σ H Q I ⟨a, ha, q⟩ => (h a ha).run pins s σ H Q I q⟩
theorem pe_c {X : Cx} {e : Expr} {ρ : α → List En} {l : List α} {p : α → Bool} {g : α → As} (h : ∀ a ∈ l, p a = true → EA X e (ρ a) (g a)) : PE X e (tEc ρ l p g) := ⟨fun pins s σ H Q I ⟨a, ha, hp, q⟩ => (h a ha hp).run pins s σ H Q I q⟩
theorem pts_yes {X : Cx} {ρ : List En} : PTs X [] (tTs ρ true) := ⟨fun pins s σ H Q I ⟨H0, F, S, k⟩ => pts_nil.run pins s σ H Q I (k H F (.refl S.ex))⟩
/-- the state of the walk through a comprehension: the list so far at D -/
structure Lcs (F1 H1 : Hp) (D : Addr) (l : List α) (p : α → Bool) (g : α → As) (i : Nat) (H' : Hp) : Prop where
  ex : ∃ F' acc, Gr F1 H1 F' H' ∧ F' D = none ∧ H' D = some (.lst acc) ∧ AllV F' acc (((l.take i).filter p).map g)
theorem lcs_turn {F1 H1 : Hp} {D : Addr} {l : List α} {p : α → Bool} {g : α → As} {i : Nat} {H' H0 H00 F00 : Hp} {σ : L2.St} {j : Nat} {ρ : List En} {enc : α → As} {x : V} {vs : List Nat} {a : α} (hj : j ∈ vs) (ha : l[i]? = some a) (hz : l.length < sizeLine)
    (S : Sat H0 F1 σ H1 ρ) (hx : (enc a).p F1 x) (L : Lcs F1 H1 D l p g i H') (hD : H1 D = none) :
    gName j x (L2.wipe σ vs) H' fun σ2 H2 => L2.wipe σ2 vs = L2.wipe σ vs ∧ tTc (fun a => (wipeE ρ vs).set j (.fr (enc a))) l p σ2 H2 fun b H3 =>
      if b = true then tEc (fun a => (wipeE ρ vs).set j (.fr (enc a))) l p g σ2 H3 fun y H4 => ∃ acc, H4 D = some (.lst acc) ∧ acc.length < sizeLine ∧ Lcs F1 H1 D l p g (i + 1) (upd H4 D (.lst (acc ++ [y]))) else Lcs F1 H1 D l p g (i + 1) H3 := by
  obtain ⟨F', acc, G, fD, hDl, hall⟩ := L.ex
  have hi : i < l.length := (List.getElem?_eq_some_iff.mp ha).1
  have mem : a ∈ l := List.mem_of_getElem? ha
  have tk : l.take (i + 1) = l.take i ++ [a] := by
    rw [List.take_add_one, ha]
    rfl
  refine ⟨wipe_set hj, a, mem, H0, F', ((S.gr G).wipe vs).set ((enc a).mono G.f hx), fun H3 F3 g3 => ?_⟩
  have GD : Gr F1 H1 F3 H3 := G.trans g3
  have f3 : F3 D = none := g3.n D _ hDl fD
  have h3 : H3 D = some (.lst acc) := g3.h D _ hDl
  cases hp : p a with
  | false =>
    refine ⟨F3, acc, GD, f3, h3, ?_⟩
    rw [tk, List.filter_append, List.filter_cons, hp]
    simpa using hall.mono g3.f
  | true =>
    refine ⟨a, mem, hp, H0, F3, ((S.gr GD).wipe vs).set ((enc a).mono GD.f hx), fun y H4 F4 g4 hy => ⟨acc, g4.h D _ h3, ?_, ?_⟩⟩
    · rw [hall.length, List.length_map]
      have q := List.length_filter_le p (l.take i)
      rw [List.length_take] at q
      omega
    · have f4 : F4 D = none := g4.n D _ h3 f3
      have GE := GD.trans g4
      refine ⟨F4, acc ++ [y], ⟨GE.f, fun b o z => ?_, fun b o z => ?_, GE.n⟩, f4, upd_same, ?_⟩
      · rw [upd_ne (ne_of_none z hD)]
        exact GE.h b o z
      · rw [upd_ne (ne_of_none z f4)]
        exact GE.i b o z
      · rw [tk, List.filter_append, List.map_append]
        have e : (List.filter p [a]).map g = [g a] := by simp [hp]
        rw [e]
        exact (hall.mono (g3.f.trans g4.f)).snoc hy
theorem tlc_list {K : PySem.W.Frag} {σ : L2.St} {H : Hp} {Q : VK} {ρ : List En} {l : List α} {enc : α → As} {p : α → Bool} {g : α → As} {vs : List Nat} {j : Nat} (hj : j ∈ vs) (hz : l.length < sizeLine) (h : tN ρ ((l.filter p).map g) σ H Q) :
    tLc (iList K (tL ρ (l.map enc))) (gName j) (tTc (fun a => (wipeE ρ vs).set j (.fr (enc a))) l p) (tEc (fun a => (wipeE ρ vs).set j (.fr (enc a))) l p g) vs σ H Q := by
  obtain ⟨H0, F, S, k⟩ := h
  refine ⟨H0, F, S, fun a xs H1 F1 g1 h1 h2 => ⟨a, rfl, ⟨xs, SqL.of h1⟩, fun D hD => ?_⟩⟩
  have hlen : xs.length = l.length := by rw [h2.length, List.length_map]
  refine lc_list (K := K) (a := a) (xs := xs) (fun i H' => Lcs F1 H1 D l p g i H') ⟨F1, [], .newH g1.i hD, g1.i.none hD, upd_same, by simp [AllV]⟩ (fun i H' _ L => ?_) (fun i x H' hx L => ?_) (fun H' L => ?_)
  · obtain ⟨F', acc, G, _⟩ := L.ex
    exact SqL.of (G.h a _ h1)
  · have hi : i < l.length := by
      have z := (List.getElem?_eq_some_iff.mp hx).1
      omega
    have ha : l[i]? = some l[i] := List.getElem?_eq_getElem hi
    obtain ⟨u, hu, hA⟩ := h2.get (i := i) (A := enc l[i]) (by rw [List.getElem?_map, ha]; rfl)
    rw [hx] at hu
    have e : x = u := by simpa using hu
    subst e
    exact lcs_turn (H00 := H) (F00 := F) hj ha hz (S.gr g1) hA L hD
  · rw [hlen] at L
    obtain ⟨F', acc, G, fD, hDl, hall⟩ := L.ex
    rw [List.take_length] at hall
    exact k D acc H' F' (g1.trans G) (g1.h.none hD) fD hDl hall
theorem tlc_range {σ : L2.St} {H : Hp} {Q : VK} {ρ : List En} {z : Int} {p : Nat → Bool} {g : Nat → As} {vs : List Nat} {j : Nat} (hj : j ∈ vs) (h1 : -(2 ^ 62) ≤ z ∧ z < 2 ^ 24) (h : tN ρ (((List.range z.toNat).filter p).map g) σ H Q) :
    tLc (iRng1 (tCons (tW ρ (int z)) tNil)) (gName j) (tTc (fun a => (wipeE ρ vs).set j (.fr (int (a : Nat)))) (List.range z.toNat) p) (tEc (fun a => (wipeE ρ vs).set j (.fr (int (a : Nat)))) (List.range z.toNat) p g) vs σ H Q := by
  obtain ⟨H0, F, S, k⟩ := h
  refine ⟨H0, F, S, fun v H1 F1 g1 hv => ?_⟩
  have hv : v = .int z := hv
  subst hv
  refine ⟨z, rfl, h1.1, by omega, fun D hD => ?_⟩
  have hz : (List.range z.toNat).length < sizeLine := by
    rw [List.length_range, sizeLine_eq]
    omega
  refine lc_range (lo := 0) (n := z.toNat) (fun i H' => Lcs F1 H1 D (List.range z.toNat) p g i H') ⟨F1, [], .newH g1.i hD, g1.i.none hD, upd_same, by simp [AllV]⟩ (fun i H' hi L => ?_) (fun H' L => ?_)
  · have e0 : (0 : Int) + (i : Int) = (i : Int) := Int.zero_add _
    rw [e0]
    exact lcs_turn (enc := fun a : Nat => int (a : Int)) (H00 := H) (F00 := F) hj (by rw [List.getElem?_range hi]) hz (S.gr g1) rfl L hD
  · obtain ⟨F', acc, G, fD, hDl, hall⟩ := L.ex
    rw [List.take_of_length_le (by rw [List.length_range]; exact Nat.le_refl _)] at hall
    exact k D acc H' F' (g1.trans G) (g1.h.none hD) fD hDl hall
end
section
variable {α : Type} {X : Cx} {ρ : List En} {pos spos : Pos} {elt it : Expr} {ifs : List Expr} {scope : Scope} {Nx : List En → Prop} {W : Wn}
/-- [elt for x in it if ..] over data, own: the comprehension's names, j x's slot -/
theorem en_lc {own : List (Str × Nat)} (j : Nat) {x : Str} {px : Pos} {l : List α} {enc : α → As} {p : α → Bool} {g : α → As} (hc : X.calm = true) (hN : X.N.Nodup) (hi : EL X it ρ (l.map enc)) (hz : l.length < sizeLine) (ok : BlkOk X.N X.env.scope scope own)
    (hg : ∀ (s : Shared) (H : Hp) (C : Addr) (cl : List (Str × Addr)) (fp : List Addr), PG (X.blk s H scope (compEnvC scope cl C X.env) fp) (.Name x px) (gName j))
    (ht : ∀ (s : Shared) (H : Hp) (C : Addr) (cl : List (Str × Addr)) (fp : List Addr), ∀ a ∈ l, PTs (X.blk s H scope (compEnvC scope cl C X.env) fp) ifs (tTs ((wipeE ρ (own.map (·.2))).set j (.fr (enc a))) (p a)))
    (he : ∀ (s : Shared) (H : Hp) (C : Addr) (cl : List (Str × Addr)) (fp : List Addr), ∀ a ∈ l, p a = true → EA (X.blk s H scope (compEnvC scope cl C X.env) fp) elt ((wipeE ρ (own.map (·.2))).set j (.fr (enc a))) (g a))
    (hj : j ∈ own.map (·.2) := by decide) (hs : ∀ z, foldedSetIterable it X.env z = pure z := by intro _; rfl) :
    EN X (.ListComp elt [⟨.Name x px, it, ifs, 0⟩] scope pos) ρ ((l.filter p).map g) :=
  pe_imp (pe_lc (own := own) hc hN (pi_list hi) ok hg (fun s H C cl fp => pts_c (ht s H C cl fp)) (fun s H C cl fp => pe_c (he s H C cl fp)) hs) fun σ H Q h => tlc_list hj hz h
theorem sa_setLc {own : List (Str × Nat)} (i j : Nat) {x y : Str} {px py : Pos} {l : List α} {enc : α → As} {p : α → Bool} {g : α → As} (hc : X.calm = true) (hN : X.N.Nodup) (hi : EL X it ρ (l.map enc)) (hz : l.length < sizeLine) (ok : BlkOk X.N X.env.scope scope own)
    (hg : ∀ (s : Shared) (H : Hp) (C : Addr) (cl : List (Str × Addr)) (fp : List Addr), PG (X.blk s H scope (compEnvC scope cl C X.env) fp) (.Name x px) (gName j))
    (ht : ∀ (s : Shared) (H : Hp) (C : Addr) (cl : List (Str × Addr)) (fp : List Addr), ∀ a ∈ l, PTs (X.blk s H scope (compEnvC scope cl C X.env) fp) ifs (tTs ((wipeE ρ (own.map (·.2))).set j (.fr (enc a))) (p a)))
    (he : ∀ (s : Shared) (H : Hp) (C : Addr) (cl : List (Str × Addr)) (fp : List Addr), ∀ a ∈ l, p a = true → EA (X.blk s H scope (compEnvC scope cl C X.env) fp) elt ((wipeE ρ (own.map (·.2))).set j (.fr (enc a))) (g a))
    (k : Nx (ρ.set i (.own ((l.filter p).map g)))) (hy : X.N[i]? = some y := by rfl) (hyl : X.env.scope.names.lookup y = some .local := by rfl)
    (hsw : swapsWith (.ListComp elt [⟨.Name x px, it, ifs, 0⟩] scope pos) (some (.Name y py)) spos.line X.env = pure true := by exact sw_true rfl rfl rfl (by decide +kernel))
    (hj : j ∈ own.map (·.2) := by decide) (hs : ∀ z, foldedSetIterable it X.env z = pure z := by intro _; rfl) :
    SA X (.Assign [.Name y py] (.ListComp elt [⟨.Name x px, it, ifs, 0⟩] scope pos) spos) ρ Nx W :=
  ps_imp (ps_setLc (own := own) (i := i) hc hN hy hyl hsw (pi_list hi) ok hg (fun s H C cl fp => pts_c (ht s H C cl fp)) (fun s H C cl fp => pe_c (he s H C cl fp)) hs) fun D σ H ⟨F0, H0, F, g0, S, q, _⟩ => tlc_list hj hz ⟨H0, F, S, fun p' xs H' F' g' n1 n2 hp hv => q _ _ H' F' k (g0.trans g') ((S.gr g').setN (g0.h.none n1) n2 hp hv fun j m y e1 e2 => .inl fun z => by
    obtain ⟨p2, xs', h1, _, _, h4, _⟩ := S.own j m e1
    rw [h1] at e2
    have e3 : p2 = y := by simpa using e2
    rw [e3, z, n1] at h4
    cases h4)⟩
theorem en_lcR {own : List (Str × Nat)} (j : Nat) {x : Str} {px p1 p2 : Pos} {z : Int} {p : Nat → Bool} {g : Nat → As} (hc : X.calm = true) (hN : X.N.Nodup) (hm : X.mg "range" = none) (hi : EW X it ρ (int z)) (hz : -(2 ^ 62) ≤ z ∧ z < 2 ^ 24) (ok : BlkOk X.N X.env.scope scope own)
    (hg : ∀ (s : Shared) (H : Hp) (C : Addr) (cl : List (Str × Addr)) (fp : List Addr), PG (X.blk s H scope (compEnvC scope cl C X.env) fp) (.Name x px) (gName j))
    (ht : ∀ (s : Shared) (H : Hp) (C : Addr) (cl : List (Str × Addr)) (fp : List Addr), ∀ a ∈ List.range z.toNat, PTs (X.blk s H scope (compEnvC scope cl C X.env) fp) ifs (tTs ((wipeE ρ (own.map (·.2))).set j (.fr (int (a : Nat)))) (p a)))
    (he : ∀ (s : Shared) (H : Hp) (C : Addr) (cl : List (Str × Addr)) (fp : List Addr), ∀ a ∈ List.range z.toNat, p a = true → EA (X.blk s H scope (compEnvC scope cl C X.env) fp) elt ((wipeE ρ (own.map (·.2))).set j (.fr (int (a : Nat)))) (g a))
    (hgr : Gl X "range" := by rfl) (hse : starEach [it] X.env = [(false, eval it X.env)] := by rfl) (hj : j ∈ own.map (·.2) := by decide) (hs : ∀ z, foldedSetIterable (.Call (.Name "range" p1) [it] [] p2) X.env z = pure z := by intro _; rfl) :
    EN X (.ListComp elt [⟨.Name x px, .Call (.Name "range" p1) [it] [] p2, ifs, 0⟩] scope pos) ρ (((List.range z.toNat).filter p).map g) :=
  pe_imp (pe_lc (own := own) hc hN (pi_range1 hgr hm (pa_cons hi pa_nil hse) hse) ok hg (fun s H C cl fp => pts_c (ht s H C cl fp)) (fun s H C cl fp => pe_c (he s H C cl fp)) hs) fun σ H Q h => tlc_range hj hz h
theorem sa_setLcR {own : List (Str × Nat)} (i j : Nat) {x y : Str} {px py p1 p2 : Pos} {z : Int} {p : Nat → Bool} {g : Nat → As} (hc : X.calm = true) (hN : X.N.Nodup) (hm : X.mg "range" = none) (hi : EW X it ρ (int z)) (hz : -(2 ^ 62) ≤ z ∧ z < 2 ^ 24) (ok : BlkOk X.N X.env.scope scope own)
    (hg : ∀ (s : Shared) (H : Hp) (C : Addr) (cl : List (Str × Addr)) (fp : List Addr), PG (X.blk s H scope (compEnvC scope cl C X.env) fp) (.Name x px) (gName j))
    (ht : ∀ (s : Shared) (H : Hp) (C : Addr) (cl : List (Str × Addr)) (fp : List Addr), ∀ a ∈ List.range z.toNat, PTs (X.blk s H scope (compEnvC scope cl C X.env) fp) ifs (tTs ((wipeE ρ (own.map (·.2))).set j (.fr (int (a : Nat)))) (p a)))
    (he : ∀ (s : Shared) (H : Hp) (C : Addr) (cl : List (Str × Addr)) (fp : List Addr), ∀ a ∈ List.range z.toNat, p a = true → EA (X.blk s H scope (compEnvC scope cl C X.env) fp) elt ((wipeE ρ (own.map (·.2))).set j (.fr (int (a : Nat)))) (g a))
    (k : Nx (ρ.set i (.own (((List.range z.toNat).filter p).map g)))) (hy : X.N[i]? = some y := by rfl) (hyl : X.env.scope.names.lookup y = some .local := by rfl)
    (hsw : swapsWith (.ListComp elt [⟨.Name x px, .Call (.Name "range" p1) [it] [] p2, ifs, 0⟩] scope pos) (some (.Name y py)) spos.line X.env = pure true := by exact sw_true rfl rfl rfl (by decide +kernel))
    (hgr : Gl X "range" := by rfl) (hse : starEach [it] X.env = [(false, eval it X.env)] := by rfl) (hj : j ∈ own.map (·.2) := by decide) (hs : ∀ z, foldedSetIterable (.Call (.Name "range" p1) [it] [] p2) X.env z = pure z := by intro _; rfl) :
    SA X (.Assign [.Name y py] (.ListComp elt [⟨.Name x px, .Call (.Name "range" p1) [it] [] p2, ifs, 0⟩] scope pos) spos) ρ Nx W :=
  ps_imp (ps_setLc (own := own) (i := i) hc hN hy hyl hsw (pi_range1 hgr hm (pa_cons hi pa_nil hse) hse) ok hg (fun s H C cl fp => pts_c (ht s H C cl fp)) (fun s H C cl fp => pe_c (he s H C cl fp)) hs) fun D σ H ⟨F0, H0, F, g0, S, q, _⟩ => tlc_range hj hz ⟨H0, F, S, fun p' xs H' F' g' n1 n2 hp hv => q _ _ H' F' k (g0.trans g') ((S.gr g').setN (g0.h.none n1) n2 hp hv fun j m y e1 e2 => .inl fun z => by
    obtain ⟨p2, xs', h1, _, _, h4, _⟩ := S.own j m e1
    rw [h1] at e2
    have e3 : p2 = y := by simpa using e2
    rw [e3, z, n1] at h4
    cases h4)⟩
end
end Lk

set_option Elab.async false
set_option linter.all false
set_option maxRecDepth 100000
set_option maxHeartbeats 4000000
namespace Lk
open PySem PySem.Calls L2
section
variable {X : Cx} {e a b c : Expr} {es : List Expr} {ρ : List En} {A B C : As} {l m : List As} {pos : Pos}
/-- a call of a built-in type with one value -/
theorem ea_ty1 {T : String} {r : List V → Hp → VK → Prop} {x : Str} {p : Pos} (hc : CallR X (.type T) r) (ha : EW X a ρ A) {v : V} (hr : ∀ u H Q, A.p H u → Q v H → r [u] H Q) (hm : X.mg x = none) (hv : bootBuiltins x = some (.type T)) (hg : Gl X x := by rfl)
    (hn : x ≠ "__name__" := by decide) (hdb : (x == ("__debug__" : Str)) = false := by decide) (hs : starEach [a] X.env = (false, eval a X.env) :: starEach [] X.env := by rfl) (hpl : (backTo pos (starEach [] X.env)).any (·.1) = false := by rfl) : EA X (.Call (.Name x p) [a] [] pos) ρ (sc v) :=
  pe_imp (pe_callTy hc hg hm hv (pa_cons ha pa_nil hs) hn hdb (he := hs) (hpl := hpl)) fun σ H Q ⟨H0, F, S, k⟩ => ⟨H0, F, S, fun u H1 F1 g1 h1 => hr u H1 Q h1 (k v H1 F1 g1 rfl)⟩
theorem ea_bi1 {T : String} {r : List V → Hp → VK → Prop} {x : Str} {p : Pos} (hc : CallR X (.builtin T) r) (ha : EW X a ρ A) {v : V} (hr : ∀ u H Q, A.p H u → Q v H → r [u] H Q) (hm : X.mg x = none) (hv : bootBuiltins x = some (.builtin T)) (hg : Gl X x := by rfl)
    (hn : x ≠ "__name__" := by decide) (hdb : (x == ("__debug__" : Str)) = false := by decide) (hs : starEach [a] X.env = (false, eval a X.env) :: starEach [] X.env := by rfl) (hpl : (backTo pos (starEach [] X.env)).any (·.1) = false := by rfl) : EA X (.Call (.Name x p) [a] [] pos) ρ (sc v) :=
  pe_imp (pe_callB hc hg hm hv (pa_cons ha pa_nil hs) hn hdb (he := hs) (hpl := hpl)) fun σ H Q ⟨H0, F, S, k⟩ => ⟨H0, F, S, fun u H1 F1 g1 h1 => hr u H1 Q h1 (k v H1 F1 g1 rfl)⟩
theorem bo_int : bootBuiltins ("int" : Str) = some (.type "int") := by decide +kernel
theorem bo_len : bootBuiltins ("len" : Str) = some (.builtin "len") := by decide +kernel
theorem bo_list : bootBuiltins ("list" : Str) = some (.type "list") := by decide +kernel
theorem bo_tuple : bootBuiltins ("tuple" : Str) = some (.type "tuple") := by decide +kernel
theorem bo_any : bootBuiltins ("any" : Str) = some (.builtin "any") := by decide +kernel
theorem bo_all : bootBuiltins ("all" : Str) = some (.builtin "all") := by decide +kernel
theorem bo_isi : bootBuiltins ("isinstance" : Str) = some (.builtin "isinstance") := by decide +kernel
theorem ea_int1 {i : Int} {p : Pos} (ha : EW X a ρ (int i)) (hm : X.mg "int" = none) (hg : Gl X "int" := by rfl) (hs : starEach [a] X.env = (false, eval a X.env) :: starEach [] X.env := by rfl) (hpl : (backTo pos (starEach [] X.env)).any (·.1) = false := by rfl) : EA X (.Call (.Name "int" p) [a] [] pos) ρ (int i) :=
  ea_ty1 call_int1 ha (fun u H Q h q => .inl ⟨i, by rw [show u = V.int i from h], q⟩) hm bo_int hg (hs := hs) (hpl := hpl)
theorem ea_lenScr {ns : List Int} {p : Pos} (ha : EW X a ρ (scr X.K ns)) (hm : X.mg "len" = none) (hg : Gl X "len" := by rfl) (hs : starEach [a] X.env = (false, eval a X.env) :: starEach [] X.env := by rfl) (hpl : (backTo pos (starEach [] X.env)).any (·.1) = false := by rfl) : EA X (.Call (.Name "len" p) [a] [] pos) ρ (int (ns.length : Int)) :=
  ea_bi1 call_len_seq ha (fun u H Q ⟨q, e, h⟩ k => ⟨q, _, by rw [e], .inl h, by rw [List.length_map]; exact k⟩) hm bo_len hg (hs := hs) (hpl := hpl)
theorem ea_lenL {p : Pos} (ha : EL X a ρ l) (hm : X.mg "len" = none) (hg : Gl X "len" := by rfl) (hs : starEach [a] X.env = (false, eval a X.env) :: starEach [] X.env := by rfl) (hpl : (backTo pos (starEach [] X.env)).any (·.1) = false := by rfl) : EA X (.Call (.Name "len" p) [a] [] pos) ρ (int (l.length : Int)) :=
  ea_len ha hg hm bo_len (hs := hs) (hpl := hpl)
theorem ea_lenTp {p : Pos} (ha : EA X a ρ (tupA l)) (hm : X.mg "len" = none) (hg : Gl X "len" := by rfl) (hs : starEach [a] X.env = (false, eval a X.env) :: starEach [] X.env := by rfl) (hpl : (backTo pos (starEach [] X.env)).any (·.1) = false := by rfl) : EA X (.Call (.Name "len" p) [a] [] pos) ρ (int (l.length : Int)) :=
  ea_lenT ha hg hm bo_len (hs := hs) (hpl := hpl)
theorem ea_lenS {s : Str} {p : Pos} (ha : EW X a ρ (str s)) (hz : s.length ≤ sizeLine) (hm : X.mg "len" = none) (hg : Gl X "len" := by rfl) (hs : starEach [a] X.env = (false, eval a X.env) :: starEach [] X.env := by rfl) (hpl : (backTo pos (starEach [] X.env)).any (·.1) = false := by rfl) : EA X (.Call (.Name "len" p) [a] [] pos) ρ (int (s.length : Int)) :=
  ea_bi1 call_len_str ha (fun u H Q h k => ⟨s, by rw [show u = V.str s from h], hz, k⟩) hm bo_len hg (hs := hs) (hpl := hpl)
theorem ea_ixScr {ns : List Int} {j : Nat} {z : Int} (ha : EW X a ρ (scr X.K ns)) (hb : EW X b ρ (int (j : Int))) (hj : ns[j]? = some z) (hs : PlainIx b := by exact fun _ _ => rfl) : EA X (.Subscript a b pos) ρ (int z) :=
  pe_imp (pe_ix ix_list ha hb hs) fun σ H Q ⟨H0, F, S, k⟩ => ⟨H0, F, S, fun x H1 F1 g1 ⟨p, e1, h1⟩ => ⟨H0, F1, S.gr g1, fun y H2 F2 g2 h3 => by
    have h3 : y = .int (j : Int) := h3
    subst h3
    subst e1
    exact ⟨p, _, (j : Int), V.int z, rfl, rfl, g2.h.sql h1, atI_nat (by rw [List.getElem?_map, hj]; rfl), k _ H2 F2 (g1.trans g2) rfl⟩⟩⟩
/-- list(xs), list(t) -/
theorem en_listL {p : Pos} (ha : EL X a ρ l) (hm : X.mg "list" = none) (hg : Gl X "list" := by rfl) (hs : starEach [a] X.env = (false, eval a X.env) :: starEach [] X.env := by rfl) (hpl : (backTo pos (starEach [] X.env)).any (·.1) = false := by rfl) : EN X (.Call (.Name "list" p) [a] [] pos) ρ l :=
  pe_imp (pe_callTy call_list_of hg hm bo_list (pa_cons ha pa_nil hs) (he := hs) (hpl := hpl)) fun σ H Q ⟨H0, F, S, k⟩ => ⟨H0, F, S, fun x xs H1 F1 g1 h1 h2 => ⟨x, xs, rfl, .inl (SqL.of h1), fun q hq =>
    k q xs _ F1 (g1.trans (.newH g1.i hq)) (g1.h.none hq) (g1.i.none hq) upd_same h2⟩⟩
theorem en_listT {p : Pos} (ha : EA X a ρ (tupA l)) (hm : X.mg "list" = none) (hg : Gl X "list" := by rfl) (hs : starEach [a] X.env = (false, eval a X.env) :: starEach [] X.env := by rfl) (hpl : (backTo pos (starEach [] X.env)).any (·.1) = false := by rfl) : EN X (.Call (.Name "list" p) [a] [] pos) ρ l :=
  pe_imp (pe_callTy call_list_of hg hm bo_list (pa_cons ha pa_nil hs) (he := hs) (hpl := hpl)) fun σ H Q ⟨H0, F, S, k⟩ => ⟨H0, F, S, fun v H1 F1 g1 ⟨x, xs, e1, h1, h2⟩ => ⟨x, xs, by rw [e1], .inr (SqT.of (g1.i x _ h1)), fun q hq =>
    k q xs _ F1 (g1.trans (.newH g1.i hq)) (g1.h.none hq) (g1.i.none hq) upd_same h2⟩⟩
/-- tuple(xs) -/
theorem ea_tupleL {p : Pos} (ha : EL X a ρ l) (hm : X.mg "tuple" = none) (hg : Gl X "tuple" := by rfl) (hs : starEach [a] X.env = (false, eval a X.env) :: starEach [] X.env := by rfl) (hpl : (backTo pos (starEach [] X.env)).any (·.1) = false := by rfl) : EA X (.Call (.Name "tuple" p) [a] [] pos) ρ (tupA l) :=
  pe_imp (pe_callTy call_tuple_of hg hm bo_tuple (pa_cons ha pa_nil hs) (he := hs) (hpl := hpl)) fun σ H Q ⟨H0, F, S, k⟩ => ⟨H0, F, S, fun x xs H1 F1 g1 h1 h2 => ⟨x, xs, rfl, .inl ⟨SqL.of h1, fun q hq =>
    k _ _ _ (g1.trans (.new g1.i hq)) ⟨q, xs, rfl, upd_same, h2.mono (Ex.new (g1.i.none hq))⟩⟩⟩⟩
/-- all([..]), any([..]) of bools -/
theorem ea_any {bs : List Bool} {p : Pos} (ha : EL X a ρ (bs.map bl)) (hc : X.calm = true) (hm : X.mg "any" = none) (hg : Gl X "any" := by rfl) (hs : starEach [a] X.env = (false, eval a X.env) :: starEach [] X.env := by rfl) (hpl : (backTo pos (starEach [] X.env)).any (·.1) = false := by rfl) : EA X (.Call (.Name "any" p) [a] [] pos) ρ (bl (bs.any id)) :=
  pe_imp (pe_callB (cr_any hc) hg hm bo_any (pa_cons ha pa_nil hs) (he := hs) (hpl := hpl)) fun σ H Q ⟨H0, F, S, k⟩ => ⟨H0, F, S, fun x xs H1 F1 g1 h1 h2 => by
    have e : xs = bs.map V.bl := AllV.scs (F := F1) (by rw [List.map_map]; exact h2)
    subst e
    exact ⟨x, bs, rfl, SqL.of h1, k _ H1 F1 g1 rfl⟩⟩
theorem ea_all {bs : List Bool} {p : Pos} (ha : EL X a ρ (bs.map bl)) (hc : X.calm = true) (hm : X.mg "all" = none) (hg : Gl X "all" := by rfl) (hs : starEach [a] X.env = (false, eval a X.env) :: starEach [] X.env := by rfl) (hpl : (backTo pos (starEach [] X.env)).any (·.1) = false := by rfl) : EA X (.Call (.Name "all" p) [a] [] pos) ρ (bl (bs.all id)) :=
  pe_imp (pe_callB (cr_all hc) hg hm bo_all (pa_cons ha pa_nil hs) (he := hs) (hpl := hpl)) fun σ H Q ⟨H0, F, S, k⟩ => ⟨H0, F, S, fun x xs H1 F1 g1 h1 h2 => by
    have e : xs = bs.map V.bl := AllV.scs (F := F1) (by rw [List.map_map]; exact h2)
    subst e
    exact ⟨x, bs, rfl, SqL.of h1, k _ H1 F1 g1 rfl⟩⟩
/-- slices: xs[:k], xs[k:] of lists, tuples -/
def tO (ρ : List En) (o : Option Int) : TO := fun σ H Q => ∃ H0 F, Sat H0 F σ H ρ ∧ ∀ H' F', Gr F H F' H' → Q o H'
abbrev EO (X : Cx) (e : Option Expr) (ρ : List En) (o : Option Int) : Prop := PO X e (tO ρ o)
theorem po_imp {o : Option Expr} {t t' : TO} (h : PO X o t) (i : ∀ σ H Q, t' σ H Q → t σ H Q) : PO X o t' := ⟨fun pins s σ H Q I q => h.run pins s σ H Q I (i σ H Q q)⟩
theorem eo_none : EO X none ρ none := po_imp po_none fun σ H Q ⟨H0, F, S, k⟩ => k H F (.refl S.ex)
theorem eo_some {i : Int} (h : EW X e ρ (int i)) : EO X (some e) ρ (some i) := po_imp (po_some h) fun σ H Q ⟨H0, F, S, k⟩ => ⟨H0, F, S, fun v H1 F1 g1 h1 => ⟨i, h1, k H1 F1 g1⟩⟩
def cutA (l : List As) (lo hi : Option Int) : List As := (l.drop (HT.sIx l.length 0 lo)).take (HT.sIx l.length l.length hi - HT.sIx l.length 0 lo)
theorem en_slL {lo hi : Option Expr} {i j : Option Int} {p2 : Pos} (ha : EL X a ρ l) (h1 : EO X lo ρ i) (h2 : EO X hi ρ j) : EN X (.Subscript a (.Slice lo hi none p2) pos) ρ (cutA l i j) :=
  pe_imp (pe_slice sl_list ha h1 h2) fun σ H Q ⟨H0, F, S, k⟩ => ⟨H0, F, S, fun x xs H1 F1 g1 q1 q2 => ⟨H0, F1, S.gr g1, fun H2 F2 g2 => ⟨H0, F2, (S.gr g1).gr g2, fun H3 F3 g3 => by
    have g := (g1.trans g2).trans g3
    refine ⟨x, xs, rfl, SqL.of (g3.h x _ (g2.h x _ q1)), fun p hp => k p _ _ F3 (g.trans (.newH g.i hp)) (g.h.none hp) (g.i.none hp) upd_same ?_⟩
    have q3 := q2.mono (g2.f.trans g3.f)
    unfold cutV cutA
    rw [q3.length]
    exact (q3.drop _).take _⟩⟩⟩
theorem ea_slT {lo hi : Option Expr} {i j : Option Int} {p2 : Pos} (ha : EA X a ρ (tupA l)) (h1 : EO X lo ρ i) (h2 : EO X hi ρ j) (hne : ¬ (HT.sIx l.length 0 i = 0 ∧ HT.sIx l.length l.length j = l.length)) : EA X (.Subscript a (.Slice lo hi none p2) pos) ρ (tupA (cutA l i j)) :=
  pe_imp (pe_slice sl_tup ha h1 h2) fun σ H Q ⟨H0, F, S, k⟩ => ⟨H0, F, S, fun v H1 F1 g1 ⟨x, xs, ev, q1, q2⟩ => ⟨H0, F1, S.gr g1, fun H2 F2 g2 => ⟨H0, F2, (S.gr g1).gr g2, fun H3 F3 g3 => by
    have g := (g1.trans g2).trans g3
    refine ⟨x, xs, ev, SqT.of (g3.h x _ (g2.h x _ (g1.i x _ q1))), by rw [q2.length]; exact hne, fun p hp => k _ _ _ (g.trans (.new g.i hp)) ⟨p, _, rfl, upd_same, ?_⟩⟩
    have q3 := (q2.mono (g2.f.trans g3.f)).mono (Ex.new (o := .tup (cutV xs i j)) (g.i.none hp))
    unfold cutV cutA at *
    rw [q3.length] at *
    exact (q3.drop _).take _⟩⟩⟩
/-- sep.join(xs) -/
theorem ea_join {s : Str} {zs : List Str} {apos cpos : Pos} {hb : PE X e (tBM X.K "str" (fun x xs H Q => ∃ a p, ∃ ys : List Str, x = .str a ∧ xs = [.ref p] ∧ (SqL X.K H p (ys.map V.str) ∨ SqT X.K H p (ys.map V.str)) ∧ (ys.map (·.length)).sum + ys.length * a.length ≤ 16777216 ∧ Q (.str (Txt.join a ys)) H) (tW ρ (str s)) (tCons (tL ρ (zs.map str)) tNil))}
    (hz : (zs.map (·.length)).sum + zs.length * s.length ≤ 16777216) : EA X e ρ (str (Txt.join s zs)) :=
  pe_imp hb fun σ H Q ⟨H0, F, S, k⟩ => ⟨H0, F, S, fun v H1 F1 g1 h1 => by
    have h1 : v = .str s := h1
    subst h1
    refine ⟨?_, H0, F1, S.gr g1, fun x xs H2 F2 g2 q1 q2 => ?_⟩
    · first | exact .inl ⟨_, rfl⟩ | exact .inr (.inl ⟨_, rfl⟩) | exact ⟨_, rfl⟩ | trivial | rfl
    · have e : xs = zs.map V.str := AllV.scs (F := F2) (by rw [List.map_map]; exact q2)
      subst e
      exact ⟨s, x, zs, rfl, rfl, .inl (SqL.of q1), hz, k _ H2 F2 (g1.trans g2) rfl⟩⟩
end
end Lk

set_option Elab.async false
set_option linter.all false
set_option maxRecDepth 100000
set_option maxHeartbeats 4000000
namespace Lk
open PySem PySem.Calls L2
section
variable {X : Cx} {e a b c : Expr} {es : List Expr} {ρ : List En} {A B C : As} {l m : List As} {pos : Pos}
theorem pe_app (i : Nat) {x : Str} {px apos cpos : Pos} (he : EA X e ρ A) (hN : X.N[i]? = some x := by rfl) (hv : Vis X.env.scope x := by first | exact Or.inl rfl | exact Or.inr (Or.inl rfl) | exact Or.inr (Or.inr rfl)) (hd : (x == ("__debug__" : Str)) = false := by decide) (hcd : (x == ("__classdict__" : Str)) = false := by decide)
    (hbase : attributeBase (.Name x px) "append" X.env (eval (.Name x px) X.env) = eval (.Name x px) X.env := by rfl)
    (hfew : ((backTo cpos (starEach [e] X.env)).all (fun x => !x.1) && (backToKw cpos (keywordEach [] X.env)).all (fun x => x.1.isSome) && decide ([e].length + ([] : List Keyword).length + (if ([] : List Keyword).isEmpty then 0 else 1) < 30)) = true := by rfl)
    (hline : (apos.endLine == cpos.line) = true := by rfl) (hs : starEach [e] X.env = (false, eval e X.env) :: starEach [] X.env := by rfl) (hplain : (backTo cpos (starEach [] X.env)).any (·.1) = false := by rfl) :
    PE X (.Call (.Attribute (.Name x px) "append" apos) [e] [] cpos) (tBM X.K "list" rAppend (tVar i) (tCons (tA ρ A) tNil)) :=
  pe_bm PySem.F.plainAttrs_list PySem.F.slot_list_append PySem.F.type_list_append mt_append (pe_var hN hv hd hcd) (pa_cons he pa_nil hs) hbase hfew hline hs hplain
/-- ''.join(xs) -/
theorem ea_joinL {s : Str} {zs : List Str} {apos : Pos} (ho : EW X a ρ (str s)) (he : EL X b ρ (zs.map str)) (hz : (zs.map (·.length)).sum + zs.length * s.length ≤ 16777216) (hs : starEach [b] X.env = [(false, eval b X.env)] := by rfl) (hbase : attributeBase a "join" X.env (eval a X.env) = eval a X.env := by rfl)
    (hline : (apos.endLine == pos.line) = true := by rfl) : EA X (.Call (.Attribute a "join" apos) [b] [] pos) ρ (str (Txt.join s zs)) :=
  pe_imp (pe_join ho he hs hbase hline) fun σ H Q ⟨H0, F, S, k⟩ => ⟨H0, F, S, fun v H1 F1 g1 h1 => by
    have h1 : v = .str s := h1
    subst h1
    refine ⟨⟨s, rfl⟩, H0, F1, S.gr g1, fun x xs H2 F2 g2 q1 q2 => ?_⟩
    have e : xs = zs.map V.str := AllV.scs (F := F2) (by rw [List.map_map]; exact q2)
    subst e
    exact ⟨s, x, zs, rfl, rfl, .inl (SqL.of q1), hz, k _ H2 F2 (g1.trans g2) rfl⟩⟩
theorem el_is (h : EL X e ρ l) (i : l = m) : EL X e ρ m := i ▸ h
theorem en_is (h : EN X e ρ l) (i : l = m) : EN X e ρ m := i ▸ h
theorem eas_is (h : EAs X es ρ l) (i : l = m) : EAs X es ρ m := i ▸ h
theorem ea_rng {z : Int} (lo hi : Int) (h : EA X e ρ (int z)) (b : lo ≤ z ∧ z < hi) : EA X e ρ (exA (fun m => lo ≤ m ∧ m < hi) int) := ea_imp h fun F v hv => ⟨z, b, hv⟩
end
/-- a call whose value is known beforehand -/
theorem ea_callB {X : Cx} {e : Expr} {es : List Expr} {ρ : List En} {pos : Pos} {k : Nat} {x : Str} {ps : List Str} {ι : Type} {pre : ι → Prop} {l : ι → List As} {A : ι → As} {B : As} {p : Pos} (D : Df X.prog X.w X.K X.mg X.base k x ps (spX pre l A)) (hr : Room k X.A) (i : ι) (hp : pre i) (hA : A i = B) (ha : EAs X (e :: es) ρ (l i)) (hg : Gl X x := by rfl)
    (hdb : (x == ("__debug__" : Str)) = false := by decide) (he : starEach (e :: es) X.env = (false, eval e X.env) :: starEach es X.env := by rfl) (hpl : (backTo pos (starEach es X.env)).any (·.1) = false := by rfl) : EA X (.Call (.Name x p) (e :: es) [] pos) ρ B :=
  hA ▸ ea_call D hr i hp ha hg hdb he hpl
theorem mD {P : Program} {w : World} {K : PySem.W.Frag} {mg : Str → Option Value} {base : Heap} {f : Addr} {fd : FuncData} {sp : Sp} {k : Nat} {x : Str} {ps : List Str} {qual : Str} {st : Stmt} (F : Fun K x qual st f fd) (hm : mg x = some (.ref f)) (hb : Binds K fd ps []) (G : FnOk P w K mg base CX0 k f fd ps sp) : Df P w K mg base k x ps sp := ⟨f, fd, G, hm, F.kp, hb⟩

theorem flt_true {α : Type} (l : List α) : l.filter (fun _ => true) = l := List.filter_eq_self.mpr fun _ _ => rfl
/-! ### texts by their signs -/
def S (l : List Nat) : Str := ⟨l.toArray⟩
theorem S_inj {l m : List Nat} (h : S l = S m) : l = m := by
  have e : l.toArray = m.toArray := congrArg Str.cps h
  simpa using e
theorem S_len (l : List Nat) : (S l).length = l.length := by
  show l.toArray.size = l.length
  simp
theorem S_app (l m : List Nat) : S l ++ S m = S (l ++ m) := by
  show Str.mk (l.toArray ++ m.toArray) = Str.mk (l ++ m).toArray
  simp
theorem S_of (s : Str) : S s.cps.toList = s := by
  cases s
  simp [S]
def ascii (c : Nat) : Bool := c < 128
def alnum (c : Nat) : Bool := (48 ≤ c && c ≤ 57) || (65 ≤ c && c ≤ 90) || (97 ≤ c && c ≤ 122)
/-- a note -/
def Note (s : Str) : Prop := ∃ l : List Nat, s = S l ∧ 1 ≤ l.length ∧ l.length ≤ 8 ∧ ∀ c ∈ l, alnum c = true
end Lk

set_option Elab.async false
set_option linter.all false
set_option maxRecDepth 100000
set_option maxHeartbeats 4000000
namespace Lk
open PySem PySem.Calls L2
section
variable {X : Cx} {e a b c : Expr} {es : List Expr} {ρ : List En} {A B C : As} {l m : List As} {pos p1 : Pos} {Nx : List En → Prop} {W : Wn}
theorem map_at {α : Type} {f : α → As} {l : List α} {i : Nat} {d : α} (h : i < l.length) : (l.map f)[i]? = some (f (l.getD i d)) := by
  rw [List.getElem?_map, List.getD_eq_getElem?_getD, List.getElem?_eq_getElem h]
  rfl
/-- [1, 2, ..][i] -/
theorem ea_tbl {tb : List Int} {i : Int} (h : EAs X es ρ (tb.map int)) (hb : EW X b ρ (int i)) (h0 : 0 ≤ i) (h1 : i < (tb.length : Int)) (hz : tb.length ≤ sizeLine) (hs : PlainIx b := by exact fun _ _ => rfl) : EA X (.Subscript (.List es p1) b pos) ρ (int (tb.getD i.toNat 0)) :=
  ea_ixL (en_l (en_lst h (by rw [List.length_map]; exact hz))) hb (Int.toNat_of_nonneg h0).symm (map_at (by omega)) hs
/-- a number that lies from 0 to n -/
abbrev natA (n : Nat) : As := exA (fun m : Nat => m ≤ n) (fun m => int (m : Int))
theorem ea_nat {z : Int} (n : Nat) (h : EA X e ρ (int z)) (h0 : 0 ≤ z) (h1 : z ≤ (n : Int)) : EA X e ρ (natA n) := ea_imp h fun F v hv => ⟨z.toNat, by omega, by
  show (int ((z.toNat : Nat) : Int)).p F v
  rw [Int.toNat_of_nonneg h0]
  exact hv⟩
theorem tb_mem {tb : List Int} {i : Nat} (h : i < tb.length) : tb.getD i 0 ∈ tb := by
  rw [List.getD_eq_getElem?_getD, List.getElem?_eq_getElem h]
  exact List.getElem_mem h
theorem cutA_take {n : Nat} : cutA l none (some (n : Int)) = l.take n := by
  unfold cutA
  rw [HT.sIx_none, show HT.sIx l.length l.length (some (n : Int)) = min n l.length from HT.sIx_nat l.length l.length n]
  simp
theorem cutA_drop {n : Nat} : cutA l (some (n : Int)) none = l.drop n := by
  unfold cutA
  rw [HT.sIx_none, show HT.sIx l.length 0 (some (n : Int)) = min n l.length from HT.sIx_nat l.length 0 n]
  by_cases h : n ≤ l.length
  · rw [Nat.min_eq_left h, List.take_of_length_le (by rw [List.length_drop]; exact Nat.le_refl _)]
  · rw [Nat.min_eq_right (by omega), List.drop_of_length_le (Nat.le_refl _), List.drop_of_length_le (by omega)]
    simp
/-- xs.pop(i) as a statement -/
theorem sa_popAt (i : Nat) {x : Str} {px apos cpos : Pos} {z : Int} {j : Nat} (hr : ρ[i]? = some (En.own l)) (he : EW X e ρ (int z)) (hz : z = (j : Int)) (hj : j < l.length) (hl : l.length ≤ 1000000) (k : Nx (ρ.set i (.own (l.eraseIdx j)))) (hN : X.N[i]? = some x := by rfl) (hv : Vis X.env.scope x := by first | exact Or.inl rfl | exact Or.inr (Or.inl rfl) | exact Or.inr (Or.inr rfl)) (hd : (x == ("__debug__" : Str)) = false := by decide) (hcd : (x == ("__classdict__" : Str)) = false := by decide)
    (hbase : attributeBase (.Name x px) "pop" X.env (eval (.Name x px) X.env) = eval (.Name x px) X.env := by rfl)
    (hfew : ((backTo cpos (starEach [e] X.env)).all (fun x => !x.1) && (backToKw cpos (keywordEach [] X.env)).all (fun x => x.1.isSome) && decide ([e].length + ([] : List Keyword).length + (if ([] : List Keyword).isEmpty then 0 else 1) < 30)) = true := by rfl)
    (hline : (apos.endLine == cpos.line) = true := by rfl) (hs : starEach [e] X.env = (false, eval e X.env) :: starEach [] X.env := by rfl) (hplain : (backTo cpos (starEach [] X.env)).any (·.1) = false := by rfl)
    (hsw : swapsWith (.Call (.Attribute (.Name x px) "pop" apos) [e] [] cpos) none pos.line X.env = pure false := by rfl) :
    SA X (.Expr (.Call (.Attribute (.Name x px) "pop" apos) [e] [] cpos) pos) ρ Nx W := by
  refine ps_imp (ps_expr (pe_bm PySem.F.plainAttrs_list PySem.F.slot_list_pop PySem.F.type_list_pop mt_popAt (pe_var hN hv hd hcd) (pa_cons he pa_nil hs) hbase hfew hline hs hplain) hsw) fun D σ H ⟨F0, H0, F, g, S, q, _⟩ => ?_
  obtain ⟨p, xs, h1, h2, h3, h4, h5⟩ := S.own i l hr
  refine ⟨_, h1, .inl ⟨rfl, _, SqL.of h4⟩, H0, F, S, fun v H' F' g' hv' => ?_⟩
  have hv' : v = .int z := hv'
  subst hv'
  have hlen := h5.length
  have hjx : j < xs.length := by omega
  refine ⟨p, xs, z, j, xs[j], rfl, rfl, g'.h p _ h4, by omega, by omega, ?_, List.getElem?_eq_getElem hjx, ?_⟩
  · rw [hz]
    unfold seqIndex?
    simp
    omega
  · obtain ⟨g3, S3⟩ := sat_wr (g.trans g') (S.gr g') hr h1 ((h5.mono g'.f).eraseIdx j)
    exact q _ σ _ F' k g3 S3
/-- out.append(left.pop(e)) -/
theorem sa_appPop (i i' : Nat) {x y : Str} {px py apos cpos apos2 cpos2 : Pos} {z : Int} {j : Nat} (hne : i ≠ i') (hr : ρ[i]? = some (En.own l)) (hr' : ρ[i']? = some (En.own m)) (he : EW X e ρ (int z)) (hz : z = (j : Int)) (hj : m[j]? = some A) (hl : m.length ≤ 1000000) (hl2 : l.length < sizeLine) (k : Nx ((ρ.set i' (.own (m.eraseIdx j))).set i (.own (l ++ [A])))) (hN : X.N[i]? = some x := by rfl) (hv : Vis X.env.scope x := by first | exact Or.inl rfl | exact Or.inr (Or.inl rfl) | exact Or.inr (Or.inr rfl)) (hd : (x == ("__debug__" : Str)) = false := by decide) (hcd : (x == ("__classdict__" : Str)) = false := by decide)
    (hN2 : X.N[i']? = some y := by rfl) (hv2 : Vis X.env.scope y := by first | exact Or.inl rfl | exact Or.inr (Or.inl rfl) | exact Or.inr (Or.inr rfl)) (hd2 : (y == ("__debug__" : Str)) = false := by decide) (hcd2 : (y == ("__classdict__" : Str)) = false := by decide)
    (hbase : attributeBase (.Name y py) "pop" X.env (eval (.Name y py) X.env) = eval (.Name y py) X.env := by rfl)
    (hfew : ((backTo cpos2 (starEach [e] X.env)).all (fun x => !x.1) && (backToKw cpos2 (keywordEach [] X.env)).all (fun x => x.1.isSome) && decide ([e].length + ([] : List Keyword).length + (if ([] : List Keyword).isEmpty then 0 else 1) < 30)) = true := by rfl)
    (hline : (apos2.endLine == cpos2.line) = true := by rfl) (hs : starEach [e] X.env = (false, eval e X.env) :: starEach [] X.env := by rfl) (hplain : (backTo cpos2 (starEach [] X.env)).any (·.1) = false := by rfl)
    (hbase1 : attributeBase (.Name x px) "append" X.env (eval (.Name x px) X.env) = eval (.Name x px) X.env := by rfl)
    (hfew1 : ((backTo cpos (starEach [.Call (.Attribute (.Name y py) "pop" apos2) [e] [] cpos2] X.env)).all (fun x => !x.1) && (backToKw cpos (keywordEach [] X.env)).all (fun x => x.1.isSome) && decide ([Expr.Call (.Attribute (.Name y py) "pop" apos2) [e] [] cpos2].length + ([] : List Keyword).length + (if ([] : List Keyword).isEmpty then 0 else 1) < 30)) = true := by rfl)
    (hline1 : (apos.endLine == cpos.line) = true := by rfl) (hs1 : starEach [.Call (.Attribute (.Name y py) "pop" apos2) [e] [] cpos2] X.env = (false, eval (.Call (.Attribute (.Name y py) "pop" apos2) [e] [] cpos2) X.env) :: starEach [] X.env := by rfl) (hplain1 : (backTo cpos (starEach [] X.env)).any (·.1) = false := by rfl)
    (hsw : swapsWith (.Call (.Attribute (.Name x px) "append" apos) [.Call (.Attribute (.Name y py) "pop" apos2) [e] [] cpos2] [] cpos) none pos.line X.env = pure false := by rfl) :
    SA X (.Expr (.Call (.Attribute (.Name x px) "append" apos) [.Call (.Attribute (.Name y py) "pop" apos2) [e] [] cpos2] [] cpos) pos) ρ Nx W := by
  refine ps_imp (ps_expr (pe_bm PySem.F.plainAttrs_list PySem.F.slot_list_append PySem.F.type_list_append mt_append (pe_var (i := i) hN hv hd hcd)
    (pa_cons (pe_bm PySem.F.plainAttrs_list PySem.F.slot_list_pop PySem.F.type_list_pop mt_popAt (pe_var (i := i') hN2 hv2 hd2 hcd2) (pa_cons he pa_nil hs) hbase hfew hline hs hplain) pa_nil hs1) hbase1 hfew1 hline1 hs1 hplain1) hsw) fun D σ H ⟨F0, H0, F, g, S, q, _⟩ => ?_
  obtain ⟨p, xs, h1, h2, h3, h4, h5⟩ := S.own i l hr
  obtain ⟨p', ys, h1', h2', h3', h4', h5'⟩ := S.own i' m hr'
  refine ⟨_, h1, .inl ⟨rfl, _, SqL.of h4⟩, _, h1', .inl ⟨rfl, _, SqL.of h4'⟩, H0, F, S, fun v H' F' g' hv' => ?_⟩
  have hv' : v = .int z := hv'
  subst hv'
  obtain ⟨u, hu, hA⟩ := h5'.get hj
  have hjm : j < m.length := (List.getElem?_eq_some_iff.mp hj).1
  have hlen := h5'.length
  refine ⟨p', ys, z, j, u, rfl, rfl, g'.h p' _ h4', by omega, by omega, ?_, hu, ?_⟩
  · rw [hz]
    unfold seqIndex?
    simp
    omega
  · obtain ⟨g3, S3⟩ := sat_wr (g.trans g') (S.gr g') hr' h1' ((h5'.mono g'.f).eraseIdx j)
    have np : p ≠ p' := fun z' => hne (S.sep i i' l m p hr hr' h1 (by rw [z']; exact h1'))
    have hr2 : (ρ.set i' (.own (m.eraseIdx j)))[i]? = some (En.own l) := by rw [List.getElem?_set_ne (Ne.symm hne)]; exact hr
    refine ⟨p, xs, u, rfl, rfl, by rw [upd_ne np]; exact g'.h p _ h4, by rw [h5.length]; exact hl2, ?_⟩
    obtain ⟨g4, S4⟩ := sat_wr g3 S3 hr2 h1 ((h5.mono g'.f).snoc (A.mono g'.f hA))
    exact q _ σ _ F' k g4 S4
end
end Lk

set_option Elab.async false
set_option linter.all false
set_option maxRecDepth 100000
set_option maxHeartbeats 4000000
namespace Lk
open PySem PySem.Calls L2
/-! ### data, for == and in -/
def Dat (K : PySem.W.Frag) (A : As) (d : PyData) : Prop := ∀ H v, A.p H v → Dp K H v d
theorem dat_non {K} : Dat K non .none := fun H v h => by
  have h : v = .non := h
  subst h
  exact .non
theorem dat_int {K} (i : Int) : Dat K (int i) (.int i) := fun H v h => by
  have h : v = .int i := h
  subst h
  exact .int i
theorem dat_str {K} (s : Str) : Dat K (str s) (.str s) := fun H v h => by
  have h : v = .str s := h
  subst h
  exact .str s
theorem dat_bl {K} (b : Bool) : Dat K (bl b) (.bool b) := fun H v h => by
  have h : v = .bl b := h
  subst h
  exact .bl b
theorem dpAll {K : PySem.W.Frag} {H : Hp} {α : Type} {f : α → As} {g : α → PyData} (hf : ∀ a, Dat K (f a) (g a)) : ∀ {xs : List V} {l : List α}, AllV H xs (l.map f) → DpAll K H xs (l.map g)
  | [], [], _ => .nil
  | _ :: _, a :: l, h => .cons (hf a _ _ h.1) (dpAll hf h.2)
  | [], _ :: _, h => h.elim
  | _ :: _, [], h => h.elim
theorem dat_lst {K : PySem.W.Frag} {α : Type} {f : α → As} {g : α → PyData} (hf : ∀ a, Dat K (f a) (g a)) (l : List α) : Dat K (lstA (l.map f)) (.list (l.map g)) := fun H v ⟨a, xs, e, h1, h2⟩ => by
  subst e
  exact .lst (SqL.of h1) (dpAll hf h2)
theorem dat_tup {K : PySem.W.Frag} {α : Type} {f : α → As} {g : α → PyData} (hf : ∀ a, Dat K (f a) (g a)) (l : List α) : Dat K (tupA (l.map f)) (.tuple (l.map g)) := fun H v ⟨a, xs, e, h1, h2⟩ => by
  subst e
  exact .tup (SqT.of h1) (dpAll hf h2)
theorem eqvAll_map {α : Type} [DecidableEq α] {g : α → PyData} (he : ∀ x y, PyData.eqv (g x) (g y) = decide (x = y)) : ∀ l m : List α, PyData.eqvAll (l.map g) (m.map g) = decide (l = m)
  | [], [] => by simp [PyData.eqvAll]
  | [], _ :: _ => by simp [PyData.eqvAll]
  | _ :: _, [] => by simp [PyData.eqvAll]
  | a :: l, b :: m => by
    rw [List.map_cons, List.map_cons, PyData.eqvAll, he, eqvAll_map he l m, Bool.eq_iff_iff]
    simp
theorem canAll_map {α : Type} {g : α → PyData} : ∀ l : List α, (∀ a ∈ l, (g a).canLay0 = true) → PyData.canLayAll0 (l.map g) = true
  | [], _ => by simp [PyData.canLayAll0]
  | a :: l, h => by
    have e := canAll_map l fun b hb => h b (List.mem_cons_of_mem _ hb)
    have e1 := h a List.mem_cons_self
    rw [List.map_cons]
    simp only [PyData.canLayAll0, Bool.and_eq_true]
    exact ⟨e1, e⟩
theorem depthAll_map {α : Type} {g : α → PyData} {n : Nat} : ∀ l : List α, (∀ a, (g a).depth ≤ n) → PyData.depthAll (l.map g) ≤ n
  | [], _ => by simp [PyData.depthAll]
  | a :: l, h => by
    have e := depthAll_map l h
    have e2 := h a
    rw [List.map_cons]
    simp only [PyData.depthAll]
    omega
/-- f's values are data that == tells apart -/
structure Enc (K : PySem.W.Frag) {α : Type} [DecidableEq α] (n : Nat) (f : α → As) (ok : α → Prop) : Prop where
  ex : ∃ g : α → PyData, (∀ a, Dat K (f a) (g a)) ∧ (∀ x y, PyData.eqv (g x) (g y) = decide (x = y)) ∧ (∀ a, (g a).depth ≤ n) ∧ ∀ a, ok a → (g a).canLay0 = true
def okS (s : Str) : Prop := PyData.strOk s = true
def okL {α : Type} (ok : α → Prop) (l : List α) : Prop := ∀ a ∈ l, ok a
theorem enc_str {K} : Enc K 0 str okS := ⟨fun s => .str s, dat_str, fun x y => by simp [PyData.eqv, Bool.beq_eq_decide_eq], fun a => by simp [PyData.depth], fun a h => by simp only [PyData.canLay0]; exact h⟩
theorem enc_int {K} : Enc K 0 int (fun _ => True) := ⟨fun s => .int s, dat_int, fun x y => by simp [PyData.eqv, Bool.beq_eq_decide_eq], fun a => by simp [PyData.depth], fun a _ => by simp [PyData.canLay0]⟩
theorem enc_bl {K} : Enc K 0 bl (fun _ => True) := ⟨fun s => .bool s, dat_bl, fun x y => by simp [PyData.eqv, Bool.beq_eq_decide_eq], fun a => by simp [PyData.depth], fun a _ => by simp [PyData.canLay0]⟩
theorem enc_lst {K : PySem.W.Frag} {α : Type} [DecidableEq α] {n : Nat} {f : α → As} {ok : α → Prop} (h : Enc K n f ok) : Enc K (n + 1) (fun l : List α => lstA (l.map f)) (okL ok) := by
  obtain ⟨g, h1, h2, h3, h4⟩ := h.ex
  refine ⟨fun l => .list (l.map g), fun l => dat_lst h1 l, fun l m => by rw [PyData.eqv]; exact eqvAll_map h2 l m, fun l => ?_, fun l hl => ?_⟩
  · have q := depthAll_map (n := n) l fun a => h3 a
    simp only [PyData.depth]
    omega
  · simp only [PyData.canLay0]
    exact canAll_map l fun a ha => h4 a (hl a ha)
theorem enc_tup {K : PySem.W.Frag} {α : Type} [DecidableEq α] {n : Nat} {f : α → As} {ok : α → Prop} (h : Enc K n f ok) : Enc K (n + 1) (fun l : List α => tupA (l.map f)) (okL ok) := by
  obtain ⟨g, h1, h2, h3, h4⟩ := h.ex
  refine ⟨fun l => .tuple (l.map g), fun l => dat_tup h1 l, fun l m => by rw [PyData.eqv]; exact eqvAll_map h2 l m, fun l => ?_, fun l hl => ?_⟩
  · have q := depthAll_map (n := n) l fun a => h3 a
    simp only [PyData.depth]
    omega
  · simp only [PyData.canLay0]
    exact canAll_map l fun a ha => h4 a (hl a ha)
/-- through an injective reading -/
theorem enc_of {K : PySem.W.Frag} {α β : Type} [DecidableEq α] [DecidableEq β] {n : Nat} {f : α → As} {ok : α → Prop} (h : Enc K n f ok) (r : β → α) (inj : ∀ x y, r x = r y → x = y) : Enc K n (fun b => f (r b)) (fun b => ok (r b)) := by
  obtain ⟨g, h1, h2, h3, h4⟩ := h.ex
  refine ⟨fun b => g (r b), fun b => h1 (r b), fun x y => ?_, fun b => h3 (r b), fun b hb => h4 (r b) hb⟩
  show PyData.eqv (g (r x)) (g (r y)) = decide (x = y)
  rw [h2, Bool.eq_iff_iff]
  simp only [decide_eq_true_eq]
  exact ⟨inj x y, fun e => by rw [e]⟩
theorem shaped_of {d : PyData} (h1 : d.canLay0 = true) (h2 : d.depth ≤ 64) : SeqAt.shaped d = true := by
  show (d.canLay0 && decide (d.depth ≤ 64)) = true
  rw [Bool.and_eq_true]
  exact ⟨h1, decide_eq_true h2⟩
section
variable {X : Cx} {α : Type} [DecidableEq α] {n k : Nat} {f : α → As} {ok : α → Prop}
theorem dec_irr {p : Prop} (i j : Decidable p) : @decide p i = @decide p j := by rw [Subsingleton.elim i j]
theorem cm_eqD {a b : α} {i : Decidable (a = b)} (hr : Room k X.A) (h : Enc X.K n f ok) (ha : ok a) (hb : ok b) (hn : n ≤ 60 := by decide) : Cm X .Eq (f a) (f b) (decide (a = b)) := by
  obtain ⟨g, h1, h2, h3, h4⟩ := h.ex
  refine ⟨_, op_eqD (by have := hr.un; omega), fun x y H Q p q z => ⟨g a, g b, h1 a H x p, h1 b H y q, shaped_of (h4 a ha) (by have := h3 a; omega), shaped_of (h4 b hb) (by have := h3 b; omega), ?_⟩⟩
  rw [h2, dec_irr _ i]
  exact z
theorem cm_neD {a b : α} {i : Decidable (a = b)} (hr : Room k X.A) (h : Enc X.K n f ok) (ha : ok a) (hb : ok b) (hn : n ≤ 60 := by decide) : Cm X .NotEq (f a) (f b) (!decide (a = b)) := by
  obtain ⟨g, h1, h2, h3, h4⟩ := h.ex
  refine ⟨_, op_neD (by have := hr.un; omega), fun x y H Q p q z => ⟨g a, g b, h1 a H x p, h1 b H y q, shaped_of (h4 a ha) (by have := h3 a; omega), shaped_of (h4 b hb) (by have := h3 b; omega), ?_⟩⟩
  rw [h2, dec_irr _ i]
  exact z
theorem any_eqv {g : α → PyData} (h2 : ∀ x y, PyData.eqv (g x) (g y) = decide (x = y)) (a : α) (l : List α) : ((l.map g).any fun z => PyData.eqv z (g a)) = decide (a ∈ l) := by
  rw [Bool.eq_iff_iff, List.any_eq_true]
  simp only [decide_eq_true_eq, List.mem_map]
  constructor
  · rintro ⟨z, ⟨b, hb, rfl⟩, hz⟩
    rw [h2] at hz
    have e : b = a := of_decide_eq_true hz
    rw [← e]
    exact hb
  · intro h
    exact ⟨g a, ⟨a, h, rfl⟩, by rw [h2]; exact decide_eq_true rfl⟩
theorem cm_inD {a : α} {l : List α} {i : Decidable (a ∈ l)} (hr : Room k X.A) (h : Enc X.K n f ok) (ha : ok a) (hl : okL ok l) (hn : n ≤ 60 := by decide) : Cm X .In (f a) (lstA (l.map f)) (decide (a ∈ l)) := by
  obtain ⟨g, h1, h2, h3, h4⟩ := h.ex
  refine ⟨_, op_inD (by have := hr.un; omega), fun x y H Q p q z => ⟨g a, l.map g, h1 a H x p, dat_lst h1 l H y q, shaped_of (h4 a ha) (by have := h3 a; omega), ?_, ?_⟩⟩
  · refine shaped_of (by simp only [PyData.canLay0]; exact canAll_map l fun a ha => h4 a (hl a ha)) ?_
    have q := depthAll_map (n := n) l fun a => h3 a
    simp only [PyData.depth]
    omega
  · rw [any_eqv h2, dec_irr _ i]
    exact z
theorem cm_notinD {a : α} {l : List α} {i : Decidable (a ∈ l)} (hr : Room k X.A) (h : Enc X.K n f ok) (ha : ok a) (hl : okL ok l) (hn : n ≤ 60 := by decide) : Cm X .NotIn (f a) (lstA (l.map f)) (!decide (a ∈ l)) := by
  obtain ⟨g, h1, h2, h3, h4⟩ := h.ex
  refine ⟨_, op_notInD (by have := hr.un; omega), fun x y H Q p q z => ⟨g a, l.map g, h1 a H x p, dat_lst h1 l H y q, shaped_of (h4 a ha) (by have := h3 a; omega), ?_, ?_⟩⟩
  · refine shaped_of (by simp only [PyData.canLay0]; exact canAll_map l fun a ha => h4 a (hl a ha)) ?_
    have q := depthAll_map (n := n) l fun a => h3 a
    simp only [PyData.depth]
    omega
  · rw [any_eqv h2, dec_irr _ i]
    exact z
theorem cm_eq {a b : α} (hr : Room k X.A) (h : Enc X.K n f ok) (ha : ok a) (hb : ok b) (hn : n ≤ 60 := by decide) : Cm X .Eq (f a) (f b) (decide (a = b)) := cm_eqD hr h ha hb hn
theorem cm_ne {a b : α} (hr : Room k X.A) (h : Enc X.K n f ok) (ha : ok a) (hb : ok b) (hn : n ≤ 60 := by decide) : Cm X .NotEq (f a) (f b) (!decide (a = b)) := cm_neD hr h ha hb hn
theorem cm_in {a : α} {l : List α} (hr : Room k X.A) (h : Enc X.K n f ok) (ha : ok a) (hl : okL ok l) (hn : n ≤ 60 := by decide) : Cm X .In (f a) (lstA (l.map f)) (decide (a ∈ l)) := cm_inD hr h ha hl hn
theorem cm_notin {a : α} {l : List α} (hr : Room k X.A) (h : Enc X.K n f ok) (ha : ok a) (hl : okL ok l) (hn : n ≤ 60 := by decide) : Cm X .NotIn (f a) (lstA (l.map f)) (!decide (a ∈ l)) := cm_notinD hr h ha hl hn
end
theorem pigeon {α : Type} [DecidableEq α] : ∀ {l m : List α}, l.Nodup → (∀ a ∈ l, a ∈ m) → l.length ≤ m.length
  | [], m, _, _ => Nat.zero_le _
  | a :: l, m, h, s => by
    obtain ⟨h1, h2⟩ := List.nodup_cons.mp h
    have ha := s a List.mem_cons_self
    have k := pigeon (l := l) (m := m.erase a) h2 fun b hb => (List.mem_erase_of_ne (fun e => h1 (by rw [← e]; exact hb))).mpr (s b (List.mem_cons_of_mem _ hb))
    rw [List.length_erase_of_mem ha] at k
    have := List.length_pos_of_mem ha
    rw [List.length_cons]
    omega
end Lk

set_option Elab.async false
set_option linter.all false
set_option maxRecDepth 100000
set_option maxHeartbeats 4000000
namespace Lk
open PySem PySem.Calls L2
/-! ### objects, dicts -/
def insA (C : Addr) (fs : List (Str × As)) : As := ⟨fun F v => ∃ a dx vs, v = .ref a ∧ F a = some (.ins C dx ((fs.map Prod.fst).zip vs)) ∧ AllV F vs (fs.map Prod.snd), fun e ⟨a, dx, vs, h1, h2, h3⟩ => ⟨a, dx, vs, h1, e a _ h2, h3.mono e⟩⟩
def dkA (l : List (Str × As)) : As := ⟨fun F v => ∃ a vs, v = .ref a ∧ F a = some (.dK ((l.map fun x => (Sum.inr x.1 : Key)).zip vs)) ∧ AllV F vs (l.map Prod.snd), fun e ⟨a, vs, h1, h2, h3⟩ => ⟨a, vs, h1, e a _ h2, h3.mono e⟩⟩
def kT (k : List Str) : List Key := k.map Sum.inr
def dtA (l : List (List Str × As)) : As := ⟨fun F v => ∃ a vs, v = .ref a ∧ F a = some (.dT ((l.map fun x => kT x.1).zip vs)) ∧ AllV F vs (l.map Prod.snd), fun e ⟨a, vs, h1, h2, h3⟩ => ⟨a, vs, h1, e a _ h2, h3.mono e⟩⟩
theorem kT_inj {a b : List Str} (h : kT a = kT b) : a = b := by
  unfold kT at h
  exact (List.map_inj_right (fun x y e => by simpa using e)).mp h
theorem kT_kV (k : List Str) : (kT k).map kV = k.map V.str := by
  unfold kT
  rw [List.map_map]
  rfl
/-- a field's place -/
theorem zip_lookup {F : Hp} {f : Str} {A : As} : ∀ {fs : List (Str × As)} {vs : List V}, AllV F vs (fs.map Prod.snd) → fs.lookup f = some A → ∃ v, ((fs.map Prod.fst).zip vs).lookup f = some v ∧ A.p F v
  | [], _, _, h => by simp at h
  | (g, B) :: fs, v :: vs, h, e => by
    rw [List.map_cons, List.zip_cons_cons]
    by_cases hf : f = g
    · subst hf
      have e : B = A := by simpa [List.lookup] using e
      subst e
      exact ⟨v, by simp [List.lookup], h.1⟩
    · have hb : (f == g) = false := by simpa using hf
      rw [List.lookup, hb] at e
      obtain ⟨u, h1, h2⟩ := zip_lookup (fs := fs) (vs := vs) h.2 e
      exact ⟨u, by rw [List.lookup, hb]; exact h1, h2⟩
  | _ :: _, [], h, _ => h.elim
theorem zip_nolook {F : Hp} {f : Str} : ∀ {fs : List (Str × As)} {vs : List V}, AllV F vs (fs.map Prod.snd) → fs.lookup f = none → ((fs.map Prod.fst).zip vs).lookup f = none
  | [], _, _, _ => by simp
  | (g, B) :: fs, v :: vs, h, e => by
    rw [List.map_cons, List.zip_cons_cons]
    by_cases hf : f = g
    · subst hf
      simp [List.lookup] at e
    · have hb : (f == g) = false := by simpa using hf
      rw [List.lookup, hb] at e
      rw [List.lookup, hb]
      exact zip_nolook (fs := fs) (vs := vs) h.2 e
  | _ :: _, [], h, _ => h.elim
/-- a key's place: κ the keys of the model, r how they are laid -/
theorem valV_zip {κ μ : Type} [DecidableEq κ] [BEq μ] [LawfulBEq μ] {r : μ → κ} (inj : ∀ x y, r x = r y → x = y) {F : Hp} {k : μ} {A : As} : ∀ {l : List (μ × As)} {vs : List V}, AllV F vs (l.map Prod.snd) → l.lookup k = some A → ∃ v, valV ((l.map fun x => r x.1).zip vs) (r k) = some v ∧ A.p F v
  | [], _, _, h => by simp at h
  | (g, B) :: l, v :: vs, h, e => by
    rw [List.map_cons, List.zip_cons_cons]
    by_cases hf : k = g
    · subst hf
      have e : B = A := by simpa [List.lookup] using e
      subst e
      exact ⟨v, valV_pos rfl, h.1⟩
    · have hb : (k == g) = false := by simpa using hf
      rw [List.lookup, hb] at e
      obtain ⟨u, h1, h2⟩ := valV_zip inj (l := l) (vs := vs) h.2 e
      exact ⟨u, by rw [valV_neg fun z => hf (inj _ _ z).symm]; exact h1, h2⟩
  | _ :: _, [], h, _ => h.elim
theorem valV_nozip {κ μ : Type} [DecidableEq κ] [BEq μ] [LawfulBEq μ] {r : μ → κ} (inj : ∀ x y, r x = r y → x = y) {F : Hp} {k : μ} : ∀ {l : List (μ × As)} {vs : List V}, AllV F vs (l.map Prod.snd) → l.lookup k = none → valV ((l.map fun x => r x.1).zip vs) (r k) = none
  | [], _, _, _ => by simp [valV]
  | (g, B) :: l, v :: vs, h, e => by
    rw [List.map_cons, List.zip_cons_cons]
    by_cases hf : k = g
    · subst hf
      simp [List.lookup] at e
    · have hb : (k == g) = false := by simpa using hf
      rw [List.lookup, hb] at e
      rw [valV_neg fun z => hf (inj _ _ z).symm]
      exact valV_nozip inj (l := l) (vs := vs) h.2 e
  | _ :: _, [], h, _ => h.elim
theorem inr_inj (x y : Str) (h : (Sum.inr x : Key) = Sum.inr y) : x = y := by simpa using h
theorem dget_k {H : Hp} {F : Hp} {a : Addr} {l : List (Str × As)} {vs : List V} (k : Str) (e : Ex F H) (h : F a = some (.dK ((l.map fun x => (Sum.inr x.1 : Key)).zip vs))) : DGet H a (.str k) (valV ((l.map fun x => (Sum.inr x.1 : Key)).zip vs) (Sum.inr k)) := DGet.k (k := Sum.inr k) (e a _ h)
theorem dget_t {H : Hp} {F : Hp} {a b : Addr} {l : List (List Str × As)} {vs : List V} {k : List Str} (e : Ex F H) (h : F a = some (.dT ((l.map fun x => kT x.1).zip vs))) (hb : H b = some (.tup (k.map V.str))) : DGet H a (.ref b) (valV ((l.map fun x => kT x.1).zip vs) (kT k)) := DGet.t (e a _ h) (by rw [kT_kV]; exact hb)
theorem strs_at {F : Hp} {k : List Str} {v : V} (h : (tupA (k.map str)).p F v) : ∃ b, v = .ref b ∧ F b = some (.tup (k.map V.str)) := by
  obtain ⟨b, xs, e, h1, h2⟩ := h
  have e2 : xs = k.map V.str := AllV.scs (F := F) (by rw [List.map_map]; exact h2)
  exact ⟨b, e, by rw [h1, e2]⟩
theorem strs_of {F : Hp} {k : List Str} {b : Addr} (h : F b = some (.tup (k.map V.str))) : (tupA (k.map str)).p F (.ref b) := ⟨b, _, rfl, h, by
  have q := AllV.of_scs (F := F) (cs := k.map V.str)
  rw [List.map_map] at q
  exact q⟩
theorem lsts_at {F : Hp} {k : List Str} {v : V} (h : (lstA (k.map str)).p F v) : ∃ b, v = .ref b ∧ F b = some (.lst (k.map V.str)) := by
  obtain ⟨b, xs, e, h1, h2⟩ := h
  have e2 : xs = k.map V.str := AllV.scs (F := F) (by rw [List.map_map]; exact h2)
  exact ⟨b, e, by rw [h1, e2]⟩
theorem lsts_of {F : Hp} {k : List Str} {b : Addr} (h : F b = some (.lst (k.map V.str))) : (lstA (k.map str)).p F (.ref b) := ⟨b, _, rfl, h, by
  have q := AllV.of_scs (F := F) (cs := k.map V.str)
  rw [List.map_map] at q
  exact q⟩
section
variable {X : Cx} {e a b c o i : Expr} {es : List Expr} {ρ : List En} {A B : As} {pos apos : Pos} {k : Nat}
/-- e.f -/
theorem ea_fld {C : Addr} {fs : List (Str × As)} {f : Str} (he : EA X e ρ (insA C fs)) (hC : Cls X.K C) (hn : NoAttr X.K C f) (hf : fs.lookup f = some A) (hb : attributeBase e f X.env (eval e X.env) = eval e X.env := by rfl) : EA X (.Attribute e f pos) ρ A :=
  pe_imp (pe_fld he hb) fun σ H Q ⟨H0, F, S, q⟩ => ⟨H0, F, S, fun v H1 F1 g1 ⟨p, dx, vs, ev, h1, h2⟩ => by
    obtain ⟨u, hu, hA⟩ := zip_lookup h2 hf
    exact ⟨p, C, dx, _, u, ev, g1.i p _ h1, hC, hn, hu, q u H1 F1 g1 hA⟩⟩
/-- d[k] -/
theorem ea_getK {l : List (Str × As)} {s : Str} (hr : Room k X.A) (ho : EA X o ρ (dkA l)) (hi : EW X i ρ (str s)) (hl : l.lookup s = some A) (hs : NoSl i := by exact fun _ _ => rfl) : EA X (.Subscript o i pos) ρ A :=
  pe_imp (pe_dget (hu_of hr) ho hi hs) fun σ H Q ⟨H0, F, S, q⟩ => ⟨H0, F, S, fun v H1 F1 g1 ⟨p, vs, ev, h1, h2⟩ => ⟨H0, F1, S.gr g1, fun y H2 F2 g2 hy => by
    have hy : y = .str s := hy
    subst hy
    obtain ⟨u, hu, hA⟩ := valV_zip (r := (Sum.inr : Str → Key)) inr_inj (h2.mono g2.f) hl
    exact ⟨p, u, ev, hu ▸ dget_k (F := F2) s g2.i (g2.f p _ h1), q u H2 F2 (g1.trans g2) hA⟩⟩⟩
theorem ea_getT {l : List (List Str × As)} {s : List Str} (hr : Room k X.A) (ho : EA X o ρ (dtA l)) (hi : EA X i ρ (tupA (s.map str))) (hl : l.lookup s = some A) (hs : NoSl i := by exact fun _ _ => rfl) : EA X (.Subscript o i pos) ρ A :=
  pe_imp (pe_dget (hu_of hr) ho hi hs) fun σ H Q ⟨H0, F, S, q⟩ => ⟨H0, F, S, fun v H1 F1 g1 ⟨p, vs, ev, h1, h2⟩ => ⟨H0, F1, S.gr g1, fun y H2 F2 g2 hy => by
    obtain ⟨b, rfl, hb⟩ := strs_at hy
    obtain ⟨u, hu, hA⟩ := valV_zip (r := kT) (fun _ _ => kT_inj) (h2.mono g2.f) hl
    exact ⟨p, u, ev, hu ▸ dget_t (F := F2) g2.i (g2.f p _ h1) (g2.i b _ hb), q u H2 F2 (g1.trans g2) hA⟩⟩⟩
/-- k in d, k not in d -/
theorem et_inK {l : List (Str × As)} {s : Str} (hr : Room k X.A) (hi : EW X i ρ (str s)) (ho : EA X o ρ (dkA l)) (hm : behindInMarks .In o = false) : ET X (.Compare i [.In] [o] pos) ρ (l.lookup s).isSome :=
  pt_imp (pt_cmp (pc_din (hu_of hr) hi ho) hm) fun σ H Q ⟨H0, F, S, q⟩ => ⟨H0, F, S, fun y H1 F1 g1 hy => ⟨H0, F1, S.gr g1, fun v H2 F2 g2 ⟨p, vs, ev, h1, h2⟩ => by
    have hy : y = .str s := hy
    subst hy
    refine ⟨p, _, ev, dget_k (F := F2) s g2.i h1, ?_⟩
    have z : (valV ((l.map fun x => (Sum.inr x.1 : Key)).zip vs) (Sum.inr s)).isSome = (l.lookup s).isSome := by
      cases hl : l.lookup s with
      | none =>
        rw [valV_nozip (r := (Sum.inr : Str → Key)) inr_inj h2 hl]
        rfl
      | some A =>
        obtain ⟨u, hu, _⟩ := valV_zip (r := (Sum.inr : Str → Key)) inr_inj h2 hl
        rw [hu]; rfl
    rw [z]
    exact ⟨_, rfl, q H2 F2 (g1.trans g2)⟩⟩⟩
theorem et_notinK {l : List (Str × As)} {s : Str} (hr : Room k X.A) (hi : EW X i ρ (str s)) (ho : EA X o ρ (dkA l)) (hm : behindInMarks .NotIn o = false) : ET X (.Compare i [.NotIn] [o] pos) ρ (!(l.lookup s).isSome) :=
  pt_imp (pt_cmp (pc_dnotin (hu_of hr) hi ho) hm) fun σ H Q ⟨H0, F, S, q⟩ => ⟨H0, F, S, fun y H1 F1 g1 hy => ⟨H0, F1, S.gr g1, fun v H2 F2 g2 ⟨p, vs, ev, h1, h2⟩ => by
    have hy : y = .str s := hy
    subst hy
    refine ⟨p, _, ev, dget_k (F := F2) s g2.i h1, ?_⟩
    have z : (valV ((l.map fun x => (Sum.inr x.1 : Key)).zip vs) (Sum.inr s)).isSome = (l.lookup s).isSome := by
      cases hl : l.lookup s with
      | none =>
        rw [valV_nozip (r := (Sum.inr : Str → Key)) inr_inj h2 hl]
        rfl
      | some A =>
        obtain ⟨u, hu, _⟩ := valV_zip (r := (Sum.inr : Str → Key)) inr_inj h2 hl
        rw [hu]; rfl
    rw [z]
    exact ⟨_, rfl, q H2 F2 (g1.trans g2)⟩⟩⟩
theorem et_notinT {l : List (List Str × As)} {s : List Str} (hr : Room k X.A) (hi : EA X i ρ (tupA (s.map str))) (ho : EA X o ρ (dtA l)) (hm : behindInMarks .NotIn o = false) : ET X (.Compare i [.NotIn] [o] pos) ρ (!(l.lookup s).isSome) :=
  pt_imp (pt_cmp (pc_dnotin (hu_of hr) hi ho) hm) fun σ H Q ⟨H0, F, S, q⟩ => ⟨H0, F, S, fun y H1 F1 g1 hy => ⟨H0, F1, S.gr g1, fun v H2 F2 g2 ⟨p, vs, ev, h1, h2⟩ => by
    obtain ⟨b, rfl, hb⟩ := strs_at hy
    refine ⟨p, _, ev, dget_t (F := F2) g2.i h1 (g2.h b _ (g1.i b _ hb)), ?_⟩
    have z : (valV ((l.map fun x => kT x.1).zip vs) (kT s)).isSome = (l.lookup s).isSome := by
      cases hl : l.lookup s with
      | none =>
        rw [valV_nozip (r := kT) (fun _ _ => kT_inj) h2 hl]
        rfl
      | some A =>
        obtain ⟨u, hu, _⟩ := valV_zip (r := kT) (fun _ _ => kT_inj) h2 hl
        rw [hu]; rfl
    rw [z]
    exact ⟨_, rfl, q H2 F2 (g1.trans g2)⟩⟩⟩
/-- a <= b <= c -/
theorem ea_chainLe {x y z : Int} (ha : EW X a ρ (int x)) (hb : EW X b ρ (int y)) (hc : EW X c ρ (int z)) (hm : lastMarks [.LtE, .LtE] [b, c] = false) : EA X (.Compare a [.LtE, .LtE] [b, c] pos) ρ (bl (decide (x ≤ y) && decide (y ≤ z))) :=
  pe_imp (pe_chain op_le op_le ha hb hc hm) fun σ H Q ⟨H0, F, S, q⟩ => ⟨H0, F, S, fun v H1 F1 g1 h1 => ⟨H0, F1, S.gr g1, fun u H2 F2 g2 h2 => by
    have h1 : v = .int x := h1
    have h2 : u = .int y := h2
    subst h1 h2
    refine ⟨x, y, rfl, rfl, _, rfl, ?_⟩
    have g := g1.trans g2
    by_cases hxy : x ≤ y
    · rw [if_pos (decide_eq_true hxy)]
      refine ⟨H0, F2, (S.gr g1).gr g2, fun t H3 F3 g3 h3 => ?_⟩
      have h3 : t = .int z := h3
      subst h3
      refine ⟨y, z, rfl, rfl, q _ H3 F3 (g.trans g3) ?_⟩
      show V.bl _ = V.bl _
      rw [decide_eq_true hxy, Bool.true_and]
    · rw [if_neg (by simpa using hxy)]
      refine q _ H2 F2 g ?_
      show V.bl _ = V.bl _
      rw [decide_eq_false hxy, Bool.false_and]⟩⟩
theorem ea_isascii {s : Str} (he : EW X e ρ (str s)) (hbase : attributeBase e "isascii" X.env (eval e X.env) = eval e X.env := by rfl) (hline : (apos.endLine == pos.line) = true := by rfl) : EA X (.Call (.Attribute e "isascii" apos) [] [] pos) ρ (bl (Txt.isascii s)) :=
  pe_imp (pe_bm0 PySem.F.plainAttrs_str PySem.F.slot_str_isascii PySem.F.type_str_isascii mt_isascii he hbase hline) fun σ H Q ⟨H0, F, S, q⟩ => ⟨H0, F, S, fun v H1 F1 g1 h1 => by
    have h1 : v = .str s := h1
    subst h1
    exact ⟨by first | exact .inl ⟨_, rfl⟩ | exact .inr (.inl ⟨_, rfl⟩) | exact ⟨_, rfl⟩ | trivial | rfl, s, rfl, rfl, trivial, q _ H1 F1 g1 rfl⟩⟩
theorem ea_isalnum {s : Str} (he : EW X e ρ (str s)) (hbase : attributeBase e "isalnum" X.env (eval e X.env) = eval e X.env := by rfl) (hline : (apos.endLine == pos.line) = true := by rfl) : EA X (.Call (.Attribute e "isalnum" apos) [] [] pos) ρ (bl (Txt.isalnum s)) :=
  pe_imp (pe_bm0 PySem.F.plainAttrs_str PySem.F.slot_str_isalnum PySem.F.type_str_isalnum mt_isalnum he hbase hline) fun σ H Q ⟨H0, F, S, q⟩ => ⟨H0, F, S, fun v H1 F1 g1 h1 => by
    have h1 : v = .str s := h1
    subst h1
    exact ⟨by first | exact .inl ⟨_, rfl⟩ | exact .inr (.inl ⟨_, rfl⟩) | exact ⟨_, rfl⟩ | trivial | rfl, s, rfl, rfl, trivial, q _ H1 F1 g1 rfl⟩⟩
end
end Lk

set_option Elab.async false
set_option linter.all false
set_option maxRecDepth 100000
set_option maxHeartbeats 4000000
namespace Lk
open PySem PySem.Calls L2 PySem.Spec PyProof.Rows

/-! ### methods of a class -/
structure Mf (P : Program) (w : World) (K : PySem.W.Frag) (mg : Str → Option Value) (base : Heap) (k : Nat) (C : Addr) (m : Str) (ps : List Str) (sp : Sp) : Prop where
  ex : ∃ f fd, FnOk P w K mg base CX0 k f fd ps sp ∧ Meth K C m f ∧ Binds K fd ps []
theorem Mf.mono {P : Program} {w : World} {K : PySem.W.Frag} {mg : Str → Option Value} {base : Heap} {j k : Nat} {C : Addr} {x : Str} {ps : List Str} {sp : Sp} (D : Mf P w K mg base j C x ps sp) (h : j ≤ k) : Mf P w K mg base k C x ps sp :=
  let ⟨f, fd, h1, h2⟩ := D.ex
  ⟨f, fd, h1.mono h, h2⟩
structure Pf (P : Program) (w : World) (K : PySem.W.Frag) (mg : Str → Option Value) (base : Heap) (k : Nat) (C : Addr) (m : Str) (sp : Sp) : Prop where
  ex : ∃ p g fd, FnOk P w K mg base CX0 k g fd ["self"] sp ∧ PropOf K C m p g ∧ Binds K fd ["self"] []
structure Mk1 (P : Program) (w : World) (K : PySem.W.Frag) (mg : Str → Option Value) (base : Heap) (k : Nat) (C : Addr) (x : Str) (ps : List Str) (sp : Sp) : Prop where
  ex : ∃ f fd, FnOk P w K mg base CX0 k f fd ps sp ∧ Mk K C f ∧ Binds K fd ps [] ∧ mg x = some (.ref C)
/-- what a constructor promises: H1 the heap before -/
def spMk {ι : Type} (C : Addr) (pre : ι → Prop) (l : ι → List As) (A : ι → As) : Sp := fun vs H Q _ => ∃ i, pre i ∧ ∃ (H1 F : Hp) (p dx : Addr) (as : List V), vs = .ref p :: as ∧ H = upd (upd H1 dx (.own p)) p (.ins C dx []) ∧ H1 p = none ∧ H1 dx = none ∧ dx ≠ p ∧ Ex F H1 ∧ AllV F as (l i) ∧
  ∀ H' F', Gr F H1 F' H' → (A i).p F' (.ref p) → Q .non H'
section
variable {X : Cx} {e a b c o : Expr} {es : List Expr} {ρ : List En} {A B : As} {pos apos p1 : Pos} {k : Nat} {ι : Type} {pre : ι → Prop} {l : ι → List As} {AA : ι → As} {ps : List Str} {C : Addr} {m x : Str} {fs : List (Str × As)} {la : List As}
theorem ea_meth {pl : Sem Bool} (D : Mf X.prog X.w X.K X.mg X.base k C m ps (spX pre l AA)) (hr : Room k X.A) (hC : Cls X.K C) (i : ι) (hp : pre i) (ho : EA X o ρ (insA C fs)) (hm : fs.lookup m = none) (ha : EAs X (e :: es) ρ la) (hl : l i = insA C fs :: la)
    (he : starEach (e :: es) X.env = (false, eval e X.env) :: starEach es X.env := by rfl) (hpl : (backTo pos (starEach es X.env)).any (·.1) = false := by rfl)
    (hev : eval (.Call (.Attribute o m apos) (e :: es) [] pos) X.env = (do
      let ov ← eval o X.env
      standAt apos.atName
      let (f, first) ← holding [ov] (getMethod ov m pl)
      callWith pos f first (backTo pos (starEach (e :: es) X.env)) (backToKw pos (keywordEach [] X.env))) := by rfl) : EA X (.Call (.Attribute o m apos) (e :: es) [] pos) ρ (AA i) := by
  obtain ⟨f, fd, G, hM, hb⟩ := D.ex
  refine pe_imp (pe_meth ho hC hM G hr hb .nil pass0 ha he hpl hev) fun σ H Q ⟨H0, F, S, q⟩ => ⟨H0, F, S, fun v H1 F1 g1 ⟨p, dx, vs, ev, h1, h2⟩ => ⟨p, dx, _, ev, g1.i p _ h1, zip_nolook h2 hm, H0, F1, S.gr g1, fun us H2 F2 g2 hu => ?_⟩⟩
  show spX pre l AA (v :: (us ++ [])) H2 Q E0
  rw [List.append_nil]
  refine ⟨i, hp, F2, g2.i, ?_, fun v H' F' g hv => q v H' F' ((g1.trans g2).trans g) hv⟩
  rw [hl]
  exact ⟨(insA C fs).mono g2.f ⟨p, dx, vs, ev, h1, h2⟩, hu⟩
theorem ea_prop (D : Pf X.prog X.w X.K X.mg X.base k C m (spX pre l AA)) (hr : Room (k + 1) X.A) (hC : Cls X.K C) (i : ι) (hp : pre i) (ho : EA X o ρ (insA C fs)) (hl : l i = [insA C fs])
    (hab : attributeBase o m X.env (eval o X.env) = eval o X.env := by rfl) : EA X (.Attribute o m pos) ρ (AA i) := by
  obtain ⟨p, g, fd, G, hP, hb⟩ := D.ex
  refine pe_imp (pe_prop ho hC hP G hr hb .nil pass0 hab) fun σ H Q ⟨H0, F, S, q⟩ => ⟨H0, F, S, fun v H1 F1 g1 ⟨p, dx, vs, ev, h1, h2⟩ => ⟨p, dx, _, ev, g1.i p _ h1, i, hp, F1, g1.i, ?_, fun v H' F' g hv => q v H' F' (g1.trans g) hv⟩⟩
  rw [hl]
  exact ⟨⟨p, dx, vs, rfl, h1, h2⟩, trivial⟩
theorem ea_propB (D : Pf X.prog X.w X.K X.mg X.base k C m (spX pre l AA)) (hr : Room (k + 1) X.A) (hC : Cls X.K C) (i : ι) (hp : pre i) (hA : AA i = A) (ho : EA X o ρ (insA C fs)) (hl : l i = [insA C fs])
    (hab : attributeBase o m X.env (eval o X.env) = eval o X.env := by rfl) : EA X (.Attribute o m pos) ρ A := hA ▸ ea_prop D hr hC i hp ho hl hab
theorem ea_methB {pl : Sem Bool} (D : Mf X.prog X.w X.K X.mg X.base k C m ps (spX pre l AA)) (hr : Room k X.A) (hC : Cls X.K C) (i : ι) (hp : pre i) (hA : AA i = A) (ho : EA X o ρ (insA C fs)) (hm : fs.lookup m = none) (ha : EAs X (e :: es) ρ la) (hl : l i = insA C fs :: la)
    (he : starEach (e :: es) X.env = (false, eval e X.env) :: starEach es X.env := by rfl) (hpl : (backTo pos (starEach es X.env)).any (·.1) = false := by rfl)
    (hev : eval (.Call (.Attribute o m apos) (e :: es) [] pos) X.env = (do
      let ov ← eval o X.env
      standAt apos.atName
      let (f, first) ← holding [ov] (getMethod ov m pl)
      callWith pos f first (backTo pos (starEach (e :: es) X.env)) (backToKw pos (keywordEach [] X.env))) := by rfl) : EA X (.Call (.Attribute o m apos) (e :: es) [] pos) ρ A := hA ▸ ea_meth D hr hC i hp ho hm ha hl he hpl hev
theorem make_end {i : ι} {C : Addr} {F H1 H : Hp} {σ : L2.St} {Q : VK} {as : List V} (hp : pre i) (e : Ex F H1) (ha : AllV F as (l i)) (q : ∀ v H' F', Gr F H1 F' H' → (AA i).p F' v → Q v H') :
    ∀ x dx, H1 x = none → H1 dx = none → dx ≠ x → spMk C pre l AA (.ref x :: (as ++ [])) (upd (upd H1 dx (.own x)) x (.ins C dx [])) (fun v H2 => v = .non ∧ Q (.ref x) H2) E0 := fun x dx hx hdx hne =>
  ⟨i, hp, H1, F, x, dx, as, by rw [List.append_nil], rfl, hx, hdx, hne, e, ha, fun H' F' g hA => ⟨rfl, q _ H' F' g hA⟩⟩
theorem ea_make (D : Mk1 X.prog X.w X.K X.mg X.base k C x ps (spMk C pre l AA)) (hr : Room (k + 1) X.A) (i : ι) (hp : pre i) (ha : EAs X (e :: es) ρ (l i)) (hg : Gl X x := by rfl)
    (hdb : (x == ("__debug__" : Str)) = false := by decide) (he : starEach (e :: es) X.env = (false, eval e X.env) :: starEach es X.env := by rfl) (hpl : (backTo pos (starEach es X.env)).any (·.1) = false := by rfl) : EA X (.Call (.Name x p1) (e :: es) [] pos) ρ (AA i) := by
  obtain ⟨f, fd, G, hM, hb, hm⟩ := D.ex
  exact pe_imp (pe_make hM G hr hg hm hb .nil pass0 ha hdb he hpl) fun σ H Q ⟨H0, F, S, q⟩ => ⟨H0, F, S, fun us H1 F1 g1 hu => make_end (H := H) (σ := σ) hp g1.i hu fun v H' F' g hv => q v H' F' (g1.trans g) hv⟩
theorem ea_make0 (D : Mk1 X.prog X.w X.K X.mg X.base k C x ps (spMk C pre l AA)) (hr : Room (k + 1) X.A) (i : ι) (hp : pre i) (hl : l i = []) (hg : Gl X x := by rfl)
    (hdb : (x == ("__debug__" : Str)) = false := by decide) : EA X (.Call (.Name x p1) [] [] pos) ρ (AA i) := by
  obtain ⟨f, fd, G, hM, hb, hm⟩ := D.ex
  exact pe_imp (pe_make0 hM G hr hg hm hb .nil pass0 hdb) fun σ H Q ⟨H0, F, S, q⟩ => make_end (as := []) (H := H) (σ := σ) hp S.ex (by rw [hl]; trivial) q
theorem ea_makeB (D : Mk1 X.prog X.w X.K X.mg X.base k C x ps (spMk C pre l AA)) (hr : Room (k + 1) X.A) (i : ι) (hp : pre i) (hA : AA i = A) (ha : EAs X (e :: es) ρ (l i)) (hg : Gl X x := by rfl)
    (hdb : (x == ("__debug__" : Str)) = false := by decide) (he : starEach (e :: es) X.env = (false, eval e X.env) :: starEach es X.env := by rfl) (hpl : (backTo pos (starEach es X.env)).any (·.1) = false := by rfl) : EA X (.Call (.Name x p1) (e :: es) [] pos) ρ A := hA ▸ ea_make D hr i hp ha hg hdb he hpl
theorem ea_make0B (D : Mk1 X.prog X.w X.K X.mg X.base k C x ps (spMk C pre l AA)) (hr : Room (k + 1) X.A) (i : ι) (hp : pre i) (hA : AA i = A) (hl : l i = []) (hg : Gl X x := by rfl)
    (hdb : (x == ("__debug__" : Str)) = false := by decide) : EA X (.Call (.Name x p1) [] [] pos) ρ A := hA ▸ ea_make0 D hr i hp hl hg hdb
/-! ### in, by an own __contains__ -/
theorem op_inO {CX : CXT} {f : Addr} {fd : FuncData} {sp : Sp} {E : XK} (G : FnOk X.prog X.w X.K X.mg X.base CX k f fd ps sp) (hr : Room k X.A) (hs : PySem.W.findIn X.K (.ref C) "__contains__" = some (some (.ref f))) (hf : PySem.W.isFn X.K (.ref f) = true) (hb : Binds X.K fd ps []) (hx : Passes CX X E) :
    OpR X (compareOp .In) (fun x y H Q => ∃ a dx fs, y = .ref a ∧ H a = some (.ins C dx fs) ∧ sp [.ref a, x] H (fun v H' => ∃ b, v = .bl b ∧ Q (.bl b) H') E) := by
  intro pins s σ H x y v u Q I rx ry hq
  obtain ⟨a, dx, fs, rfl, ha, hsp⟩ := hq
  cases ry
  obtain ⟨mA, J, _⟩ := ins_get I.hok ha
  obtain ⟨od, J, _⟩ := J.look
  obtain ⟨m, hF⟩ := I.fr
  refine PySem.W.in_K hF I.ok.mod.kin J hs hf ?_
  have hl := G.len _ _ _ _ hsp
  have r2 : Vals [V.ref a, x] [Value.ref a, v] := .cons rfl (.cons rx .nil)
  refine wpAny_call (codeAny_mono (G.run X.A X.stack s H ⟨[.ref a, v], []⟩ [.ref a, v] [.ref a, x] _ E hr I.env0 (by
    have := hb s [.ref a, v] I.kIn (by simpa using hl)
    simpa using this) r2 hsp) fun r s' hq => ?_)
  cases r with
  | error e => exact hx pins σ H s e s' I hq
  | ok fl =>
    cases fl with
    | ret w =>
      obtain ⟨z, H', I', rz, b, ez, q⟩ := I.after hq
      subst ez
      cases rz
      exact wpAny_truthy_bool ⟨.bl b, H', I', rfl, q⟩
    | next => exact False.elim hq
    | brk => exact False.elim hq
    | cont => exact False.elim hq
theorem op_notinO {CX : CXT} {f : Addr} {fd : FuncData} {sp : Sp} {E : XK} (G : FnOk X.prog X.w X.K X.mg X.base CX k f fd ps sp) (hr : Room k X.A) (hs : PySem.W.findIn X.K (.ref C) "__contains__" = some (some (.ref f))) (hf : PySem.W.isFn X.K (.ref f) = true) (hb : Binds X.K fd ps []) (hx : Passes CX X E) :
    OpR X (compareOp .NotIn) (fun x y H Q => ∃ a dx fs, y = .ref a ∧ H a = some (.ins C dx fs) ∧ sp [.ref a, x] H (fun v H' => ∃ b, v = .bl b ∧ Q (.bl (!b)) H') E) := by
  intro pins s σ H x y v u Q I rx ry hq
  obtain ⟨a, dx, fs, rfl, ha, hsp⟩ := hq
  cases ry
  obtain ⟨mA, J, _⟩ := ins_get I.hok ha
  obtain ⟨od, J, _⟩ := J.look
  obtain ⟨m, hF⟩ := I.fr
  refine PySem.W.notIn_K hF I.ok.mod.kin J hs hf ?_
  have hl := G.len _ _ _ _ hsp
  have r2 : Vals [V.ref a, x] [Value.ref a, v] := .cons rfl (.cons rx .nil)
  refine wpAny_call (codeAny_mono (G.run X.A X.stack s H ⟨[.ref a, v], []⟩ [.ref a, v] [.ref a, x] _ E hr I.env0 (by
    have := hb s [.ref a, v] I.kIn (by simpa using hl)
    simpa using this) r2 hsp) fun r s' hq => ?_)
  cases r with
  | error e => exact hx pins σ H s e s' I hq
  | ok fl =>
    cases fl with
    | ret w =>
      obtain ⟨z, H', I', rz, b, ez, q⟩ := I.after hq
      subst ez
      cases rz
      exact wpAny_truthy_bool ⟨.bl (!b), H', I', rfl, q⟩
    | next => exact False.elim hq
    | brk => exact False.elim hq
    | cont => exact False.elim hq
theorem et_inO {bb : Bool} (D : Mf X.prog X.w X.K X.mg X.base k C "__contains__" ps (spX pre l AA)) (hr : Room k X.A) (i : ι) (hp : pre i) (ha : EA X a ρ A) (ho : EA X o ρ (insA C fs)) (hl : l i = [insA C fs, A]) (hA : AA i = bl bb) (hm : behindInMarks .In o = false) : ET X (.Compare a [.In] [o] pos) ρ bb := by
  obtain ⟨f, fd, G, hM, hb⟩ := D.ex
  refine pt_imp (pt_cmpR (op_inO G hr hM.at_ hM.fn hb pass0) ha ho hm) fun σ H Q ⟨H0, F, S, q⟩ => ⟨H0, F, S, fun x H1 F1 g1 h1 => ⟨H0, F1, S.gr g1, fun y H2 F2 g2 ⟨p, dx, vs, ev, z1, z2⟩ => ⟨p, dx, _, ev, g2.i p _ z1, i, hp, F2, g2.i, ?_, fun v H' F' g hv => ?_⟩⟩⟩
  · rw [hl]
    exact ⟨⟨p, dx, vs, rfl, z1, z2⟩, A.mono g2.f h1, trivial⟩
  · rw [hA] at hv
    exact ⟨bb, hv, bb, rfl, q H' F' ((g1.trans g2).trans g)⟩
theorem et_notinO {bb : Bool} (D : Mf X.prog X.w X.K X.mg X.base k C "__contains__" ps (spX pre l AA)) (hr : Room k X.A) (i : ι) (hp : pre i) (ha : EA X a ρ A) (ho : EA X o ρ (insA C fs)) (hl : l i = [insA C fs, A]) (hA : AA i = bl bb) (hm : behindInMarks .NotIn o = false) : ET X (.Compare a [.NotIn] [o] pos) ρ (!bb) := by
  obtain ⟨f, fd, G, hM, hb⟩ := D.ex
  refine pt_imp (pt_cmpR (op_notinO G hr hM.at_ hM.fn hb pass0) ha ho hm) fun σ H Q ⟨H0, F, S, q⟩ => ⟨H0, F, S, fun x H1 F1 g1 h1 => ⟨H0, F1, S.gr g1, fun y H2 F2 g2 ⟨p, dx, vs, ev, z1, z2⟩ => ⟨p, dx, _, ev, g2.i p _ z1, i, hp, F2, g2.i, ?_, fun v H' F' g hv => ?_⟩⟩⟩
  · rw [hl]
    exact ⟨⟨p, dx, vs, rfl, z1, z2⟩, A.mono g2.f h1, trivial⟩
  · rw [hA] at hv
    exact ⟨bb, hv, !bb, rfl, q H' F' ((g1.trans g2).trans g)⟩
theorem ea_inO {bb : Bool} (D : Mf X.prog X.w X.K X.mg X.base k C "__contains__" ps (spX pre l AA)) (hr : Room k X.A) (i : ι) (hp : pre i) (ha : EA X a ρ A) (ho : EA X o ρ (insA C fs)) (hl : l i = [insA C fs, A]) (hA : AA i = bl bb) (hm : behindInMarks .In o = false) : EA X (.Compare a [.In] [o] pos) ρ (bl bb) := by
  obtain ⟨f, fd, G, hM, hb⟩ := D.ex
  refine pe_imp (pe_cmpR (op_inO G hr hM.at_ hM.fn hb pass0) ha ho hm) fun σ H Q ⟨H0, F, S, q⟩ => ⟨H0, F, S, fun x H1 F1 g1 h1 => ⟨H0, F1, S.gr g1, fun y H2 F2 g2 ⟨p, dx, vs, ev, z1, z2⟩ => ⟨p, dx, _, ev, g2.i p _ z1, i, hp, F2, g2.i, ?_, fun v H' F' g hv => ?_⟩⟩⟩
  · rw [hl]
    exact ⟨⟨p, dx, vs, rfl, z1, z2⟩, A.mono g2.f h1, trivial⟩
  · rw [hA] at hv
    exact ⟨bb, hv, q _ H' F' ((g1.trans g2).trans g) rfl⟩
/-- ( .., *t, ..) -/
theorem eas_star (he : EA X e ρ (tupA la)) (hr : EAs X es ρ lb) {sp : Pos} (hs : starEach (.Starred e sp :: es) X.env = (true, eval e X.env) :: starEach es X.env := by rfl) : EAs X (.Starred e sp :: es) ρ (la ++ lb) :=
  pa_imp (StX.pa_star he hr hs) fun σ H Q ⟨H0, F, S, q⟩ => ⟨H0, F, S, fun v H1 F1 g1 ⟨p, xs, ev, h1, h2⟩ => ⟨p, xs, ev, .inl (SqT.of (g1.i p _ h1)), H0, F1, S.gr g1, fun vs H2 F2 g2 hv => q _ H2 F2 (g1.trans g2) ((h2.mono g2.f).append hv)⟩⟩
end
end Lk

set_option Elab.async false
set_option linter.all false
set_option maxRecDepth 100000
set_option maxHeartbeats 4000000
namespace Lk
open PySem PySem.Calls L2
/-! ### sources that stay; comprehensions over them -/
/-- J goes over xs as long as G holds -/
def Src (J : It) (xs : List V) (G : Hp → Prop) : Prop := ∀ i H, G H → (∀ x, xs[i]? = some x → J.go i H) ∧ (i < xs.length → ∀ x H', J.yld i H x H' → H' = H ∧ xs[i]? = some x) ∧ (xs.length ≤ i → J.stop i H)
theorem it_walk {J : It} {G : Hp → Prop} {xs : List V} {Hs : Hp} {T : V → Hp → (Hp → Prop) → Prop} {Fin : Hp → Prop} (s : Src J xs G) (Pv : Nat → Hp → Prop) (h0 : Pv 0 Hs) (hl : ∀ i H, i ≤ xs.length → Pv i H → G H)
    (hs : ∀ i x H, xs[i]? = some x → Pv i H → T x H (Pv (i + 1))) (hd : ∀ H, Pv xs.length H → Fin H) :
    ∃ W : Nat → Nat → Hp → Prop, (∃ m, W 0 m Hs) ∧ ∀ i m H, W i m H → (J.stop i H ∧ Fin H) ∨ (J.go i H ∧ ∃ Nx : Hp → Prop, (∀ H', Nx H' → ∃ m', m' < m ∧ W (i + 1) m' H') ∧ ∀ x H', J.yld i H x H' → T x H' Nx) := by
  refine ⟨fun i m H => m = xs.length - i ∧ i ≤ xs.length ∧ Pv i H, ⟨xs.length, by simp, Nat.zero_le _, h0⟩, ?_⟩
  rintro i m H ⟨rfl, hi, p⟩
  obtain ⟨s1, s2, s3⟩ := s i H (hl i H hi p)
  by_cases hlt : i < xs.length
  · refine .inr ⟨s1 xs[i] (by simp [hlt]), Pv (i + 1), fun H' p' => ⟨xs.length - (i + 1), by omega, rfl, hlt, p'⟩, fun x H' y => ?_⟩
    obtain ⟨e, y2⟩ := s2 hlt x H' y
    subst e
    exact hs i x _ y2 p
  · have e : i = xs.length := by omega
    subst e
    exact .inl ⟨s3 (Nat.le_refl _), hd H p⟩
def iS (ρ : List En) (l : List As) : TI := fun σ H R => ∃ H0 F, Sat H0 F σ H ρ ∧ ∀ J G xs H1 F1, Gr F H F1 H1 → AllV F1 xs l → Src J xs G → (∀ H', Ex F1 H' → G H') → R J H1
abbrev ES (X : Cx) (tg it : Expr) (ρ : List En) (l : List As) : Prop := PI X tg it (iS ρ l)
theorem pi_imp {X : Cx} {tg it : Expr} {t t' : TI} (h : PI X tg it t) (i : ∀ σ H R, t' σ H R → t σ H R) : PI X tg it t' := ⟨fun pins s σ H R I q => h.run pins s σ H R I (i σ H R q)⟩
theorem src_l {K : PySem.W.Frag} {a : Addr} {xs : List V} : Src (Itl K a) xs (fun H => SqL K H a xs) := fun i H q => ⟨fun x hx => ⟨xs, x, q, hx⟩, fun _ x H' y => ⟨y.1, y.2 xs q⟩, fun z => ⟨xs, q, z⟩⟩
theorem src_t {K : PySem.W.Frag} {a : Addr} {xs : List V} : Src (Itt K a) xs (fun H => SqT K H a xs) := fun i H q => ⟨fun x hx => ⟨xs, x, q, hx⟩, fun _ x H' y => ⟨y.1, y.2 xs q⟩, fun z => ⟨xs, q, z⟩⟩
section
variable {X : Cx} {tg it a b c : Expr} {ρ : List En} {l : List As} {p1 p2 : Pos}
theorem es_l (h : EA X it ρ (lstA l)) : ES X tg it ρ l := pi_imp (pi_list h) fun σ H R ⟨H0, F, S, k⟩ => ⟨H0, F, S, fun v H1 F1 g1 ⟨a, xs, ev, h1, h2⟩ => ⟨a, ev, ⟨xs, SqL.of (g1.i a _ h1)⟩, k _ _ xs H1 F1 g1 h2 src_l fun H' e => SqL.of (e a _ h1)⟩⟩
theorem es_t (h : EA X it ρ (tupA l)) : ES X tg it ρ l := pi_imp (pi_tup h) fun σ H R ⟨H0, F, S, k⟩ => ⟨H0, F, S, fun v H1 F1 g1 ⟨a, xs, ev, h1, h2⟩ => ⟨a, ev, ⟨xs, SqT.of (g1.i a _ h1)⟩, k _ _ xs H1 F1 g1 h2 src_t fun H' e => SqT.of (e a _ h1)⟩⟩
theorem es_rng3 {i j d : Int} {n : Nat} (hm : X.mg "range" = none) (h : EAs X [a, b, c] ρ [int i, int j, int d]) (hc : RgC i j d n) (hg : Gl X "range" := by rfl)
    (hs : starEach [a, b, c] X.env = (false, eval a X.env) :: starEach [b, c] X.env := by rfl) (hpl : (backTo p2 (starEach [b, c] X.env)).any (·.1) = false := by rfl) : ES X tg (.Call (.Name "range" p1) [a, b, c] [] p2) ρ ((List.range n).map fun k : Nat => int (i + (k : Int) * d)) :=
  pi_imp (pi_range3 hg hm h hs hpl) fun σ H R ⟨H0, F, S, k⟩ => ⟨H0, F, S, fun vs H1 F1 g1 h1 => by
    have e : vs = [.int i, .int j, .int d] := by
      match vs, h1 with
      | [x, y, z], ⟨h1, h2, h3, _⟩ =>
        rw [show x = .int i from h1, show y = .int j from h2, show z = .int d from h3]
    refine ⟨i, j, d, n, e, hc, k _ (fun _ => True) ((List.range n).map fun k : Nat => V.int (i + (k : Int) * d)) H1 F1 g1 ?_ ?_ fun _ _ => trivial⟩
    · have q := AllV.of_scs (F := F1) (cs := (List.range n).map fun k : Nat => V.int (i + (k : Int) * d))
      rw [List.map_map] at q
      exact q
    · refine fun m H _ => ⟨fun x hx => ?_, fun hm x H' y => ?_, fun z => ?_⟩
      · have z := (List.getElem?_eq_some_iff.mp hx).1
        rw [List.length_map, List.length_range] at z
        exact z
      · rw [List.length_map, List.length_range] at hm
        refine ⟨y.1, ?_⟩
        rw [List.getElem?_map, List.getElem?_range hm, y.2]
        rfl
      · rw [List.length_map, List.length_range] at z
        exact z⟩
end
section
variable {α β : Type}
/-- one for -/
theorem tlc_src {σ : L2.St} {H : Hp} {Q : VK} {ρ : List En} {l : List α} {enc : α → As} {p : α → Bool} {g : α → As} {vs : List Nat} {j : Nat} (hj : j ∈ vs) (hz : l.length < sizeLine) (h : tN ρ ((l.filter p).map g) σ H Q) :
    tLc (iS ρ (l.map enc)) (gName j) (tTc (fun a => (wipeE ρ vs).set j (.fr (enc a))) l p) (tEc (fun a => (wipeE ρ vs).set j (.fr (enc a))) l p g) vs σ H Q := by
  obtain ⟨H0, F, S, k⟩ := h
  refine ⟨H0, F, S, fun J So xs H1 F1 g1 h2 hJ hS D hD => ?_⟩
  have hlen : xs.length = l.length := by rw [h2.length, List.length_map]
  refine it_walk (xs := xs) hJ (fun i H' => Lcs F1 H1 D l p g i H') ⟨F1, [], .newH g1.i hD, g1.i.none hD, upd_same, by simp [AllV]⟩ (fun i H' _ L => ?_) (fun i x H' hx L => ?_) (fun H' L => ?_)
  · obtain ⟨F', acc, G, _⟩ := L.ex
    exact hS H' (G.f.trans G.i)
  · have hi : i < l.length := by
      have z := (List.getElem?_eq_some_iff.mp hx).1
      omega
    have ha : l[i]? = some l[i] := List.getElem?_eq_getElem hi
    obtain ⟨u, hu, hA⟩ := h2.get (i := i) (A := enc l[i]) (by rw [List.getElem?_map, ha]; rfl)
    rw [hx] at hu
    have e : x = u := by simpa using hu
    subst e
    exact lcs_turn (H00 := H) (F00 := F) hj ha hz (S.gr g1) hA L hD
  · rw [hlen] at L
    obtain ⟨F', acc, G, fD, hDl, hall⟩ := L.ex
    rw [List.take_length] at hall
    exact k D acc H' F' (g1.trans G) (g1.h.none hD) fD hDl hall
/-- two fors -/
def iS2 (ρ : α → List En) (l : List α) (m : α → List As) : TI := fun σ H R => ∃ a, a ∈ l ∧ iS (ρ a) (m a) σ H R
def tE2 (ρ : α → β → List En) (l : List α) (m : α → List β) (g : α → β → As) : TE := fun σ H Q => ∃ a b, a ∈ l ∧ b ∈ m a ∧ tA (ρ a b) (g a b) σ H Q
def tT2 (ρ : α → β → List En) (l : List α) (m : α → List β) : TT := fun σ H Q => ∃ a b, a ∈ l ∧ b ∈ m a ∧ tTs (ρ a b) true σ H Q
def tT1 (ρ : α → List En) (l : List α) : TT := fun σ H Q => ∃ a, a ∈ l ∧ tTs (ρ a) true σ H Q
theorem flatMap_take {γ : Type} {l : List α} {f : α → List γ} {i : Nat} {a : α} (h : l[i]? = some a) : (l.take (i + 1)).flatMap f = (l.take i).flatMap f ++ f a := by
  rw [List.take_add_one, h]
  simp
theorem flatMap_le {γ : Type} {f : α → List γ} : ∀ (l : List α) (i : Nat) (a : α), l[i]? = some a → ((l.take i).flatMap f).length + (f a).length ≤ (l.flatMap f).length
  | [], _, _, h => by simp at h
  | x :: l, 0, a, h => by
    have h : x = a := by simpa using h
    subst h
    simp
  | x :: l, i + 1, a, h => by
    have q := flatMap_le (f := f) l i a (by simpa using h)
    rw [List.take_succ_cons, List.flatMap_cons, List.flatMap_cons, List.length_append, List.length_append]
    omega
theorem tlc2_src {σ : L2.St} {H : Hp} {Q : VK} {ρ : List En} {l : List α} {enc : α → As} {m : α → List β} {enc1 : α → β → As} {g : α → β → As} {vs vs1 : List Nat} {j j1 : Nat} (hj : j ∈ vs) (hj1 : j1 ∈ vs1)
    (hz : (l.flatMap fun a => (m a).map (g a)).length < sizeLine) (h : tN ρ (l.flatMap fun a => (m a).map (g a)) σ H Q) :
    tLc2 (iS ρ (l.map enc)) (gName j) (tT1 (fun a => (wipeE ρ vs).set j (.fr (enc a))) l) (iS2 (fun a => (wipeE ρ vs).set j (.fr (enc a))) l (fun a => (m a).map (enc1 a))) (gName j1)
      (tT2 (fun a b => (wipeE ((wipeE ρ vs).set j (.fr (enc a))) vs1).set j1 (.fr (enc1 a b))) l m) (tE2 (fun a b => (wipeE ((wipeE ρ vs).set j (.fr (enc a))) vs1).set j1 (.fr (enc1 a b))) l m g) vs vs1 σ H Q := by
  obtain ⟨H0, F, S, k⟩ := h
  refine ⟨H0, F, S, fun J So xs H1 F1 g1 h2 hJ hS D hD => ?_⟩
  have hlen : xs.length = l.length := by rw [h2.length, List.length_map]
  -- what is at D behind some turns: pre the values so far
  let St : List As → Hp → Prop := fun pre H' => ∃ F' acc, Gr F1 H1 F' H' ∧ F' D = none ∧ H' D = some (.lst acc) ∧ AllV F' acc pre
  refine it_walk (xs := xs) hJ (fun i H' => St ((l.take i).flatMap fun a => (m a).map (g a)) H') ⟨F1, [], .newH g1.i hD, g1.i.none hD, upd_same, by simp [AllV]⟩ (fun i H' _ L => ?_) (fun i x H' hx L => ?_) (fun H' L => ?_)
  · obtain ⟨F', acc, G, _⟩ := L
    exact hS H' (G.f.trans G.i)
  · have hi : i < l.length := by
      have z := (List.getElem?_eq_some_iff.mp hx).1
      omega
    have ha : l[i]? = some l[i] := List.getElem?_eq_getElem hi
    obtain ⟨u, hu, hA⟩ := h2.get (i := i) (A := enc l[i]) (by rw [List.getElem?_map, ha]; rfl)
    rw [hx] at hu
    have e : x = u := by simpa using hu
    subst e
    have mem : l[i] ∈ l := List.getElem_mem hi
    generalize l[i] = a at ha hA mem
    obtain ⟨F', acc, G, fD, hDl, hall⟩ := L
    have S1 := (((S.gr g1).gr G).wipe vs).set (i := j) ((enc a).mono G.f hA)
    refine ⟨wipe_set hj, a, mem, H0, F', S1, fun H3 F3 g3 => ?_⟩
    have GD := G.trans g3
    have S3 := S1.gr g3
    refine ⟨a, mem, H0, F3, S3, fun J2 So2 ys H4 F4 g4 h4 hJ2 hS2 => ?_⟩
    have GE := GD.trans g4
    have S4 := S3.gr g4
    have f4 : F4 D = none := g4.n D _ (g3.h D _ hDl) (g3.n D _ hDl fD)
    have d4 : H4 D = some (.lst acc) := g4.h D _ (g3.h D _ hDl)
    have hall4 := hall.mono (g3.f.trans g4.f)
    have hlen2 : ys.length = (m a).length := by rw [h4.length, List.length_map]
    refine it_walk (xs := ys) hJ2 (fun n H' => ∃ F5 acc, Gr F1 H1 F5 H' ∧ Ex F4 F5 ∧ F5 D = none ∧ H' D = some (.lst acc) ∧ AllV F5 acc (((l.take i).flatMap fun a => (m a).map (g a)) ++ ((m a).take n).map (g a))) ⟨F4, acc, GE, Ex.refl F4, f4, d4, by simpa using hall4⟩ (fun n H' _ ⟨F5, _, G5, x5, _⟩ => hS2 H' (x5.trans G5.i)) (fun n y H' hy L => ?_) (fun H' L => ?_)
    · obtain ⟨F5, acc5, G5, x5, f5, d5, hall5⟩ := L
      have hn : n < (m a).length := by
        have z := (List.getElem?_eq_some_iff.mp hy).1
        omega
      have hb : (m a)[n]? = some (m a)[n] := List.getElem?_eq_getElem hn
      obtain ⟨u, hu, hB⟩ := h4.get (i := n) (A := enc1 a (m a)[n]) (by rw [List.getElem?_map, hb]; rfl)
      rw [hy] at hu
      have e : y = u := by simpa using hu
      subst e
      have memb : (m a)[n] ∈ m a := List.getElem_mem hn
      generalize (m a)[n] = b at hb hB memb
      -- the frame behind the second store
      have S5 : Sat H0 F5 ((L2.wipe σ vs).set j (some x)) H' ((wipeE ρ vs).set j (.fr (enc a))) := (((S.gr g1).gr G5).wipe vs).set (i := j) ((enc a).mono (G5.f) hA)
      have S6 := (S5.wipe vs1).set (i := j1) ((enc1 a b).mono x5 hB)
      refine ⟨wipe_set hj1, a, b, mem, memb, H0, F5, S6, fun H6 F6 g6 => ?_⟩
      refine ⟨a, b, mem, memb, H0, F6, S6.gr g6, fun z H7 F7 g7 hz7 => ?_⟩
      have f6 := g6.n D _ d5 f5
      have d6 := g6.h D _ d5
      have f7 : F7 D = none := g7.n D _ d6 f6
      have d7 : H7 D = some (.lst acc5) := g7.h D _ d6
      have G7 := (G5.trans g6).trans g7
      refine ⟨acc5, d7, ?_, F7, acc5 ++ [z], ⟨G7.f, fun c o zz => ?_, fun c o zz => ?_, G7.n⟩, (x5.trans g6.f).trans g7.f, f7, upd_same, ?_⟩
      · have q := flatMap_le (f := fun a => (m a).map (g a)) l i a ha
        rw [hall5.length, List.length_append, List.length_map, List.length_take]
        rw [List.length_map] at q
        omega
      · rw [upd_ne (ne_of_none zz hD)]
        exact G7.h c o zz
      · rw [upd_ne (ne_of_none zz f7)]
        exact G7.i c o zz
      · have tk : (m a).take (n + 1) = (m a).take n ++ [b] := by
          rw [List.take_add_one, hb]
          rfl
        rw [tk, List.map_append, ← List.append_assoc]
        exact (hall5.mono (g6.f.trans g7.f)).snoc hz7
    · obtain ⟨F5, acc5, G5, x5, f5, d5, hall5⟩ := L
      rw [hlen2, List.take_length] at hall5
      refine ⟨F5, acc5, G5, f5, d5, ?_⟩
      rw [flatMap_take ha]
      exact hall5
  · rw [hlen] at L
    obtain ⟨F', acc, G, fD, hDl, hall⟩ := L
    rw [List.take_length] at hall
    exact k D acc H' F' (g1.trans G) (g1.h.none hD) fD hDl hall
end
section
variable {α β : Type} {X : Cx} {ρ : List En} {pos spos : Pos} {elt it it1 : Expr} {ifs : List Expr} {scope : Scope} {Nx : List En → Prop} {W : Wn}
theorem pts_1 {X : Cx} {ρ : α → List En} {l : List α} : PTs X [] (tT1 ρ l) := ⟨fun pins s σ H Q I ⟨a, _, H0, F, S, k⟩ => pts_nil.run pins s σ H Q I (k H F (.refl S.ex))⟩
theorem pts_2 {X : Cx} {ρ : α → β → List En} {l : List α} {m : α → List β} : PTs X [] (tT2 ρ l m) := ⟨fun pins s σ H Q I ⟨a, b, _, _, H0, F, S, k⟩ => pts_nil.run pins s σ H Q I (k H F (.refl S.ex))⟩
theorem pi_2 {X : Cx} {tg it : Expr} {ρ : α → List En} {l : List α} {m : α → List As} (h : ∀ a ∈ l, ES X tg it (ρ a) (m a)) : PI X tg it (iS2 ρ l m) := ⟨fun pins s σ H R I ⟨a, ha, q⟩ => (h a ha).run pins s σ H R I q⟩
theorem pe_2 {X : Cx} {e : Expr} {ρ : α → β → List En} {l : List α} {m : α → List β} {g : α → β → As} (h : ∀ a ∈ l, ∀ b ∈ m a, EA X e (ρ a b) (g a b)) : PE X e (tE2 ρ l m g) := ⟨fun pins s σ H Q I ⟨a, b, ha, hb, q⟩ => (h a ha b hb).run pins s σ H Q I q⟩
/-- [elt for x in a source that stays if ..] -/
theorem en_lcS {own : List (Str × Nat)} (j : Nat) {x : Str} {px : Pos} {l : List α} {enc : α → As} {p : α → Bool} {g : α → As} (hc : X.calm = true) (hN : X.N.Nodup) (hi : ES X (.Name x px) it ρ (l.map enc)) (hz : l.length < sizeLine) (ok : BlkOk X.N X.env.scope scope own)
    (hg : ∀ (s : Shared) (H : Hp) (C : Addr) (cl : List (Str × Addr)) (fp : List Addr), PG (X.blk s H scope (compEnvC scope cl C X.env) fp) (.Name x px) (gName j))
    (ht : ∀ (s : Shared) (H : Hp) (C : Addr) (cl : List (Str × Addr)) (fp : List Addr), ∀ a ∈ l, PTs (X.blk s H scope (compEnvC scope cl C X.env) fp) ifs (tTs ((wipeE ρ (own.map (·.2))).set j (.fr (enc a))) (p a)))
    (he : ∀ (s : Shared) (H : Hp) (C : Addr) (cl : List (Str × Addr)) (fp : List Addr), ∀ a ∈ l, p a = true → EA (X.blk s H scope (compEnvC scope cl C X.env) fp) elt ((wipeE ρ (own.map (·.2))).set j (.fr (enc a))) (g a))
    (hj : j ∈ own.map (·.2) := by decide) (hs : ∀ z, foldedSetIterable it X.env z = pure z := by intro _; rfl) :
    EN X (.ListComp elt [⟨.Name x px, it, ifs, 0⟩] scope pos) ρ ((l.filter p).map g) :=
  pe_imp (pe_lc (own := own) hc hN hi ok hg (fun s H C cl fp => pts_c (ht s H C cl fp)) (fun s H C cl fp => pe_c (he s H C cl fp)) hs) fun σ H Q h => tlc_src hj hz h
/-- [elt for x in .. for y in ..] -/
theorem en_lc2 {own : List (Str × Nat)} (j j1 : Nat) {x y : Str} {px py : Pos} {l : List α} {enc : α → As} {m : α → List β} {enc1 : α → β → As} {g : α → β → As} (hc : X.calm = true) (hN : X.N.Nodup) (hi : ES X (.Name x px) it ρ (l.map enc)) (hz : (l.flatMap fun a => (m a).map (g a)).length < sizeLine) (ok : BlkOk X.N X.env.scope scope own)
    (hg : ∀ (s : Shared) (H : Hp) (C : Addr) (cl : List (Str × Addr)) (fp : List Addr), PG (X.blk s H scope (compEnvC scope cl C X.env) fp) (.Name x px) (gName j))
    (hi1 : ∀ (s : Shared) (H : Hp) (C : Addr) (cl : List (Str × Addr)) (fp : List Addr), ∀ a ∈ l, ES (X.blk s H scope (compEnvC scope cl C X.env) fp) (.Name y py) it1 ((wipeE ρ (own.map (·.2))).set j (.fr (enc a))) ((m a).map (enc1 a)))
    (hg1 : ∀ (s : Shared) (H : Hp) (C : Addr) (cl : List (Str × Addr)) (fp : List Addr), PG (X.blk s H scope (compEnvC scope cl C X.env) fp) (.Name y py) (gName j1))
    (he : ∀ (s : Shared) (H : Hp) (C : Addr) (cl : List (Str × Addr)) (fp : List Addr), ∀ a ∈ l, ∀ b ∈ m a, EA (X.blk s H scope (compEnvC scope cl C X.env) fp) elt ((wipeE ((wipeE ρ (own.map (·.2))).set j (.fr (enc a))) [j1]).set j1 (.fr (enc1 a b))) (g a b))
    (hj : j ∈ own.map (·.2) := by decide) (hj1 : j1 ∈ own.map (·.2) := by decide) (hs : ∀ z, foldedSetIterable it X.env z = pure z := by intro _; rfl) (hs1 : ∀ env z, foldedSetIterable it1 env z = pure z := by intro _ _; rfl) :
    EN X (.ListComp elt [⟨.Name x px, it, [], 0⟩, ⟨.Name y py, it1, [], 0⟩] scope pos) ρ (l.flatMap fun a => (m a).map (g a)) :=
  pe_imp (pe_lc2 (own := own) (vs1 := [j1]) hc hN hi ok (fun i h => by rw [List.mem_singleton.mp h]; exact hj1) hg (fun s H C cl fp => pts_1) (fun s H C cl fp => pi_2 (hi1 s H C cl fp)) hg1 (fun s H C cl fp => pts_2) (fun s H C cl fp => pe_2 (he s H C cl fp)) hs hs1) fun σ H Q h => tlc2_src hj (List.mem_singleton.mpr rfl) hz h
theorem sa_setLc2 {own : List (Str × Nat)} (i j j1 : Nat) {x y z : Str} {px py pz : Pos} {l : List α} {enc : α → As} {m : α → List β} {enc1 : α → β → As} {g : α → β → As} (hc : X.calm = true) (hN : X.N.Nodup) (hi : ES X (.Name x px) it ρ (l.map enc)) (hz : (l.flatMap fun a => (m a).map (g a)).length < sizeLine) (ok : BlkOk X.N X.env.scope scope own)
    (hg : ∀ (s : Shared) (H : Hp) (C : Addr) (cl : List (Str × Addr)) (fp : List Addr), PG (X.blk s H scope (compEnvC scope cl C X.env) fp) (.Name x px) (gName j))
    (hi1 : ∀ (s : Shared) (H : Hp) (C : Addr) (cl : List (Str × Addr)) (fp : List Addr), ∀ a ∈ l, ES (X.blk s H scope (compEnvC scope cl C X.env) fp) (.Name y py) it1 ((wipeE ρ (own.map (·.2))).set j (.fr (enc a))) ((m a).map (enc1 a)))
    (hg1 : ∀ (s : Shared) (H : Hp) (C : Addr) (cl : List (Str × Addr)) (fp : List Addr), PG (X.blk s H scope (compEnvC scope cl C X.env) fp) (.Name y py) (gName j1))
    (he : ∀ (s : Shared) (H : Hp) (C : Addr) (cl : List (Str × Addr)) (fp : List Addr), ∀ a ∈ l, ∀ b ∈ m a, EA (X.blk s H scope (compEnvC scope cl C X.env) fp) elt ((wipeE ((wipeE ρ (own.map (·.2))).set j (.fr (enc a))) [j1]).set j1 (.fr (enc1 a b))) (g a b))
    (k : Nx (ρ.set i (.own (l.flatMap fun a => (m a).map (g a))))) (hy : X.N[i]? = some z := by rfl) (hyl : X.env.scope.names.lookup z = some .local := by rfl)
    (hsw : swapsWith (.ListComp elt [⟨.Name x px, it, [], 0⟩, ⟨.Name y py, it1, [], 0⟩] scope pos) (some (.Name z pz)) spos.line X.env = pure true := by exact sw_true rfl rfl rfl (by decide +kernel))
    (hj : j ∈ own.map (·.2) := by decide) (hj1 : j1 ∈ own.map (·.2) := by decide) (hs : ∀ z, foldedSetIterable it X.env z = pure z := by intro _; rfl) (hs1 : ∀ env z, foldedSetIterable it1 env z = pure z := by intro _ _; rfl) :
    SA X (.Assign [.Name z pz] (.ListComp elt [⟨.Name x px, it, [], 0⟩, ⟨.Name y py, it1, [], 0⟩] scope pos) spos) ρ Nx W :=
  ps_imp (ps_setLc2 (own := own) (vs1 := [j1]) (i := i) hc hN hy hyl hsw hi ok (fun i h => by rw [List.mem_singleton.mp h]; exact hj1) hg (fun s H C cl fp => pts_1) (fun s H C cl fp => pi_2 (hi1 s H C cl fp)) hg1 (fun s H C cl fp => pts_2) (fun s H C cl fp => pe_2 (he s H C cl fp)) hs hs1) fun D σ H ⟨F0, H0, F, g0, S, q, _⟩ => tlc2_src hj (List.mem_singleton.mpr rfl) hz ⟨H0, F, S, fun p' xs H' F' g' n1 n2 hp hv => q _ _ H' F' k (g0.trans g') ((S.gr g').setN (g0.h.none n1) n2 hp hv fun j m y e1 e2 => .inl fun z => by
    obtain ⟨p2, xs', h1, _, _, h4, _⟩ := S.own j m e1
    rw [h1] at e2
    have e3 : p2 = y := by simpa using e2
    rw [e3, z, n1] at h4
    cases h4)⟩
theorem sa_setLcS {own : List (Str × Nat)} (i j : Nat) {x y : Str} {px py : Pos} {l : List α} {enc : α → As} {p : α → Bool} {g : α → As} (hc : X.calm = true) (hN : X.N.Nodup) (hi : ES X (.Name x px) it ρ (l.map enc)) (hz : l.length < sizeLine) (ok : BlkOk X.N X.env.scope scope own)
    (hg : ∀ (s : Shared) (H : Hp) (C : Addr) (cl : List (Str × Addr)) (fp : List Addr), PG (X.blk s H scope (compEnvC scope cl C X.env) fp) (.Name x px) (gName j))
    (ht : ∀ (s : Shared) (H : Hp) (C : Addr) (cl : List (Str × Addr)) (fp : List Addr), ∀ a ∈ l, PTs (X.blk s H scope (compEnvC scope cl C X.env) fp) ifs (tTs ((wipeE ρ (own.map (·.2))).set j (.fr (enc a))) (p a)))
    (he : ∀ (s : Shared) (H : Hp) (C : Addr) (cl : List (Str × Addr)) (fp : List Addr), ∀ a ∈ l, p a = true → EA (X.blk s H scope (compEnvC scope cl C X.env) fp) elt ((wipeE ρ (own.map (·.2))).set j (.fr (enc a))) (g a))
    (k : Nx (ρ.set i (.own ((l.filter p).map g)))) (hy : X.N[i]? = some y := by rfl) (hyl : X.env.scope.names.lookup y = some .local := by rfl)
    (hsw : swapsWith (.ListComp elt [⟨.Name x px, it, ifs, 0⟩] scope pos) (some (.Name y py)) spos.line X.env = pure true := by exact sw_true rfl rfl rfl (by decide +kernel))
    (hj : j ∈ own.map (·.2) := by decide) (hs : ∀ z, foldedSetIterable it X.env z = pure z := by intro _; rfl) :
    SA X (.Assign [.Name y py] (.ListComp elt [⟨.Name x px, it, ifs, 0⟩] scope pos) spos) ρ Nx W :=
  ps_imp (ps_setLc (own := own) (i := i) hc hN hy hyl hsw hi ok hg (fun s H C cl fp => pts_c (ht s H C cl fp)) (fun s H C cl fp => pe_c (he s H C cl fp)) hs) fun D σ H ⟨F0, H0, F, g0, S, q, _⟩ => tlc_src hj hz ⟨H0, F, S, fun p' xs H' F' g' n1 n2 hp hv => q _ _ H' F' k (g0.trans g') ((S.gr g').setN (g0.h.none n1) n2 hp hv fun j m y e1 e2 => .inl fun z => by
    obtain ⟨p2, xs', h1, _, _, h4, _⟩ := S.own j m e1
    rw [h1] at e2
    have e3 : p2 = y := by simpa using e2
    rw [e3, z, n1] at h4
    cases h4)⟩
theorem flt_all {α : Type} (l : List α) : l.filter (fun _ => true) = l := List.filter_eq_self.mpr fun _ _ => rfl
/-- without tests -/
theorem en_lcA {own : List (Str × Nat)} (j : Nat) {x : Str} {px : Pos} {l : List α} {enc : α → As} {g : α → As} (hc : X.calm = true) (hN : X.N.Nodup) (hi : EL X it ρ (l.map enc)) (hz : l.length < sizeLine) (ok : BlkOk X.N X.env.scope scope own)
    (hg : ∀ (s : Shared) (H : Hp) (C : Addr) (cl : List (Str × Addr)) (fp : List Addr), PG (X.blk s H scope (compEnvC scope cl C X.env) fp) (.Name x px) (gName j))
    (he : ∀ (s : Shared) (H : Hp) (C : Addr) (cl : List (Str × Addr)) (fp : List Addr), ∀ a ∈ l, EA (X.blk s H scope (compEnvC scope cl C X.env) fp) elt ((wipeE ρ (own.map (·.2))).set j (.fr (enc a))) (g a))
    (hj : j ∈ own.map (·.2) := by decide) (hs : ∀ z, foldedSetIterable it X.env z = pure z := by intro _; rfl) :
    EN X (.ListComp elt [⟨.Name x px, it, [], 0⟩] scope pos) ρ (l.map g) := by
  have q := en_lc (p := fun _ => true) j (pos := pos) hc hN hi hz ok hg (fun _ _ _ _ _ _ _ => pts_yes) (fun s H C cl fp a ha _ => he s H C cl fp a ha) hj hs
  rw [flt_all] at q
  exact q
theorem en_lcSA {own : List (Str × Nat)} (j : Nat) {x : Str} {px : Pos} {l : List α} {enc : α → As} {g : α → As} (hc : X.calm = true) (hN : X.N.Nodup) (hi : ES X (.Name x px) it ρ (l.map enc)) (hz : l.length < sizeLine) (ok : BlkOk X.N X.env.scope scope own)
    (hg : ∀ (s : Shared) (H : Hp) (C : Addr) (cl : List (Str × Addr)) (fp : List Addr), PG (X.blk s H scope (compEnvC scope cl C X.env) fp) (.Name x px) (gName j))
    (he : ∀ (s : Shared) (H : Hp) (C : Addr) (cl : List (Str × Addr)) (fp : List Addr), ∀ a ∈ l, EA (X.blk s H scope (compEnvC scope cl C X.env) fp) elt ((wipeE ρ (own.map (·.2))).set j (.fr (enc a))) (g a))
    (hj : j ∈ own.map (·.2) := by decide) (hs : ∀ z, foldedSetIterable it X.env z = pure z := by intro _; rfl) :
    EN X (.ListComp elt [⟨.Name x px, it, [], 0⟩] scope pos) ρ (l.map g) := by
  have q := en_lcS (p := fun _ => true) j (pos := pos) hc hN hi hz ok hg (fun _ _ _ _ _ _ _ => pts_yes) (fun s H C cl fp a ha _ => he s H C cl fp a ha) hj hs
  rw [flt_all] at q
  exact q
end
end Lk

set_option Elab.async false
set_option linter.all false
set_option maxRecDepth 100000
set_option maxHeartbeats 4000000
namespace Lk
open PySem PySem.Calls L2 PySem.Spec PyProof.Rows RT
section
variable {prog : Program} {w : World} {A : Around} {E : Value → Shared → Prop} {s : Shared}
/-! ### list(reversed(list)) -/
theorem list_init_rev {R : Result → Shared → Prop} {it l : Addr} {items : Array Value} (hh : A.handled = none) (hit : s.heap.IsRevIter it l ((items.size : Int) - 1)) (hl : s.heap.IsList l items) (hne : l ≠ it) (hn : items.size ≤ sizeLine) (Z : Addr) (hZ : s.heap.get? Z = some { cls := .type "list", data := .seq #[] }) (hZi : Z ≠ it) (hZl : Z ≠ l)
    (hR : ∀ h' tk acc c', (∀ b o, b ≠ Z → b ≠ it → s.heap.get? b = some o → h'.get? b = some o) → h'.get? Z = some { cls := .type "list", dict := none, data := .seq acc c', slots := #[] } → ItemsOf (fun i v => items[items.size - 1 - i]? = some v) acc items.size → R (.ok (.ret .none)) { s with heap := h', toks := tk }) :
    wpAny (model prog w) A.in1 (Builtin.«list.__init__» ⟨[.ref Z, .ref it], []⟩)
      (fun fin s' => match fin with | .done f => R (.ok f) s' | .again c' => c'.quiet = true ∧ codeAny (model prog w) A c' R s') (fun e s' => R (.error e) s') s := by
  have W := (Walks.listRev (prog := prog) (w := w) (A := A.in1) hh it l hne items).toS
  show wpAny _ _ (do let old ← Builtin.List.listItems (.ref Z); Builtin.List.listUpdate (.ref Z) (fun _ => #[]); letGo old.toList.reverse; Builtin.List.listExtendWith (.ref Z) (.ref it) .none) _ _ s
  refine wpAny_bind ?_
  unfold Builtin.List.listItems
  refine wpAny_bind (wpAny_seqItems hZ rfl (wpAny_pure ?_))
  show wpAny _ _ (updateSeq Z (fun _ => #[]) >>= fun _ => letGo (#[] : Array Value).toList.reverse >>= fun _ => Builtin.List.listExtendWith (.ref Z) (.ref it) .none) _ _ s
  refine wpAny_bind (wpAny_updateSeq hZ rfl ?_)
  have hS2 := Heap.get?_update_self (Obj.mapSeq (fun _ => (#[] : Array Value))) hZ rfl
  have oth : ∀ b o, b ≠ Z → s.heap.get? b = some o → (s.heap.update Z (Obj.mapSeq (fun _ => (#[] : Array Value)))).get? b = some o :=
    fun b o hb e => (Heap.get?_update_other _ _ (Ne.symm hb)).trans e
  refine wpAny_bind (wpAny_letGo ?_)
  have hit1 : (s.heap.update Z (Obj.mapSeq (fun _ => (#[] : Array Value)))).IsRevIter it l ((items.size : Int) - 1) := hit.at fun o e => oth _ _ hZi.symm e
  have hl1 : (s.heap.update Z (Obj.mapSeq (fun _ => (#[] : Array Value)))).IsList l items := by
    obtain ⟨o, ho, r⟩ := id hl
    exact ⟨o, oth _ _ hZl.symm ho, r⟩
  have hSf : Z ∉ [it, l] := by simp only [List.mem_cons, List.not_mem_nil, or_false, not_or]; exact ⟨hZi, hZl⟩
  generalize hs1 : ({ s with heap := s.heap.update Z (Obj.mapSeq (fun _ => (#[] : Array Value))) } : Shared) = s1
  have hit2 : s1.heap.IsRevIter it l ((items.size : Int) - 1) := by rw [← hs1]; exact hit1
  have hl2 : s1.heap.IsList l items := by rw [← hs1]; exact hl1
  have hT : s1.TypeIs (.ref it) "list_reverseiterator" := hit2.typeIs
  have h1 : Builtin.List.listSameRef (.ref Z) (.ref it) = false := by simp [Builtin.List.listSameRef, hZi]
  unfold Builtin.List.listExtendWith
  refine wpAny_bind (wpAny_typeOf hT ?_)
  rw [if_neg (by rw [h1]; decide)]
  refine wpAny_bind (wpAny_pyIter_revIter hit2 ?_)
  refine wpAny_bind (wpAny_holding ?_)
  unfold Builtin.List.listLengthHint
  refine wpAny_bind (wpAny_specialOf hT nolen_lri ?_)
  show wpAny _ A.in1 (specialOf (Value.ref it) (Str.ofString "__length_hint__") >>= _) _ _ _
  refine wpAny_bind (wpAny_specialOf hT hint_lri ?_)
  generalize hid : ("list_reverseiterator.__length_hint__" : String) = id0
  wp_delta
  rw [show splitId id0 = some ("list_reverseiterator", "__length_hint__") from by subst hid; decide +kernel]
  subst hid
  refine wpAny_bind (wpAny_isInstance (b := true) hT (by rw [isSubtype_type]; kernel_rfl) ?_)
  refine wpAny_pure ?_
  rw [if_neg (by decide)]
  have e0 : ((items.size : Nat) : Int) - 1 - ((0 : Nat) : Int) = (items.size : Int) - 1 := by omega
  have hS3 : s1.heap.get? Z = some { cls := .type "list", data := .seq ([] : List Value).toArray } := by rw [← hs1]; exact hS2
  refine wpAny_pure ⟨plainId_quiet F.plain_extend_loop _, codeAny_extend_loopS W hn _ hSf _ items.size 0 _ _ _ rfl (Nat.zero_le _) ⟨Nat.zero_le _, by rw [e0]; exact hit2, hl2⟩ hS3 (ItemsOf.nil _) fun s' acc' c' hm hS' hacc => ?_⟩
  rw [Moved.eq_with hm]
  subst hs1
  refine hR s'.heap s'.toks acc' c' (fun b o hb hb2 e => hm.heap b o (fun hmem => ?_) (oth b o hb e)) hS' hacc
  rcases List.mem_cons.mp hmem with e' | hmem
  · exact hb e'
  · exact hb2 (List.mem_singleton.mp hmem)
theorem call_list_rev {it l : Addr} {items : Array Value} {Q : Value → Shared → Prop} (hh : A.handled = none) (hit : s.heap.IsRevIter it l ((items.size : Int) - 1)) (hl : s.heap.IsList l items) (hne : l ≠ it) (hn : items.size ≤ sizeLine)
    (hQ : ∀ (h' : Heap) (tk : Nat) (acc : Array Value) (c' : Nat), (∀ b o, b ≠ it → s.heap.get? b = some o → h'.get? b = some o) → h'.get? s.heap.objs.size = some { cls := .type "list", dict := none, data := .seq acc c', slots := #[] } → ItemsOf (fun i v => items[items.size - 1 - i]? = some v) acc items.size →
      Q (.ref s.heap.objs.size) { s with heap := h', toks := tk }) :
    wpAny (model prog w) A (call (.type "list") [.ref it]) Q E s := by
  refine callType_codes (Q₁ := fun obj s₁ => obj = .ref s.heap.objs.size ∧ s₁ = { s with heap := s.heap.push { cls := .type "list", data := .seq #[] } }) F.called_list (F.typeCall_list_1 _) F.entry_list_init
    (code_list_new _ ⟨rfl, rfl⟩) fun obj s₁ h₁ => ?_
  obtain ⟨rfl, rfl⟩ := h₁
  obtain ⟨oi, hoi, _⟩ := id hit
  obtain ⟨ol, hol, _⟩ := id hl
  have hS : (s.heap.push { cls := .type "list", data := .seq #[] }).get? s.heap.objs.size = some { cls := .type "list", data := .seq #[] } := Heap.get?_push_size _ rfl
  refine ⟨⟨_, hS, rfl⟩, F.args_list_init_2 _ _, list_init_rev (A := A.in1) hh (hit.at fun o e => Heap.get?_push_of_some _ e) (hl.push _) hne hn _ hS (Nat.ne_of_gt (Heap.lt_size hoi)) (Nat.ne_of_gt (Heap.lt_size hol)) fun h' tk acc' c' hk hS' hacc => ?_⟩
  exact ⟨rfl, hQ h' tk acc' c' (fun b o hb e => hk b o (Nat.ne_of_lt (Heap.lt_size e)) hb (Heap.get?_push_of_some _ e)) hS' hacc⟩
end
def tListRev (K : PySem.W.Frag) (te : TE) : TE := fun σ H Q => te σ H fun v H1 => ∃ (a : Addr) (xs : List V), v = .ref a ∧ SqL K H1 a xs ∧ ∀ q, H1 q = none → Q (.ref q) (upd H1 q (.lst xs.reverse))
section
variable {X : Cx}
theorem pe_listRev {e : Expr} {te : TE} {p p2 pos pos2 : Pos} (hc : X.calm = true) (hg : Gl X "list") (hm : X.mg "list" = none) (hg2 : Gl X "reversed") (hm2 : X.mg "reversed" = none) (he : PE X e te)
    (hs : starEach [e] X.env = (false, eval e X.env) :: starEach [] X.env := by rfl)
    (hs2 : starEach [.Call (.Name "reversed" p2) [e] [] pos2] X.env = (false, eval (.Call (.Name "reversed" p2) [e] [] pos2) X.env) :: starEach [] X.env := by rfl) :
    PE X (.Call (.Name "list" p) [.Call (.Name "reversed" p2) [e] [] pos2] [] pos) (tListRev X.K te) := by
  refine ⟨fun pins s σ H Q I h => ?_⟩
  refine Call_ (ld_blt I hg hm boot_list (PyProof.Rows.callWith_type1 (args_cons (Call_ (ld_blt I hg2 hm2 PyProof.Rows.boot_reversed (PyProof.Rows.callWith_type1 (args_cons (thn (he.run pins s σ H _ I h) fun u s1 ⟨v, H1, I1, r1, q1⟩ => args_nil ?_) hs) hs rfl))) hs2) hs2 rfl))
  obtain ⟨a, xs, ev, hq, q⟩ := q1
  subst ev
  obtain rfl : u = Value.ref a := r1
  obtain ⟨its, rv, p', hz⟩ := I1.list hq
  refine call_reversed_list p'.isList (args_nil ?_)
  have k0 : ∀ b o, s1.heap.get? b = some o → (s1.heap.push (revObj a ((its.toArray.size : Int) - 1))).get? b = some o := fun b o e => Heap.get?_push_of_some _ e
  have I2 : Inv X pins σ H1 { s1 with heap := s1.heap.push (revObj a ((its.toArray.size : Int) - 1)) } := I1.kept (t' := s1.toks) k0
  have fp := I1.fpOk (H' := H1) (b := s1.heap.objs.size) (Nat.le_refl _) (I1.hok.fresh (Nat.le_refl _))
  have hl := p'.isList
  obtain ⟨ol, hol, _⟩ := id hl
  have hne : a ≠ s1.heap.objs.size := Nat.ne_of_lt (Heap.lt_size hol)
  have hn : its.toArray.size ≤ sizeLine := by rw [List.size_toArray, ← rv.length]; exact hz
  refine call_list_rev (s := { s1 with heap := s1.heap.push (revObj a ((its.toArray.size : Int) - 1)) }) (I1.ok.hd hc) ⟨_, Heap.get?_push_size _ rfl, rfl, rfl⟩ (hl.push _) hne hn fun h' tk acc c' hk hS hi => ?_
  have I3 := I2.turnedNew (t' := tk) (ch := [s1.heap.objs.size]) (h' := h') (ob := .lst xs.reverse) (fun b o hb e => hk b o (fun z => hb (by rw [z]; exact List.mem_singleton.mpr rfl)) e) (fun b hb => by rw [List.mem_singleton.mp hb]; exact fp) (Nat.le_refl _) (show ObjOk X.prog X.w _ h' _ (.lst xs.reverse) from ⟨by rw [List.length_reverse]; exact hz, acc.toList, c', vals_rev rv hi, by rw [Array.toArray_toList]; exact hS⟩)
  exact ⟨.ref _, _, I3, rfl, q _ (I2.hok.fresh (Nat.le_refl _))⟩
theorem AllV.reverse {F : Hp} : ∀ {vs : List V} {l : List As}, AllV F vs l → AllV F vs.reverse l.reverse
  | [], [], _ => trivial
  | v :: vs, A :: l, h => by
    rw [List.reverse_cons, List.reverse_cons]
    exact (AllV.reverse (vs := vs) (l := l) h.2).append (.one h.1)
  | [], _ :: _, h => h.elim
  | _ :: _, [], h => h.elim
theorem en_listRev {e : Expr} {ρ : List En} {l : List As} {p p2 pos pos2 : Pos} (he : EL X e ρ l) (hc : X.calm = true) (hm : X.mg "list" = none) (hm2 : X.mg "reversed" = none) (hg : Gl X "list" := by rfl) (hg2 : Gl X "reversed" := by rfl)
    (hs : starEach [e] X.env = (false, eval e X.env) :: starEach [] X.env := by rfl)
    (hs2 : starEach [.Call (.Name "reversed" p2) [e] [] pos2] X.env = (false, eval (.Call (.Name "reversed" p2) [e] [] pos2) X.env) :: starEach [] X.env := by rfl) :
    EN X (.Call (.Name "list" p) [.Call (.Name "reversed" p2) [e] [] pos2] [] pos) ρ l.reverse :=
  pe_imp (pe_listRev hc hg hm hg2 hm2 he hs hs2) fun σ H Q ⟨H0, F, S, k⟩ => ⟨H0, F, S, fun x xs H1 F1 g1 h1 h2 => ⟨x, xs, rfl, SqL.of h1, fun q hq =>
    k q _ _ F1 (g1.trans (.newH g1.i hq)) (g1.h.none hq) (g1.i.none hq) upd_same h2.reverse⟩⟩
end
end Lk

set_option Elab.async false
set_option linter.all false
set_option maxRecDepth 100000
set_option maxHeartbeats 4000000
namespace Lk
open PySem PySem.Calls L2 PySem.Spec PyProof.Rows
section
variable {X : Cx} {e a b c o : Expr} {es : List Expr} {ρ : List En} {A B : As} {pos apos p1 p2 : Pos} {k : Nat} {ι : Type} {pre : ι → Prop} {l : ι → List As} {AA : ι → As} {ps : List Str} {C : Addr} {m x : Str} {fs gs : List (Str × As)}
/-! ### a text in a tuple of texts -/
theorem inV_strs (s : Str) : ∀ l : List Str, inV (.str s) (l.map V.str) = decide (s ∈ l)
  | [] => by simp [inV]
  | t :: l => by
    have ih := inV_strs s l
    unfold inV at ih ⊢
    rw [List.map_cons, List.any_cons, ih]
    rw [Bool.eq_iff_iff]
    simp only [Bool.or_eq_true, decide_eq_true_eq, List.mem_cons, eqV, beq_iff_eq]
    exact or_congr_left ⟨fun h => h.symm, fun h => h.symm⟩
theorem cm_inTs {s : Str} {l : List Str} : Cm X .In (str s) (tupA (l.map str)) (decide (s ∈ l)) := ⟨_, op_in_seq, fun x y H Q p q z => by
  have p : x = .str s := p
  subst p
  obtain ⟨b, rfl, hb⟩ := strs_at q
  refine ⟨b, l.map V.str, rfl, .inr (SqT.of hb), rfl, ?_, ?_⟩
  · rw [List.all_map]
    exact List.all_eq_true.mpr fun _ _ => rfl
  · show Q (.bl (if false = true then _ else _)) H
    rw [if_neg Bool.false_ne_true, inV_strs]
    exact z⟩
/-! ### <= by an own __le__ -/
theorem op_leO {CX : CXT} {f : Addr} {fd : FuncData} {sp : Sp} {E : XK} (G : FnOk X.prog X.w X.K X.mg X.base CX k f fd ps sp) (hr : Room k X.A) (hs : PySem.W.findIn X.K (.ref C) "__le__" = some (some (.ref f))) (hf : PySem.W.isFn X.K (.ref f) = true) (hb : Binds X.K fd ps []) (hx : Passes CX X E) :
    OpR X (compareOp .LtE) (fun x y H Q => ∃ a dx fs b dy gs, x = .ref a ∧ H a = some (.ins C dx fs) ∧ y = .ref b ∧ H b = some (.ins C dy gs) ∧ sp [.ref a, .ref b] H (fun v H' => ∃ b, v = .bl b ∧ Q (.bl b) H') E) := by
  intro pins s σ H x y v u Q I rx ry hq
  obtain ⟨a, dx, fs, b, dy, gs, rfl, ha, rfl, hb', hsp⟩ := hq
  cases rx
  cases ry
  obtain ⟨mA, J, _⟩ := ins_get I.hok ha
  obtain ⟨mB, J', _⟩ := ins_get I.hok hb'
  obtain ⟨od, J, _⟩ := J.look
  obtain ⟨od', J', _⟩ := J'.look
  obtain ⟨m, hF⟩ := I.fr
  show wpAny _ _ (richCompare .LtE _ _) _ _ _
  refine PySem.W.cmp_K (op := .LtE) (tb := .ref C) hr.units0 hF I.ok.mod.kin J J'.type (by simp [PySem.W.notFirst]) hs hf ?_
  have hl := G.len _ _ _ _ hsp
  have r2 : Vals [V.ref a, .ref b] [Value.ref a, .ref b] := .cons rfl (.cons rfl .nil)
  refine wpAny_call (codeAny_mono (G.run X.A X.stack s H ⟨[.ref a, .ref b], []⟩ [.ref a, .ref b] [.ref a, .ref b] _ E hr I.env0 (by
    have := hb s [.ref a, .ref b] I.kIn (by simpa using hl)
    simpa using this) r2 hsp) fun r s' hq => ?_)
  cases r with
  | error e => exact hx pins σ H s e s' I hq
  | ok fl =>
    cases fl with
    | ret w =>
      obtain ⟨z, H', I', rz, b, ez, q⟩ := I.after hq
      subst ez
      cases rz
      exact ⟨.bl b, H', I', rfl, q⟩
    | next => exact False.elim hq
    | brk => exact False.elim hq
    | cont => exact False.elim hq
theorem ea_leO {bb : Bool} (D : Mf X.prog X.w X.K X.mg X.base k C "__le__" ps (spX pre l AA)) (hr : Room k X.A) (i : ι) (hp : pre i) (ha : EA X a ρ (insA C fs)) (ho : EA X o ρ (insA C gs)) (hl : l i = [insA C fs, insA C gs]) (hA : AA i = bl bb) (hm : behindInMarks .LtE o = false) : EA X (.Compare a [.LtE] [o] pos) ρ (bl bb) := by
  obtain ⟨f, fd, G, hM, hb⟩ := D.ex
  refine pe_imp (pe_cmpR (op_leO G hr hM.at_ hM.fn hb pass0) ha ho hm) fun σ H Q ⟨H0, F, S, q⟩ => ⟨H0, F, S, fun x H1 F1 g1 ⟨p', dx', vs', ev', y1, y2⟩ => ⟨H0, F1, S.gr g1, fun y H2 F2 g2 ⟨p, dx, vs, ev, z1, z2⟩ => ⟨p', dx', _, p, dx, _, ev', g2.h p' _ (g1.i p' _ y1), ev, g2.i p _ z1, i, hp, F2, g2.i, ?_, fun v H' F' g hv => ?_⟩⟩⟩
  · rw [hl]
    exact ⟨⟨p', dx', vs', rfl, g2.f p' _ y1, y2.mono g2.f⟩, ⟨p, dx, vs, rfl, z1, z2⟩, trivial⟩
  · rw [hA] at hv
    exact ⟨bb, hv, q _ H' F' ((g1.trans g2).trans g) rfl⟩
/-- isinstance(e, bool) of a bool -/
theorem bo_bool : bootBuiltins ("bool" : Str) = some (.type "bool") := by decide +kernel
theorem ea_isBool {q : Bool} (he : EW X e ρ (bl q)) (hm : X.mg "isinstance" = none) (hm2 : X.mg "bool" = none) (hg : Gl X "isinstance" := by rfl) (hg2 : Gl X "bool" := by rfl) (hs : starEach [e, .Name "bool" p2] X.env = (false, eval e X.env) :: starEach [.Name "bool" p2] X.env := by rfl)
    (hs2 : starEach [.Name "bool" p2] X.env = (false, eval (.Name "bool" p2) X.env) :: starEach [] X.env := by rfl) (hpl : (backTo pos (starEach [.Name "bool" p2] X.env)).any (·.1) = false := by rfl) : EA X (.Call (.Name "isinstance" p1) [e, .Name "bool" p2] [] pos) ρ (bl true) :=
  pe_imp (pe_callB call_isi hg hm bo_isi (pa_cons he (pa_cons (pe_bltn (v := .ty "bool") hg2 hm2 bo_bool rfl) pa_nil hs2) hs) (he := hs) (hpl := hpl)) fun σ H Q ⟨H0, F, S, k⟩ => ⟨H0, F, S, fun v H1 F1 g1 h1 => by
    have h1 : v = .bl q := h1
    subst h1
    exact ⟨.bl q, .ty "bool", .type "bool", .type "bool", true, rfl, .ty _, .base (.bl q), kit_ty (by decide +kernel), k _ H1 F1 g1 rfl⟩⟩
/-! ### slices -/
theorem cutA_mid {l : List As} {i j : Nat} (h1 : i ≤ j) : cutA l (some (i : Int)) (some (j : Int)) = (l.drop i).take (j - i) := by
  unfold cutA
  rw [show HT.sIx l.length 0 (some (i : Int)) = min i l.length from HT.sIx_nat l.length 0 i, show HT.sIx l.length l.length (some (j : Int)) = min j l.length from HT.sIx_nat l.length l.length j]
  by_cases hi : i ≤ l.length
  · rw [Nat.min_eq_left hi]
    by_cases hj : j ≤ l.length
    · rw [Nat.min_eq_left hj]
    · rw [Nat.min_eq_right (by omega), List.take_of_length_le (by rw [List.length_drop]; omega), List.take_of_length_le (by rw [List.length_drop]; omega)]
  · rw [Nat.min_eq_right (show l.length ≤ i by omega), List.drop_of_length_le (Nat.le_refl _), List.drop_of_length_le (show l.length ≤ i by omega)]
    simp
theorem sIx_pos {n i : Nat} (d : Nat) (hi : 0 < i) (hn : 0 < n) : HT.sIx n d (some (i : Int)) ≠ 0 := by
  rw [HT.sIx_nat]
  omega
end
section
variable {X : Cx} {ρ : List En} {pos : Pos} {Nx : List En → Prop} {W : Wn}
/-- y = xs.pop()[1:], a list of tuples -/
theorem sa_popTail (i j : Nat) {x y : Str} {px py apos cpos spos p3 : Pos} {l : List As} {B0 : As} {m : List As} {jj} {p4 : Pos} (hij : i ≠ j) (hN0 : X.N.Nodup) (hr : ρ[i]? = some (En.own (l ++ [tupA (B0 :: m)]))) (k : Nx ((ρ.set i (.own l)).set j (.fr (tupA m)))) (hN : X.N[i]? = some x := by rfl) (hv : Vis X.env.scope x := by first | exact Or.inl rfl | exact Or.inr (Or.inl rfl) | exact Or.inr (Or.inr rfl)) (hd : (x == ("__debug__" : Str)) = false := by decide) (hcd : (x == ("__classdict__" : Str)) = false := by decide)
    (hbase : attributeBase (.Name x px) "pop" X.env (eval (.Name x px) X.env) = eval (.Name x px) X.env := by rfl) (hline : (apos.endLine == cpos.line) = true := by rfl)
    (hi : X.N[j]? = some y := by rfl) (hx : Loc X.env.scope y := by first | exact .inl rfl | exact .inr rfl) (hs : swapsWith (.Subscript (.Call (.Attribute (.Name x px) "pop" apos) [] [] cpos) (.Slice (some (.Constant (.int 1) jj p4)) none none p3) spos) (some (.Name y py)) pos.line X.env = pure false := by rfl)
    (hf : X.fn y = true ∨ X.env.scope.names.lookup y = some .local := by first | exact .inl rfl | exact .inr rfl | assumption) :
    SA X (.Assign [.Name y py] (.Subscript (.Call (.Attribute (.Name x px) "pop" apos) [] [] cpos) (.Slice (some (.Constant (.int 1) jj p4)) none none p3) spos) pos) ρ Nx W := by
  refine ps_imp (ps_set hN0 hi hx (pe_slice sl_tup (pe_bm0 PySem.F.plainAttrs_list PySem.F.slot_list_pop PySem.F.type_list_pop mt_pop (pe_var (i := i) hN hv hd hcd) hbase hline) (eo_some (ρ := ρ.set i (.own l)) (i := 1) (ea_w ea_int)) (eo_none (ρ := ρ.set i (.own l)))) hs hf) fun D σ H ⟨F0, H0, F, g, S, q, _⟩ => ?_
  obtain ⟨p, xs, h1, h2, h3, h4, h5⟩ := S.own i _ hr
  have hlen := h5.length
  rw [List.length_append, List.length_singleton] at hlen
  obtain ⟨v, hv1, hv2⟩ := h5.get (i := l.length) (A := tupA (B0 :: m)) (by rw [List.getElem?_append_right (Nat.le_refl _)]; simp)
  obtain ⟨t, ts, rfl, ht1, ht2⟩ := hv2
  have hdl : AllV F xs.dropLast l := by
    have z := h5.take l.length
    rw [List.take_left] at z
    rw [List.dropLast_eq_take, hlen]
    exact z
  obtain ⟨g3, S3⟩ := sat_wr g S hr h1 hdl
  refine ⟨_, h1, .inl ⟨rfl, _, SqL.of h4⟩, p, xs, .ref t, rfl, rfl, h4, by rw [hlen]; exact hv1, H0, F, S3, fun H2 F2 g2 => ⟨H0, F2, S3.gr g2, fun H4 F4 g4 => ?_⟩⟩
  have tl : ts.length = m.length + 1 := by rw [ht2.length]; rfl
  refine ⟨t, ts, rfl, SqT.of (g4.h t _ (g2.h t _ (g3.i t _ ht1))), ?_, fun pp hp => ?_⟩
  · intro z
    have z1 := z.1
    exact sIx_pos (n := ts.length) (i := 1) 0 (by decide) (by omega) z1
  · have gg := (g3.trans g2).trans g4
    have e : cutV ts (some ((1 : Nat) : Int)) none = ts.drop 1 := by
      unfold cutV
      rw [HT.sIx_none, show HT.sIx ts.length 0 (some ((1 : Nat) : Int)) = min 1 ts.length from HT.sIx_nat ts.length 0 1, Nat.min_eq_left (by omega), List.take_of_length_le (by rw [List.length_drop]; exact Nat.le_refl _)]
    have e1 : cutV ts (some (1 : Int)) none = ts.drop 1 := e
    have n4 := gg.i.none hp
    refine q _ _ _ (upd F4 pp (.tup (cutV ts (some (1 : Int)) none))) k (gg.trans (.new gg.i hp)) ?_
    refine (((S3.gr g2).gr g4).gr (.new gg.i hp)).set ⟨pp, _, rfl, upd_same, ?_⟩
    rw [e1]
    exact (((ht2.drop 1).mono (g2.f.trans g4.f)).mono (Ex.new n4))
end
end Lk

set_option Elab.async false
set_option linter.all false
set_option maxRecDepth 100000
set_option maxHeartbeats 4000000
namespace Lk
open PySem PySem.Calls L2
/-! ### what an owned list holds, opened -/
theorem sat_ownEx {H0 F H : Hp} {σ : L2.St} {ρ : List En} {i : Nat} {l : List As} {τ : Type} {P : τ → Prop} {l' : τ → List As} (S : Sat H0 F σ H ρ) (hi : ρ[i]? = some (En.own l)) (h : ∀ F xs, AllV F xs l → ∃ t, P t ∧ AllV F xs (l' t)) : ∃ t, P t ∧ Sat H0 F σ H (ρ.set i (.own (l' t))) := by
  obtain ⟨p', xs, h1, h2, h3, h4, h5⟩ := S.own i l hi
  obtain ⟨t, ht, hx⟩ := h F xs h5
  have hi' : i < ρ.length := (List.getElem?_eq_some_iff.mp hi).1
  refine ⟨t, ht, S.ex, fun j B e => ?_, fun j m' e => ?_, fun j k m1 n1 q e1 e2 q1 q2 => ?_, by rw [List.length_set]; exact S.len⟩
  · by_cases hj : i = j
    · subst hj
      rw [List.getElem?_set_self hi'] at e
      simp at e
    · rw [List.getElem?_set_ne hj] at e
      exact S.fr j B e
  · by_cases hj : i = j
    · subst hj
      rw [List.getElem?_set_self hi'] at e
      have e : l' t = m' := by simpa using e
      subst e
      exact ⟨p', xs, h1, h2, h3, h4, hx⟩
    · rw [List.getElem?_set_ne hj] at e
      exact S.own j m' e
  · have back : ∀ j m', (ρ.set i (.own (l' t)))[j]? = some (En.own m') → ∃ m'', ρ[j]? = some (En.own m'') := fun j m' e => by
      by_cases hj : i = j
      · subst hj
        exact ⟨l, hi⟩
      · rw [List.getElem?_set_ne hj] at e
        exact ⟨m', e⟩
    obtain ⟨a1, z1⟩ := back j m1 e1
    obtain ⟨a2, z2⟩ := back k n1 e2
    exact S.sep j k a1 a2 q z1 z2 q1 q2
theorem ba_ownEx {X : Cx} {sts : List Stmt} {ρ : List En} {Nx : List En → Prop} {W : Wn} {i : Nat} {l : List As} {τ : Type} {P : τ → Prop} {l' : τ → List As} (hi : ρ[i]? = some (En.own l)) (h : ∀ F xs, AllV F xs l → ∃ t, P t ∧ AllV F xs (l' t)) (k : ∀ t, P t → BA X sts (ρ.set i (.own (l' t))) Nx W) : BA X sts ρ Nx W := by
  refine ⟨fun pins s σ H D I ⟨F0, H0, F, g, S, q⟩ => ?_⟩
  obtain ⟨t, ht, T⟩ := sat_ownEx S hi h
  exact (k t ht).run pins s σ H D I ⟨F0, H0, F, g, T, q⟩
end Lk

set_option Elab.async false
set_option linter.all false
set_option maxRecDepth 100000
set_option maxHeartbeats 4000000
namespace Lk
open PySem PySem.Calls L2 PySem.Spec PyProof.Rows NdefX
/-! ### super().__init__(e) in an own error's __init__ -/
/-- what the written part says of the def at f: a method that names __class__ -/
structure SupAt (P : Program) (K : PySem.W.Frag) (mg : Str → Option Value) (f cc cda C : Addr) (name qual : Str) (params : Arguments) (body : List Stmt) (scope : Scope) (fd : FuncData) : Prop where
  lk : ∃ (oc : Value) (od : Option Addr) (kV doc pm : Value) (an : Option Addr) (ct : Value) (osl : Array (Option Value)), fd = PySem.W.fnX name qual params body scope [("__class__", cc)] .none kV doc pm an (.ref cda) ct ∧ K.lookup f = some ⟨oc, od, .func fd, osl⟩
  cd : PySem.W.codeIn K (.ref cda) qual = true
  file : ∃ (c : Value) (d : Option Addr) (vs : Array Value) (sl : Array (Option Value)) (fl : Str) (tf : Tok), K.lookup cda = some ⟨c, d, .fields vs, sl⟩ ∧ vs[2]? = some (.str fl tf) ∧ ((P.main.file : Str) == fl) = true
  cell : ∃ (c : Value) (d : Option Addr) (sl : Array (Option Value)), K.lookup cc = some ⟨c, d, .cell (some (.ref C)), sl⟩
  sub : PySem.W.mroIn K C (.ref C) = some true
  op : PySem.W.nsIn K cStatics "thirdparty.any" = some none
  ini : PySem.W.ks_superIn K C C "__init__" = some (some (.builtin "ValueError.__init__"))
  sve : PySem.W.subIn K (.ref C) (.type "ValueError") = some true
  sup : mg "super" = none
  top : (P.main.scope.names.lookup ("super" : Str)).isSome = false
section
variable {CX : CXT} {P : Program} {w : World} {K : PySem.W.Frag} {mg : Str → Option Value} {base : Heap} {f cc cda C : Addr} {name qual : Str} {params : Arguments} {rest : List Stmt} {scope : Scope} {fd : FuncData} {N ps : List Str} {k : Nat} {sp : Sp} {e : Expr} {p0 p1 p2 p3 p4 : Pos} {ar : Arg}
abbrev supSt (p0 p1 p2 p3 p4 : Pos) (e : Expr) : Stmt := .Expr (.Call (.Attribute (.Call (.Name "super" p0) [] [] p1) "__init__" p2) [e] [] p3) p4
def supEv (env : Env) (p0 p1 p2 p3 : Pos) (e : Expr) (pl : Sem Bool) : Prop := eval (.Call (.Attribute (.Call (.Name "super" p0) [] [] p1) "__init__" p2) [e] [] p3) env = (do
  let ov ← attributeBase (.Call (.Name "super" p0) [] [] p1) "__init__" env (eval (.Call (.Name "super" p0) [] [] p1) env)
  standAt p2.atName
  let (f, first) ← holding [ov] (getMethod ov "__init__" pl)
  callWith p3 f first (backTo p3 (starEach [e] env)) [])
theorem bo_super : bootBuiltins ("super" : Str) = some (.type "super") := by decide +kernel
theorem init_bound {X : Cx} {pins : List (Addr × Obj)} {σ : L2.St} {H : Hp} {s : Shared} {u a C : Addr} {us : List Value} {Q : Value → Shared → Prop} (T : OexC X.K C) (I : Inv X pins σ H s) (e : H a = some (exo a C none)) (hu : s.heap.get? u = some (PySem.W.kxs_mw "ValueError.__init__" a)) (hl : us.length ≤ sizeLine)
    (h : ∀ s', Inv X pins σ H s' → Q .none s') : wpAny (model X.prog X.w) X.A (call (.ref u) us) Q E s := by
  obtain ⟨nm, q, N, bs, bm, sn, sub, ab, col, dd, k0, k1, k2, k3, k5, hC, hbm⟩ := T.cls
  obtain ⟨t1, ho⟩ := exo_at I.hok e
  have hC' := I.kIn _ _ hC
  obtain ⟨hp, g, d, t, os⟩ := s
  refine wpAny_call (codeAny_of_tree ?_)
  show wpAny _ X.A.in1 (callAny (.ref u) ⟨us, []⟩) _ _ _
  simp only [callAny]
  refine wpAny_bind (wpAny_load hu ?_)
  simp only [PySem.W.kxs_mw, show (Value.type "method-wrapper" == Value.type "method" || Value.type "method-wrapper" == Value.type "builtin_function_or_method" || Value.type "method-wrapper" == Value.type "method-wrapper") = true by decide, if_true]
  refine PySem.W.KFB.if_so (by decide) ?_
  refine wpAny_bind (PySem.W.check_bound_init PySem.F.excBase_ValueError.toExcCallFacts hC' ho rfl ?_)
  refine wpAny_bind (wpAny_pure (wpAny_pure ?_))
  refine ⟨plainId_quiet PySem.F.excBase_ValueError.init.plain _, codeAny_builtin PySem.F.excBase_ValueError.initEntry ?_⟩
  refine PySem.W.exc_init_tree (cls := .ref C) (t0 := t1) (dv := none) (c2 := .none) (c3 := .none) (b4 := .bool false) ho hl fun h' k hx _ => ?_
  have J := I.write (t' := t) (x := a) (e := a) (o := exo a C none) (by rw [e]; exact True.intro) (.inl rfl) k ⟨_, hx⟩ (exo_ok hx)
  have eu : upd H a (exo a C none) = H := by
    funext b
    by_cases hb : b = a
    · rw [hb, upd_same, e]
    · rw [upd_ne hb]
  rw [eu] at J
  exact h _ J
/-- super().__init__(e) -/
theorem at_super {X : Cx} {pl : Sem Bool} {pins : List (Addr × Obj)} {σ : L2.St} {H : Hp} {s : Shared} {body bd : List Stmt} {a : Addr} {te : TE} {Q : Value → Shared → Prop} (T : SupAt X.prog X.K X.mg f cc cda C name qual params bd scope fd) (O : OexC X.K C) (I : Inv X pins σ H s)
    (hk : X.env.scope.kind = .function) (hks : X.env.kindOf "super" = some .globalImplicit) (hkc : X.env.kindOf "__class__" = some .free) (hka : X.env.kindOf ar.arg = some .local) (hfu : X.env.func = some f) (hco : X.env.code = .ref cda) (hcl : X.env.cells.lookup ("__class__" : Str) = some cc) (hN : X.N[0]? = some ar.arg)
    (hpar : (params.posonlyargs ++ params.args).head? = some ar) (ha : σ[0]? = some (some (.ref a))) (ea : H a = some (exo a C none)) (hte : PE X e te) (hse : starEach [e] X.env = (false, eval e X.env) :: starEach [] X.env) (hc : supEv X.env p0 p1 p2 p3 e pl)
    (h : te σ H fun v H1 => H1 a = some (exo a C none) ∧ ∀ s', Inv X pins σ H1 s' → Q .none s') :
    PySem.wpAt (model X.prog X.w) X.A (.func body X.env) (eval (.Call (.Attribute (.Call (.Name "super" p0) [] [] p1) "__init__" p2) [e] [] p3) X.env) Q X.xe s := by
  obtain ⟨oc, od, kV, doc, pm, an, ct, osl, rfl, lk⟩ := T.lk
  obtain ⟨cF, dF, vF, sF, fl, tf, lF, hvF, hfl⟩ := T.file
  obtain ⟨cC, dC, sC, lC⟩ := T.cell
  obtain ⟨nm, q, Ns, bs, bm, sn, sub, ab, col, dd, k0, k1, k2, k3, k5, hC, hbm⟩ := O.cls
  have hcI : PySem.W.clsIn X.K C = some { name := nm, bases := bs, mro := .ref C :: bm, ns := Ns, qualname := q, hasDict := true, slotNames := sn, subclasses := sub, abstract := ab, collection := col, hasDel := false } := by unfold PySem.W.clsIn; rw [hC] <;> rfl
  have KX := I.kIn
  obtain ⟨t1, ho⟩ := exo_at I.hok ea
  obtain ⟨mb, hb1, hb2⟩ := I.mod.blt
  obtain ⟨m, hn, hlk⟩ := id I.loc
  obtain ⟨u0, ru, look⟩ := hlk 0 ar.arg (.ref a) hN ha (.inl hka)
  obtain rfl : u0 = Value.ref a := ru
  have hma : m ar.arg = some (.ref a) := by
    rcases look with ⟨_, e⟩ | ⟨k, _⟩
    · exact e
    · rw [hka] at k
      rcases k with k | k <;> cases k
  refine ks_wpAt_MethodCall (pl := pl) ?_ hc
  refine ks_wpAt_super_base hks hkc (by decide) hfu (KX _ _ lk) rfl hpar hco (KX _ _ lF) rfl hvF hfl T.top ?_
  refine PySem.W.ks_loadName_global hk hks (Calls.loadGlobal_builtin (by rw [I.ok.glob]; exact I.mod.glob.keeps I.bk) T.sup (by rw [I.ok.blt]; exact hb1.keeps I.bk) ((hb2 "super" (by decide)).trans bo_super) ⟨rfl, ?_⟩)
  refine wpAny_loadName_free hk hkc hcl ⟨_, KX _ _ lC, rfl⟩ ?_
  refine wpAny_loadName_local hk hka hn hma ?_
  obtain ⟨hp, g, d, t, os⟩ := s
  have hCo : hp.get? C = some _ := KX _ _ hC
  refine ks_wpAny_isType_cls hCo rfl ⟨rfl, ?_⟩
  refine ks_wpAny_call_super hCo rfl ho rfl (fun c z => by cases z) (PySem.W.looks_mroIn KX T.sub) (fun h' hso k => ?_)
  have I1 : Inv X pins σ H ⟨h', g, d, t, os⟩ := I.kept (t' := t) k
  have KX1 : X.K.In h' := I1.kIn
  have ho1 := k _ _ ho
  have IA : PySem.W.InstAt h' a { cls := .ref C, dict := none, data := .fields #[.ref t1, .none, .none, .none, .bool false, .none] } C none := ⟨ho1, rfl, rfl, trivial⟩
  have hf : PySem.W.alongIn X.K "__init__" (((Value.ref C :: bm).dropWhile (· != .ref C)).drop 1) = some (some (.builtin "ValueError.__init__")) := by
    have z := T.ini
    unfold PySem.W.ks_superIn at z
    rw [hcI] at z
    exact z
  refine PySem.W.kxs_getMethod PySem.W.kxs_ValueError hso (PySem.W.looks_opaque KX1 T.op) (l₀ := .ref C :: bm) (fun A Q E s k q => wpAny_bind ((PySem.W.looks_clsIn KX1 hcI) A _ E s k (wpAny_pure q))) rfl KX1 hf (IA.type.andThen (PySem.W.looks_subIn KX1 T.sve)) (PySem.W.ks_ne KX1 IA hcI) (by decide) ?_
  have k2 : ∀ b o, h'.get? b = some o → (h'.push (PySem.W.kxs_mw "ValueError.__init__" a)).get? b = some o := fun b o e => Heap.get?_push_of_some _ e
  have I2 : Inv X pins σ H ⟨h'.push (PySem.W.kxs_mw "ValueError.__init__" a), g, d, t + 1, os⟩ := I1.kept (t' := t + 1) k2
  have hu : (h'.push (PySem.W.kxs_mw "ValueError.__init__" a)).get? h'.objs.size = some (PySem.W.kxs_mw "ValueError.__init__" a) := Heap.get?_push_at rfl rfl
  have fp := I1.fpOk (H' := H) (b := h'.objs.size) (Nat.le_refl _) (I1.hok.fresh (Nat.le_refl _))
  have I3 := I2.pinned (fp := [h'.objs.size]) (fun b hb => by rw [List.mem_singleton.mp hb]; exact fp) (fun b hb => by rw [List.mem_singleton.mp hb]; exact ⟨_, hu, fun v z => by cases z⟩)
  have ha1 : PA X [e] (tCons te tNil) := pa_cons hte pa_nil hse
  have hmem : (h'.objs.size, PySem.W.kxs_mw "ValueError.__init__" a) ∈ pinsAt [h'.objs.size] (h'.push (PySem.W.kxs_mw "ValueError.__init__" a)) := mem_pinsAt (List.mem_singleton.mpr rfl) hu
  have hr := ha1.run p3 _ _ σ H (fun vs H1 => match vs with | [_] => H1 a = some (exo a C none) ∧ ∀ s', Inv X pins σ H1 s' → Q .none s' | _ => False) I3 h
  rw [hse]
  refine PySem.W.kxs_callWith (i := "ValueError.__init__") (x := a) rfl ?_
  rw [hse] at hr
  refine evalArgs_plain (thn hr fun us s1 ⟨vs, H1, J, r, q⟩ => ?_)
  match vs, r, q with
  | [v], r, ⟨eb, q⟩ =>
    have hu1 := (J.pin _ (List.mem_append_right _ (List.mem_append_right _ hmem))).1
    refine ⟨hu1, ?_⟩
    refine init_bound O J eb hu1 ?_ fun s' J' => q s' J'.unpinned
    have z := r.length
    show ([] ++ us).length ≤ sizeLine
    rw [List.nil_append, ← z, sizeLine_eq]
    exact (by decide : 1 ≤ 16777216)
/-- THE RULE: such an __init__ by the rest of its body -/
theorem fn_super {nf : NF} (hnf : nf = ⟨name, qual, params, supSt p0 p1 p2 p3 p4 e :: rest, scope, [("__class__", cc)], cda⟩) (T : SupAt P K mg f cc cda C name qual params (supSt p0 p1 p2 p3 p4 e :: rest) scope fd) (O : OexC K C) (S : NScope N ps ["__class__"] scope) (hsup : scope.names.lookup ("super" : Str) = some .globalImplicit) (hpar : (params.posonlyargs ++ params.args).head? = some ar) (hN : N[0]? = some ar.arg) (hka : scope.names.lookup ar.arg = some .local)
    (len : ∀ vs H Q E, sp vs H Q E → vs.length = ps.length)
    (hse : ∀ env, starEach [e] env = (false, eval e env) :: starEach [] env) (hc : ∀ env, ∃ pl, supEv env p0 p1 p2 p3 e pl) (hint : ∀ L, interactive (envF nf f L) = false) (hsw : ∀ env, swapsWith (.Call (.Attribute (.Call (.Name "super" p0) [] [] p1) "__init__" p2) [e] [] p3) none p4.line env = pure false)
    (hbody : ∀ (A : Around) (outer : List Env) (s : Shared) (H : Hp) (vs : List V) (Q : VK) (E : XK), Room k (A.deeper (envF nf f s.heap.objs.size)) → sp vs H Q E →
      ∃ a, vs[0]? = some (.ref a) ∧ H a = some (exo a C none) ∧ ∃ (te : TE) (Good : V → Hp → Prop), PE (ncx CX P w K mg base N nf f A outer s H E) e te ∧ (∀ Qx : VK, (∀ v H1, Good v H1 → Qx v H1) → te (startF N vs [none]) H Qx) ∧ ∀ v H1, Good v H1 → H1 a = some (exo a C none) ∧
        ∃ t, PSs (ncx CX P w K mg base N nf f A outer s H E) rest t ∧ t { nx := fun _ H' => Q .non H', rt := Q } (startF N vs [none]) H1) :
    FnOk P w K mg base CX (k + 1) f fd ps sp := by
  refine ⟨len, fun A outer s H args us vs Q E hr e0 hb r hsp => ?_⟩
  have hl := len _ _ _ _ hsp
  have KX : K.In s.heap := e0.mod.kin.keeps fun b o e => (e0.bs b o e).1
  have lim : s.heap.NoLimit := e0.mod.nolimit.keeps fun b o e => (e0.bs b o e).1
  have T' := T
  obtain ⟨oc, od, kV, doc, pm, an, ct, osl, rfl, lk⟩ := T.lk
  obtain ⟨cC, dC, sC, lC⟩ := T.cell
  refine codeAny_call_function hr.depth (KX _ _ lk) rfl S.co S.gen rfl (PySem.W.codeRec_of KX T.cd) (hb _ _ _ _ ?_)
  refine wpAny_newFunctionEnv S.nocell (fun ⟨n, _⟩ hy => S.par n (List.of_mem_zip hy).1) (fun h₁ hns hsb => ⟨lim.fresh _ hsb, ?_⟩) S.kind
  have kp : ∀ b o, s.heap.get? b = some o → h₁.get? b = some o := fun b o e => hsb.extBut b o (Nat.ne_of_lt (Heap.lt_size e)) (Heap.get?_push_of_some _ e)
  have one : ∀ y c, List.lookup y [(("__class__" : Str), cc)] = some c → y = "__class__" ∧ c = cc := fun y c h => by
    by_cases hy : y = "__class__"
    · subst hy
      have z : cc = c := by simpa [List.lookup] using h
      exact ⟨rfl, z.symm⟩
    · have hb : (y == ("__class__" : Str)) = false := by simpa using hy
      simp [List.lookup, hb] at h
  have CA : CellsAt nf.cl ["__class__"] [none] s.heap H := by
    subst hnf
    refine ⟨rfl, fun y c h => ?_, fun x y c h1 h2 => (one x c h1).1.trans (one y c h2).1.symm, fun i y h => ?_⟩
    · obtain ⟨_, rfl⟩ := one y c h
      exact ⟨(e0.bs _ _ (e0.mod.kin _ _ lC)).2, some (.ref C), ⟨_, KX _ _ lC, rfl⟩⟩
    · cases i with
      | zero =>
        have h : ("__class__" : Str) = y := by simpa using h
        subst h
        exact ⟨cc, by simp [List.lookup], fun v h => by simp at h⟩
      | succ i => simp at h
  have eS : nf.scope = scope := by rw [hnf]
  have I : Inv (ncx CX P w K mg base N nf f A outer s H E) [] (startF N vs [none]) H { s with heap := h₁, toks := s.toks + (ps.zip us).length } := inv_startN (by rw [eS]; exact S) hr.hd e0 hl r CA hns kp
  obtain ⟨a, ha, ea, te, Good, hte, hmo, q⟩ := hbody A outer s H vs Q E (by subst hnf; exact hr.deeper _) hsp
  have ha' : (startF N vs [none])[0]? = some (some (.ref a)) := by
    unfold startF
    cases vs with
    | nil => simp at ha
    | cons v vs =>
      have ha : v = .ref a := by simpa using ha
      subst ha
      rfl
  subst hnf
  show codeAny _ _ (.func (supSt p0 p1 p2 p3 p4 e :: rest) (envF ⟨name, qual, params, supSt p0 p1 p2 p3 p4 e :: rest, scope, [("__class__", cc)], cda⟩ f s.heap.objs.size)) _ _
  refine ks_codeAny_funcAt ?_
  refine ks_wpAt_execs_cons (ks_wpAt_Expr_any ?_ (hint _) (hsw _))
  obtain ⟨pl, hpl⟩ := hc (envF ⟨name, qual, params, supSt p0 p1 p2 p3 p4 e :: rest, scope, [("__class__", cc)], cda⟩ f s.heap.objs.size)
  refine at_super (X := ncx CX P w K mg base N ⟨name, qual, params, supSt p0 p1 p2 p3 p4 e :: rest, scope, [("__class__", cc)], cda⟩ f A outer s H E) T' O I S.kind hsup (S.frk _ (List.mem_singleton.mpr rfl)) hka rfl rfl (by show List.lookup ("__class__" : Str) [(("__class__" : Str), cc)] = some cc; simp [List.lookup]) hN hpar ha' ea hte (hse _) hpl ?_
  refine hmo _ fun v H1 hg => ?_
  obtain ⟨eb, t, ht, hq⟩ := q v H1 hg
  refine ⟨eb, fun s1 J => wpAt_of_wpAny ?_⟩
  refine wpAny_mono (ht.run [] s1 _ H1 _ J hq) (fun fl s' hs => ?_) fun e s' hs => hs
  have fin : ∀ {σ' : L2.St} {H' : Hp} {v : V} {u : Value}, Inv (ncx CX P w K mg base N ⟨name, qual, params, supSt p0 p1 p2 p3 p4 e :: rest, scope, [("__class__", cc)], cda⟩ f A outer s H E) [] σ' H' s' → L2.RelV v u → Q v H' → CE outer P w H s Q u s' :=
    fun {σ' H' v u} J rv q => ⟨v, H', J.os, J.bare, J.base, J.hok, rv, q⟩
  cases fl with
  | ret u =>
    obtain ⟨v, σ', H', J, rv, q⟩ := hs
    exact fin J rv q
  | next =>
    obtain ⟨σ', H', J, q⟩ := hs
    exact fin (v := V.non) (u := Value.none) J rfl q
  | brk =>
    obtain ⟨_, _, _, q⟩ := hs
    exact False.elim q
  | cont =>
    obtain ⟨_, _, _, q⟩ := hs
    exact False.elim q
end
end Lk

set_option Elab.async false
set_option linter.all false
set_option maxRecDepth 100000
set_option maxHeartbeats 4000000
namespace Lk
open PySem PySem.Calls L2 PySem.Spec PyProof.Rows
/-! ### a list or a tuple; numbers -/
def sq (b : Bool) (l : List As) : As := if b then lstA l else tupA l
abbrev nat (n : Nat) : As := int (n : Int)
/-! ### dicts with numbers as keys -/
def kI (k : Int) : Key := Sum.inl k
def diA (l : List (Int × As)) : As := ⟨fun F v => ∃ a vs, v = .ref a ∧ F a = some (.dK ((l.map fun x => kI x.1).zip vs)) ∧ AllV F vs (l.map Prod.snd), fun e ⟨a, vs, h1, h2, h3⟩ => ⟨a, vs, h1, e a _ h2, h3.mono e⟩⟩
theorem kI_inj (x y : Int) (h : kI x = kI y) : x = y := by
  unfold kI at h
  simpa using h
/-- in its place, or at the end -/
def putA (l : List (Int × As)) (k : Int) (A : As) : List (Int × As) := if (l.any fun x => decide (x.1 = k)) = true then l.map (fun x => if x.1 = k then (x.1, A) else x) else l ++ [(k, A)]
theorem zip_any (k : Int) : ∀ {l : List (Int × As)} {vs : List V}, vs.length = l.length → (((l.map fun x => kI x.1).zip vs).any fun kv => decide (kv.1 = kI k)) = l.any fun x => decide (x.1 = k)
  | [], vs, _ => by simp
  | x :: l, v :: vs, h => by
    rw [List.map_cons, List.zip_cons_cons, List.any_cons, List.any_cons, zip_any k (l := l) (vs := vs) (by simpa using h)]
    congr 1
    by_cases e : x.1 = k
    · rw [e]; simp
    · rw [decide_eq_false e, decide_eq_false fun z => e (kI_inj _ _ z)]
  | _ :: _, [], h => by simp at h
theorem putK_zip {F : Hp} {k : Int} {A : As} {v : V} (hv : A.p F v) : ∀ {l : List (Int × As)} {vs : List V}, AllV F vs (l.map Prod.snd) → ∃ us, putK ((l.map fun x => kI x.1).zip vs) (kI k) v = ((putA l k A).map fun x => kI x.1).zip us ∧ AllV F us ((putA l k A).map Prod.snd) := by
  intro l vs h
  have hl : vs.length = l.length := by rw [h.length, List.length_map]
  unfold putK putA
  rw [zip_any k hl]
  by_cases c : (l.any fun x => decide (x.1 = k)) = true
  · rw [if_pos c, if_pos c]
    clear c
    induction l generalizing vs with
    | nil =>
      cases vs with
      | nil => exact ⟨[], rfl, trivial⟩
      | cons _ _ => exact h.elim
    | cons x l ih =>
      cases vs with
      | nil => exact h.elim
      | cons u vs =>
        obtain ⟨us, e1, e2⟩ := ih (vs := vs) h.2 (by simpa using hl)
        by_cases e : x.1 = k
        · refine ⟨v :: us, ?_, ?_⟩
          · rw [List.map_cons, List.zip_cons_cons, List.map_cons, List.map_cons, List.map_cons, e1]
            rw [if_pos (show kI x.1 = kI k by rw [e]), if_pos e, List.zip_cons_cons]
          · rw [List.map_cons, if_pos e, List.map_cons]
            exact ⟨hv, e2⟩
        · refine ⟨u :: us, ?_, ?_⟩
          · rw [List.map_cons, List.zip_cons_cons, List.map_cons, List.map_cons, List.map_cons, e1]
            rw [if_neg (fun z => e (kI_inj _ _ z)), if_neg e, List.zip_cons_cons]
          · rw [List.map_cons, if_neg e, List.map_cons]
            exact ⟨h.1, e2⟩
  · rw [if_neg c, if_neg c]
    refine ⟨vs ++ [v], ?_, ?_⟩
    · rw [List.map_append, List.zip_append (by rw [List.length_map, hl])]
      rfl
    · rw [List.map_append]
      exact h.snoc hv
theorem putA_len (l : List (Int × As)) (k : Int) (A : As) : (putA l k A).length ≤ l.length + 1 := by
  unfold putA
  split
  · rw [List.length_map]; omega
  · rw [List.length_append, List.length_cons, List.length_nil]; exact Nat.le_refl _
section
variable {α : Type}
/-- what a dict comprehension makes -/
def dcA (l : List α) (kf : α → Int) (g : α → As) : List (Int × As) := l.foldl (fun acc a => putA acc (kf a) (g a)) []
theorem dcA_len (kf : α → Int) (g : α → As) : ∀ (l : List α) (acc : List (Int × As)), (l.foldl (fun acc a => putA acc (kf a) (g a)) acc).length ≤ acc.length + l.length
  | [], _ => Nat.le_refl _
  | a :: l, acc => by
    have h1 := dcA_len kf g l (putA acc (kf a) (g a))
    have h2 := putA_len acc (kf a) (g a)
    rw [List.foldl_cons, List.length_cons]
    omega
theorem dcA_snoc (l : List α) (a : α) (kf : α → Int) (g : α → As) : dcA (l ++ [a]) kf g = putA (dcA l kf g) (kf a) (g a) := by
  unfold dcA
  rw [List.foldl_append]
  rfl
structure Dcs (F1 H1 : Hp) (D : Addr) (l : List α) (p : α → Bool) (kf : α → Int) (g : α → As) (i : Nat) (H' : Hp) : Prop where
  ex : ∃ F' vs, Gr F1 H1 F' H' ∧ F' D = none ∧ H' D = some (.dK (((dcA ((l.take i).filter p) kf g).map fun x => kI x.1).zip vs)) ∧ AllV F' vs ((dcA ((l.take i).filter p) kf g).map Prod.snd)
def tKc (ρ : α → List En) (l : List α) (p : α → Bool) (kf : α → Int) : TE := fun σ H Q => ∃ a, a ∈ l ∧ p a = true ∧ tA (ρ a) (int (kf a)) σ H Q
theorem pe_kc {X : Cx} {e : Expr} {ρ : α → List En} {l : List α} {p : α → Bool} {kf : α → Int} (h : ∀ a ∈ l, p a = true → EA X e (ρ a) (int (kf a))) : PE X e (tKc ρ l p kf) := ⟨fun pins s σ H Q I ⟨a, ha, hp, q⟩ => (h a ha hp).run pins s σ H Q I q⟩
theorem dcs_turn {F1 H1 : Hp} {D : Addr} {l : List α} {p : α → Bool} {kf : α → Int} {g : α → As} {i : Nat} {H' H0 : Hp} {σ : L2.St} {j : Nat} {ρ : List En} {enc : α → As} {x : V} {vs : List Nat} {a : α} (hj : j ∈ vs) (ha : l[i]? = some a) (hz : l.length < sizeLine)
    (S : Sat H0 F1 σ H1 ρ) (hx : (enc a).p F1 x) (L : Dcs F1 H1 D l p kf g i H') (hD : H1 D = none) :
    gName j x (L2.wipe σ vs) H' fun σ2 H2 => L2.wipe σ2 vs = L2.wipe σ vs ∧ tTc (fun a => (wipeE ρ vs).set j (.fr (enc a))) l p σ2 H2 fun b H3 =>
      if b = true then tKc (fun a => (wipeE ρ vs).set j (.fr (enc a))) l p kf σ2 H3 fun y H4 => tEc (fun a => (wipeE ρ vs).set j (.fr (enc a))) l p g σ2 H4 fun z H5 => ∃ kvs k, y = kV k ∧ H5 D = some (.dK kvs) ∧ kvs.length < sizeLine ∧ Dcs F1 H1 D l p kf g (i + 1) (upd H5 D (.dK (putK kvs k z))) else Dcs F1 H1 D l p kf g (i + 1) H3 := by
  obtain ⟨F', us, G, fD, hDl, hall⟩ := L.ex
  have hi : i < l.length := (List.getElem?_eq_some_iff.mp ha).1
  have mem : a ∈ l := List.mem_of_getElem? ha
  have tk : l.take (i + 1) = l.take i ++ [a] := by
    rw [List.take_add_one, ha]
    rfl
  refine ⟨wipe_set hj, a, mem, H0, F', ((S.gr G).wipe vs).set ((enc a).mono G.f hx), fun H3 F3 g3 => ?_⟩
  have GD : Gr F1 H1 F3 H3 := G.trans g3
  have f3 : F3 D = none := g3.n D _ hDl fD
  have h3 : H3 D = some _ := g3.h D _ hDl
  cases hp : p a with
  | false =>
    refine ⟨F3, us, GD, f3, ?_, ?_⟩
    · rw [tk, List.filter_append, List.filter_cons, hp]
      simpa using h3
    · rw [tk, List.filter_append, List.filter_cons, hp]
      simpa using hall.mono g3.f
  | true =>
    refine ⟨a, mem, hp, H0, F3, ((S.gr GD).wipe vs).set ((enc a).mono GD.f hx), fun y H4 F4 g4 hy => ?_⟩
    have hy : y = .int (kf a) := hy
    subst hy
    have GE := GD.trans g4
    refine ⟨a, mem, hp, H0, F4, ((S.gr GE).wipe vs).set ((enc a).mono GE.f hx), fun z H5 F5 g5 hz5 => ?_⟩
    have f4 : F4 D = none := g4.n D _ h3 f3
    have h4 : H4 D = some _ := g4.h D _ h3
    have f5 : F5 D = none := g5.n D _ h4 f4
    have h5 : H5 D = some _ := g5.h D _ h4
    refine ⟨_, kI (kf a), rfl, h5, ?_, ?_⟩
    · have q := dcA_len kf g ((l.take i).filter p) []
      have q2 := List.length_filter_le p (l.take i)
      rw [List.length_take] at q2
      rw [List.length_zip, List.length_map]
      have q3 : (dcA ((l.take i).filter p) kf g).length ≤ ((l.take i).filter p).length := by simpa [dcA] using q
      omega
    · have GF := GE.trans g5
      obtain ⟨us', e1, e2⟩ := putK_zip (k := kf a) hz5 ((hall.mono (g3.f.trans g4.f)).mono g5.f)
      refine ⟨F5, us', ⟨GF.f, fun b o q => ?_, fun b o q => ?_, GF.n⟩, f5, ?_, ?_⟩
      · rw [upd_ne (ne_of_none q hD)]
        exact GF.h b o q
      · rw [upd_ne (ne_of_none q f5)]
        exact GF.i b o q
      · rw [upd_same, e1, tk, List.filter_append, show List.filter p [a] = [a] by simp [hp], dcA_snoc]
      · rw [tk, List.filter_append, show List.filter p [a] = [a] by simp [hp], dcA_snoc]
        exact e2
section
variable {X : Cx} {ρ : List En} {pos : Pos} {kx vx it : Expr} {ifs : List Expr} {scope : Scope}
theorem tdc_src {own : List (Str × Nat)} {j : Nat} {l : List α} {enc : α → As} {p : α → Bool} {kf : α → Int} {g : α → As} {σ : L2.St} {H : Hp} {Q : VK} (hj : j ∈ own.map (·.2)) (hz : l.length < sizeLine) (h : tA ρ (diA (dcA (l.filter p) kf g)) σ H Q) :
    tDc (iS ρ (l.map enc)) (gName j) (tTc (fun a => (wipeE ρ (own.map (·.2))).set j (.fr (enc a))) l p) (tKc (fun a => (wipeE ρ (own.map (·.2))).set j (.fr (enc a))) l p kf) (tEc (fun a => (wipeE ρ (own.map (·.2))).set j (.fr (enc a))) l p g) (own.map (·.2)) σ H Q := by
  obtain ⟨H0, F, S, k⟩ := h
  refine ⟨H0, F, S, fun J So xs H1 F1 g1 h2 hJ hS D hD => ?_⟩
  have hlen : xs.length = l.length := by rw [h2.length, List.length_map]
  refine it_walk (xs := xs) hJ (fun i H' => Dcs F1 H1 D l p kf g i H') ⟨F1, [], .newH g1.i hD, g1.i.none hD, by simp [dcA, upd_same], by simp [AllV, dcA]⟩ (fun i H' _ L => ?_) (fun i x H' hx L => ?_) (fun H' L => ?_)
  · obtain ⟨F', acc, G, _⟩ := L.ex
    exact hS H' (G.f.trans G.i)
  · have hi : i < l.length := by
      have z := (List.getElem?_eq_some_iff.mp hx).1
      omega
    have ha : l[i]? = some l[i] := List.getElem?_eq_getElem hi
    obtain ⟨u, hu, hA⟩ := h2.get (i := i) (A := enc l[i]) (by rw [List.getElem?_map, ha]; rfl)
    rw [hx] at hu
    have e : x = u := by simpa using hu
    subst e
    exact dcs_turn hj ha hz (S.gr g1) hA L hD
  · rw [hlen] at L
    obtain ⟨F', us, G, fD, hDl, hall⟩ := L.ex
    rw [List.take_length] at hall hDl
    have G' := g1.trans G
    exact k _ H' _ (G'.take (g1.h.none hD) fD hDl) ⟨D, us, rfl, upd_same, hall.mono (Ex.new fD)⟩
/-- {k: v for x in .. if ..}, keys numbers -/
theorem ea_dc {own : List (Str × Nat)} (j : Nat) {x : Str} {px : Pos} {l : List α} {enc : α → As} {p : α → Bool} {kf : α → Int} {g : α → As} (hc : X.calm = true) (hN : X.N.Nodup) (hi : ES X (.Name x px) it ρ (l.map enc)) (hz : l.length < sizeLine) (ok : BlkOk X.N X.env.scope scope own)
    (hg : ∀ (s : Shared) (H : Hp) (C : Addr) (cl : List (Str × Addr)) (fp : List Addr), PG (X.blk s H scope (compEnvC scope cl C X.env) fp) (.Name x px) (gName j))
    (ht : ∀ (s : Shared) (H : Hp) (C : Addr) (cl : List (Str × Addr)) (fp : List Addr), ∀ a ∈ l, PTs (X.blk s H scope (compEnvC scope cl C X.env) fp) ifs (tTs ((wipeE ρ (own.map (·.2))).set j (.fr (enc a))) (p a)))
    (hk : ∀ (s : Shared) (H : Hp) (C : Addr) (cl : List (Str × Addr)) (fp : List Addr), ∀ a ∈ l, p a = true → EA (X.blk s H scope (compEnvC scope cl C X.env) fp) kx ((wipeE ρ (own.map (·.2))).set j (.fr (enc a))) (int (kf a)))
    (he : ∀ (s : Shared) (H : Hp) (C : Addr) (cl : List (Str × Addr)) (fp : List Addr), ∀ a ∈ l, p a = true → EA (X.blk s H scope (compEnvC scope cl C X.env) fp) vx ((wipeE ρ (own.map (·.2))).set j (.fr (enc a))) (g a))
    (hj : j ∈ own.map (·.2) := by decide) (hs : ∀ z, foldedSetIterable it X.env z = pure z := by intro _; rfl) :
    EA X (.DictComp kx vx [⟨.Name x px, it, ifs, 0⟩] scope pos) ρ (diA (dcA (l.filter p) kf g)) :=
  pe_imp (pe_dc (own := own) hc hN hi ok hg (fun s H C cl fp => pts_c (ht s H C cl fp)) (fun s H C cl fp => pe_kc (hk s H C cl fp)) (fun s H C cl fp => pe_c (he s H C cl fp)) hs) fun σ H Q h => tdc_src hj hz h
theorem sw_trueD {gs : List Comprehension} {py : Pos} {y : Str} {l : Nat} {env : Env} (hk : env.scope.kind = .function) (hy : env.scope.names.lookup y = some .local) (hl : (py.line == pos.line) = true)
    (ha : (scope.names.any fun (n, k) => n == y && (k == .local || k == .cell)) = false) : swapsWith (.DictComp kx vx gs scope pos) (some (.Name y py)) l env = pure true := by
  have ky : env.kindOf y = some .local := hy
  have hb : env.blockKind = .function := by unfold Env.blockKind; rw [hk]; rfl
  unfold swapsWith
  simp only [hb, ky, ha, Expr.pos, hl]
  rfl
/-- name = {..} on one line, the name a local -/
theorem ps_setDc {i : Nat} {y : Str} {py : Pos} {tg iter : Expr} {own : List (Str × Nat)} {spos : Pos} {wi : TI} {g : TG} {tt : TT} {tk tv : TE} (hc : X.calm = true) (hN : X.N.Nodup) (hy : X.N[i]? = some y) (hyl : X.env.scope.names.lookup y = some .local)
    (hsw : swapsWith (.DictComp kx vx [⟨tg, iter, ifs, 0⟩] scope pos) (some (.Name y py)) spos.line X.env = pure true) (hi : PI X tg iter wi) (ok : BlkOk X.N X.env.scope scope own)
    (hg : ∀ (s : Shared) (H : Hp) (C : Addr) (cl : List (Str × Addr)) (fp : List Addr), PG (X.blk s H scope (compEnvC scope cl C X.env) fp) tg g) (ht : ∀ (s : Shared) (H : Hp) (C : Addr) (cl : List (Str × Addr)) (fp : List Addr), PTs (X.blk s H scope (compEnvC scope cl C X.env) fp) ifs tt)
    (hk : ∀ (s : Shared) (H : Hp) (C : Addr) (cl : List (Str × Addr)) (fp : List Addr), PE (X.blk s H scope (compEnvC scope cl C X.env) fp) kx tk)
    (he : ∀ (s : Shared) (H : Hp) (C : Addr) (cl : List (Str × Addr)) (fp : List Addr), PE (X.blk s H scope (compEnvC scope cl C X.env) fp) vx tv) (hs : ∀ x, foldedSetIterable iter X.env x = pure x := by intro _; rfl) :
    PS X (.Assign [.Name y py] (.DictComp kx vx [⟨tg, iter, ifs, 0⟩] scope pos) spos) (tAsg (tDc wi g tt tk tv (own.map (·.2))) (gName i)) := by
  refine ⟨fun pins s σ H D I h => ?_⟩
  rw [exec_Assign_Name_used _ _ _ _ hsw]
  refine wpAny_bind (wpAny_standAt (wpAny_bind ?_))
  show wpAny _ X.A (do let _ ← comprehension (.DictComp kx vx [⟨tg, iter, ifs, 0⟩] scope pos) scope X.env (firstIterPos [⟨tg, iter, ifs, 0⟩] pos) newDict false (eval iter X.env) (some (assign (.Name y py) X.env))) _ _ s
  have h : tDc wi g tt tk tv (own.map (·.2)) σ H (fun x H1 => gName i x σ H1 D.nx) := h
  refine wpAny_bind (thn (dc_core (Qf := fun _ s' => SP X pins D .next s') hc hN I hi ok hg ht hk he hs h fun L C s' m H' I' q hn f => ?_) fun _ s' hq => wpAny_pure (wpAny_pure hq))
  show wpAny _ _ (assign (.Name y py) X.env (.ref L)) _ _ _
  refine wpAny_assign_Name (store_ok2 (v := V.ref L) I' hN hy (.inl hyl) rfl (fun s2 I2 ⟨a, sb, ha⟩ => ?_) (.inr hyl))
  obtain ⟨f0, f1, f2, f3, f4, f5⟩ := f
  have haC : C ≠ a := by
    rcases ha with z | z
    · rw [z]; exact f1
    · exact fun e => f4 y a z e.symm
  refine ⟨m, hn.sameBut sb haC, fun h3 sb3 => ?_⟩
  exact ⟨_, H', I2.turned (t' := s2.toks) (fun b o hb e => (sb3.2 b hb).trans e) f0 f1 f3 f4 f5, q⟩
theorem sa_setDc {own : List (Str × Nat)} {Nx : List En → Prop} {W : Wn} {spos : Pos} (i j : Nat) {x y : Str} {px py : Pos} {l : List α} {enc : α → As} {p : α → Bool} {kf : α → Int} {g : α → As} (hc : X.calm = true) (hN : X.N.Nodup) (hi : ES X (.Name x px) it ρ (l.map enc)) (hz : l.length < sizeLine) (ok : BlkOk X.N X.env.scope scope own)
    (hg : ∀ (s : Shared) (H : Hp) (C : Addr) (cl : List (Str × Addr)) (fp : List Addr), PG (X.blk s H scope (compEnvC scope cl C X.env) fp) (.Name x px) (gName j))
    (ht : ∀ (s : Shared) (H : Hp) (C : Addr) (cl : List (Str × Addr)) (fp : List Addr), ∀ a ∈ l, PTs (X.blk s H scope (compEnvC scope cl C X.env) fp) ifs (tTs ((wipeE ρ (own.map (·.2))).set j (.fr (enc a))) (p a)))
    (hk : ∀ (s : Shared) (H : Hp) (C : Addr) (cl : List (Str × Addr)) (fp : List Addr), ∀ a ∈ l, p a = true → EA (X.blk s H scope (compEnvC scope cl C X.env) fp) kx ((wipeE ρ (own.map (·.2))).set j (.fr (enc a))) (int (kf a)))
    (he : ∀ (s : Shared) (H : Hp) (C : Addr) (cl : List (Str × Addr)) (fp : List Addr), ∀ a ∈ l, p a = true → EA (X.blk s H scope (compEnvC scope cl C X.env) fp) vx ((wipeE ρ (own.map (·.2))).set j (.fr (enc a))) (g a))
    (k : Nx (ρ.set i (.fr (diA (dcA (l.filter p) kf g))))) (hy : X.N[i]? = some y := by rfl) (hyl : X.env.scope.names.lookup y = some .local := by rfl)
    (hsw : swapsWith (.DictComp kx vx [⟨.Name x px, it, ifs, 0⟩] scope pos) (some (.Name y py)) spos.line X.env = pure true := by exact sw_trueD rfl rfl rfl (by decide +kernel))
    (hj : j ∈ own.map (·.2) := by decide) (hs : ∀ z, foldedSetIterable it X.env z = pure z := by intro _; rfl) :
    SA X (.Assign [.Name y py] (.DictComp kx vx [⟨.Name x px, it, ifs, 0⟩] scope pos) spos) ρ Nx W :=
  ps_imp (ps_setDc (own := own) (i := i) hc hN hy hyl hsw hi ok hg (fun s H C cl fp => pts_c (ht s H C cl fp)) (fun s H C cl fp => pe_kc (hk s H C cl fp)) (fun s H C cl fp => pe_c (he s H C cl fp)) hs) fun D σ H ⟨F0, H0, F, g0, S, q, _⟩ =>
    tdc_src hj hz ⟨H0, F, S, fun v H' F' g' hv => q _ _ H' F' k (g0.trans g') ((S.gr g').set hv)⟩
end
end
end Lk

set_option Elab.async false
set_option linter.all false
set_option maxRecDepth 100000
set_option maxHeartbeats 4000000
namespace Lk
open PySem PySem.Calls L2 PySem.Spec PyProof.Rows
/-! ### the keys that a dict comprehension makes -/
theorem putA_keys (l : List (Int × As)) (k : Int) (A : As) : (putA l k A).map Prod.fst = if k ∈ l.map Prod.fst then l.map Prod.fst else l.map Prod.fst ++ [k] := by
  unfold putA
  by_cases c : (l.any fun x => decide (x.1 = k)) = true
  · have m : k ∈ l.map Prod.fst := by
      obtain ⟨x, hx, e⟩ := List.any_eq_true.mp c
      exact List.mem_map.mpr ⟨x, hx, of_decide_eq_true e⟩
    rw [if_pos c, if_pos m, List.map_map]
    refine List.map_congr_left fun x _ => ?_
    show (if x.1 = k then (x.1, A) else x).1 = x.1
    split <;> rfl
  · have m : ¬ k ∈ l.map Prod.fst := fun z => by
      obtain ⟨x, hx, e⟩ := List.mem_map.mp z
      exact c (List.any_eq_true.mpr ⟨x, hx, decide_eq_true e⟩)
    rw [if_neg c, if_neg m, List.map_append]
    rfl
/-- each of them once, as they come first -/
def onceF (ks : List Int) : List Int := ks.foldl (fun acc k => if k ∈ acc then acc else acc ++ [k]) []
theorem dcA_keys {α : Type} (kf : α → Int) (g : α → As) : ∀ (l : List α) (acc : List (Int × As)), (l.foldl (fun acc a => putA acc (kf a) (g a)) acc).map Prod.fst = (l.map kf).foldl (fun acc k => if k ∈ acc then acc else acc ++ [k]) (acc.map Prod.fst)
  | [], _ => rfl
  | a :: l, acc => by rw [List.foldl_cons, dcA_keys kf g l, List.map_cons, List.foldl_cons, putA_keys]
theorem dcA_fst {α : Type} (l : List α) (kf : α → Int) (g : α → As) : (dcA l kf g).map Prod.fst = onceF (l.map kf) := dcA_keys kf g l []
theorem onceF_go : ∀ (ks acc : List Int), acc.Nodup → (ks.foldl (fun acc k => if k ∈ acc then acc else acc ++ [k]) acc).Nodup ∧ ∀ x, x ∈ ks.foldl (fun acc k => if k ∈ acc then acc else acc ++ [k]) acc ↔ x ∈ acc ∨ x ∈ ks
  | [], acc, h => ⟨h, fun x => by simp⟩
  | k :: ks, acc, h => by
    rw [List.foldl_cons]
    by_cases m : k ∈ acc
    · rw [if_pos m]
      obtain ⟨h1, h2⟩ := onceF_go ks acc h
      refine ⟨h1, fun x => ?_⟩
      rw [h2, List.mem_cons]
      constructor
      · rintro (z | z)
        · exact .inl z
        · exact .inr (.inr z)
      · rintro (z | z | z)
        · exact .inl z
        · exact .inl (z ▸ m)
        · exact .inr z
    · rw [if_neg m]
      obtain ⟨h1, h2⟩ := onceF_go ks (acc ++ [k]) (List.nodup_append.mpr ⟨h, by simp, fun a ha b hb e => m (by
        have hb : b = k := by simpa using hb
        rw [← hb, ← e]; exact ha)⟩)
      refine ⟨h1, fun x => ?_⟩
      rw [h2, List.mem_append, List.mem_singleton, List.mem_cons]
      constructor
      · rintro ((z | z) | z)
        · exact .inl z
        · exact .inr (.inl z)
        · exact .inr (.inr z)
      · rintro (z | z | z)
        · exact .inl (.inl z)
        · exact .inl (.inr z)
        · exact .inr z
theorem onceF_nodup (ks : List Int) : (onceF ks).Nodup := (onceF_go ks [] List.nodup_nil).1
theorem onceF_mem (ks : List Int) (x : Int) : x ∈ onceF ks ↔ x ∈ ks := by
  rw [onceF, (onceF_go ks [] List.nodup_nil).2]
  simp
theorem look_isSome (k : Int) : ∀ l : List (Int × As), (l.lookup k).isSome = decide (k ∈ l.map Prod.fst)
  | [] => by simp
  | x :: l => by
    obtain ⟨a, A⟩ := x
    rw [List.map_cons]
    by_cases h : k = a
    · subst h; simp [List.lookup]
    · have hb : (k == a) = false := by simpa using h
      rw [List.lookup, hb]
      show (List.lookup k l).isSome = _
      rw [look_isSome k l, Bool.eq_iff_iff]
      simp [h]
theorem dget_i {H : Hp} {F : Hp} {a : Addr} {l : List (Int × As)} {vs : List V} (k : Int) (e : Ex F H) (h : F a = some (.dK ((l.map fun x => kI x.1).zip vs))) : DGet H a (.int k) (valV ((l.map fun x => kI x.1).zip vs) (kI k)) := DGet.k (k := Sum.inl k) (e a _ h)
section
variable {X : Cx} {e a b c o i : Expr} {es : List Expr} {ρ : List En} {A B : As} {pos apos : Pos} {k : Nat}
theorem et_inI {l : List (Int × As)} {s : Int} (hr : Room k X.A) (hi : EW X i ρ (int s)) (ho : EA X o ρ (diA l)) (hm : behindInMarks .In o = false) : ET X (.Compare i [.In] [o] pos) ρ (l.lookup s).isSome :=
  pt_imp (pt_cmp (pc_din (hu_of hr) hi ho) hm) fun σ H Q ⟨H0, F, S, q⟩ => ⟨H0, F, S, fun y H1 F1 g1 hy => ⟨H0, F1, S.gr g1, fun v H2 F2 g2 ⟨p, vs, ev, h1, h2⟩ => by
    have hy : y = .int s := hy
    subst hy
    refine ⟨p, _, ev, dget_i (F := F2) s g2.i h1, ?_⟩
    have z : (valV ((l.map fun x => kI x.1).zip vs) (kI s)).isSome = (l.lookup s).isSome := by
      cases hl : l.lookup s with
      | none =>
        rw [valV_nozip (r := kI) kI_inj h2 hl]
        rfl
      | some A =>
        obtain ⟨u, hu, _⟩ := valV_zip (r := kI) kI_inj h2 hl
        rw [hu]; rfl
    rw [z]
    exact ⟨_, rfl, q H2 F2 (g1.trans g2)⟩⟩⟩
/-- d[k] -/
theorem ea_getI {l : List (Int × As)} {s : Int} (hr : Room k X.A) (ho : EA X o ρ (diA l)) (hi : EW X i ρ (int s)) (hl : l.lookup s = some A) (hs : NoSl i := by exact fun _ _ => rfl) : EA X (.Subscript o i pos) ρ A :=
  pe_imp (pe_dget (hu_of hr) ho hi hs) fun σ H Q ⟨H0, F, S, q⟩ => ⟨H0, F, S, fun v H1 F1 g1 ⟨p, vs, ev, h1, h2⟩ => ⟨H0, F1, S.gr g1, fun y H2 F2 g2 hy => by
    have hy : y = .int s := hy
    subst hy
    obtain ⟨u, hu, hA⟩ := valV_zip (r := kI) kI_inj (h2.mono g2.f) hl
    exact ⟨p, u, ev, hu ▸ dget_i (F := F2) s g2.i (g2.f p _ h1), q u H2 F2 (g1.trans g2) hA⟩⟩⟩
theorem bo_sorted : bootBuiltins ("sorted" : Str) = some (.builtin "sorted") := by decide +kernel
theorem asc_uniq : ∀ {a b : List Int}, a.Perm b → a.Pairwise (· ≤ ·) → b.Pairwise (· ≤ ·) → a = b
  | [], b, p, _, _ => (List.nil_perm.mp p).symm
  | x :: a, [], p, _, _ => absurd p.symm (by intro z; have := List.nil_perm.mp z; cases this)
  | x :: a, y :: b, p, h1, h2 => by
    have hxy : x = y := by
      have m1 : x ∈ y :: b := p.mem_iff.mp List.mem_cons_self
      have m2 : y ∈ x :: a := p.mem_iff.mpr List.mem_cons_self
      rcases List.mem_cons.mp m1 with e | m1
      · exact e
      · rcases List.mem_cons.mp m2 with e | m2
        · exact e.symm
        · have q1 := (List.pairwise_cons.mp h1).1 y m2
          have q2 := (List.pairwise_cons.mp h2).1 x m1
          omega
    subst hxy
    rw [asc_uniq (List.Perm.cons_inv p) (List.pairwise_cons.mp h1).2 (List.pairwise_cons.mp h2).2]
/-- sorted(xs), numbers: ys the list in ascending order -/
theorem en_sorted {p : Pos} {ns ys : List Int} (ha : EL X a ρ (ns.map int)) (hp : ys.Perm ns) (hs2 : ys.Pairwise (· ≤ ·)) (hm : X.mg "sorted" = none) (hg : Gl X "sorted" := by rfl) (hs : starEach [a] X.env = (false, eval a X.env) :: starEach [] X.env := by rfl) (hpl : (backTo pos (starEach [] X.env)).any (·.1) = false := by rfl) :
    EN X (.Call (.Name "sorted" p) [a] [] pos) ρ (ys.map int) :=
  pe_imp (pe_callB cr_sortedI hg hm bo_sorted (pa_cons ha pa_nil hs) (he := hs) (hpl := hpl)) fun σ H Q ⟨H0, F, S, k⟩ => ⟨H0, F, S, fun x xs H1 F1 g1 h1 h2 => by
    have e : xs = ns.map V.int := AllV.scs (F := F1) (by rw [List.map_map]; exact h2)
    subst e
    refine ⟨x, ns, rfl, SqL.of h1, fun ns' q pm sr hq => ?_⟩
    obtain rfl : ns' = ys := asc_uniq (pm.trans hp.symm) sr hs2
    refine k q _ _ F1 (g1.trans (.newH g1.i hq)) (g1.h.none hq) (g1.i.none hq) upd_same ?_
    have z := AllV.of_scs (F := F1) (cs := ns'.map V.int)
    rw [List.map_map] at z
    exact z⟩
/-! ### a comprehension over the keys of a dict -/
def wipeAll (n : Nat) : List En := List.replicate n En.no
theorem wipeAll_no {n i : Nat} {e : En} (h : (wipeAll n)[i]? = some e) : e = .no := (List.mem_replicate.mp (List.mem_of_getElem? h)).2
theorem sat_none {H : Hp} {σ : L2.St} {n : Nat} (h : σ.length = n) : Sat H (fun _ => none) σ H (wipeAll n) :=
  ⟨fun a o z => (by cases z), fun i A e => (by have z := wipeAll_no e; cases z), fun i l e => (by have z := wipeAll_no e; cases z), fun i j l m p e => (by have z := wipeAll_no e; cases z), (by unfold wipeAll; rw [List.length_replicate, h])⟩
theorem ex_none {H : Hp} : Ex (fun _ => none) H := fun a o z => by cases z
theorem en_lcKeys {own : List (Str × Nat)} {elt : Expr} {scope : Scope} (i j : Nat) {x y : Str} {px py : Pos} {l : List (Int × As)} {g : Int → V} {n : Nat} (hc : X.calm = true) (hN : X.N.Nodup) (hn : ρ.length = n) (hi : ρ[i]? = some (.fr (diA l))) (hz : l.length < sizeLine) (ok : BlkOk X.N X.env.scope scope own)
    (hg : ∀ (s : Shared) (H : Hp) (C : Addr) (cl : List (Str × Addr)) (fp : List Addr), PG (X.blk s H scope (compEnvC scope cl C X.env) fp) (.Name x px) (gName j))
    (he : ∀ (s : Shared) (H : Hp) (C : Addr) (cl : List (Str × Addr)) (fp : List Addr), ∀ a : Int, EA (X.blk s H scope (compEnvC scope cl C X.env) fp) elt ((wipeAll n).set j (.fr (int a))) (sc (g a)))
    (hy : X.N[i]? = some y := by rfl) (hv : Vis X.env.scope y := by first | exact Or.inl rfl | exact Or.inr (Or.inl rfl) | exact Or.inr (Or.inr rfl)) (hd : (y == ("__debug__" : Str)) = false := by decide) (hcd : (y == ("__classdict__" : Str)) = false := by decide)
    (hj : j ∈ own.map (·.2) := by decide) (hs : ∀ z, foldedSetIterable (.Name y py) X.env z = pure z := by intro _; rfl) :
    EN X (.ListComp elt [⟨.Name x px, .Name y py, [], 0⟩] scope pos) ρ ((l.map Prod.fst).map fun k => sc (g k)) := by
  let te : TE := fun σ H Q => ∃ a : Int, tA ((wipeAll n).set j (.fr (int a))) (sc (g a)) σ H Q
  have hte : ∀ (s : Shared) (H : Hp) (C : Addr) (cl : List (Str × Addr)) (fp : List Addr), PE (X.blk s H scope (compEnvC scope cl C X.env) fp) elt te := fun s H C cl fp => ⟨fun pins s1 σ H1 Q I ⟨a, q⟩ => (he s H C cl fp a).run pins s1 σ H1 Q I q⟩
  let tt : TT := fun σ H Q => Q true H
  have htt : ∀ (s : Shared) (H : Hp) (C : Addr) (cl : List (Str × Addr)) (fp : List Addr), PTs (X.blk s H scope (compEnvC scope cl C X.env) fp) [] tt := fun s H C cl fp => ⟨fun pins s1 σ H1 Q I q => pts_nil.run pins s1 σ H1 Q I q⟩
  refine pe_imp (pe_lock (pe_lc (own := own) (g := gName j) (tt := tt) (te := te) hc hN (pi_keys (pe_var hy hv hd hcd)) ok hg htt hte hs)) fun σ H Q ⟨H0, F, S, k⟩ => ?_
  obtain ⟨v, h1, d, vs, ev, hd1, hall⟩ := S.fr i _ hi
  subst ev
  have hHd := S.ex d _ hd1
  have hl : vs.length = l.length := by rw [hall.length, List.length_map]
  refine ⟨d, _, hHd, trivial, fun od => ?_⟩
  refine ⟨_, h1, d, od, rfl, .inl ⟨_, upd_same, fun D hD => ?_⟩⟩
  have hDd : D ≠ d := fun z => by rw [z, upd_same] at hD; cases hD
  have hHD : H D = none := by rw [upd_ne hDd] at hD; exact hD
  have hlen : ((l.map fun x => kI x.1).zip vs).length = l.length := by rw [List.length_zip, List.length_map, hl, Nat.min_self]
  let kvs := (l.map fun x => kI x.1).zip vs
  let HL := upd H d (.frz od (.dK kvs))
  -- behind i turns
  let St : Nat → Hp → Prop := fun i H' => Ex HL H' ∧ H' D = some (.lst (((l.take i).map Prod.fst).map g))
  have hkv : ∀ i, i < l.length → ∃ v, kvs[i]? = some (kI (l[i]?.getD (0, non)).1, v) := fun i hi => by
    have h2 : i < vs.length := by omega
    refine ⟨vs[i], ?_⟩
    show ((l.map fun x => kI x.1).zip vs)[i]? = _
    rw [List.getElem?_eq_getElem (by rw [hlen]; exact hi), List.getElem_zip, List.getElem_map, List.getElem?_eq_getElem hi]
    rfl
  refine ⟨fun i m H' => m = l.length - i ∧ i ≤ l.length ∧ St i H', ⟨l.length, by simp, Nat.zero_le _, fun b o z => ?_, by rw [upd_same]; simp⟩, ?_⟩
  · rw [upd_ne (ne_of_none z hD)]
    exact z
  rintro i' m H' ⟨rfl, hi', hex, hDl⟩
  have hfr : H' d = some (.frz od (.dK kvs)) := hex d _ upd_same
  by_cases hlt : i' < l.length
  · refine .inr ⟨⟨hfr, by rw [hlen]; exact hlt⟩, St (i' + 1), fun H2 p => ⟨l.length - (i' + 1), by omega, rfl, hlt, p⟩, fun x' H2 yl => ?_⟩
    obtain ⟨e1, kk, vv, e2, e3⟩ := yl
    subst e1
    obtain ⟨v0, e4⟩ := hkv i' hlt
    have e5 : some (kk, vv) = some (kI (l[i']?.getD (0, non)).1, v0) := e2.symm.trans e4
    have e6 : kk = kI (l[i']?.getD (0, non)).1 := (Prod.mk.inj (Option.some.inj e5)).1
    subst e6 e3
    refine ⟨wipe_set hj, ?_⟩
    show if true = true then _ else _
    rw [if_pos rfl]
    refine ⟨(l[i']?.getD (0, non)).1, H2, fun _ => none, (sat_none (σ := L2.wipe σ (own.map (·.2))) (by rw [wipe_length, ← S.len, hn])).set rfl, fun z H3 F3 g3 hz3 => ?_⟩
    have hz3 : z = g (l[i']?.getD (0, non)).1 := hz3
    subst hz3
    refine ⟨_, g3.h D _ hDl, by rw [List.length_map, List.length_map, List.length_take]; omega, fun b o q => ?_, ?_⟩
    · have nD : b ≠ D := fun z => by
        have q2 : upd H d (.frz od (.dK ((l.map fun x => kI x.1).zip vs))) b = some o := q
        rw [z, hD] at q2
        cases q2
      rw [upd_ne nD]
      exact g3.h b o (hex b o q)
    · rw [upd_same, List.getElem?_eq_getElem hlt, List.take_add_one, List.getElem?_eq_getElem hlt]
      rw [List.map_append, List.map_append]
      rfl
  · have e : i' = l.length := by omega
    subst e
    refine .inl ⟨⟨hfr, by rw [hlen]; exact Nat.le_refl _⟩, hfr, ?_⟩
    rw [List.take_length] at hDl
    refine k D (((l.map Prod.fst)).map g) (upd H' d (.dK kvs)) F ⟨Ex.refl F, fun b o q => ?_, fun b o q => ?_, fun b o q1 q2 => q2⟩ hHD (S.ex.none hHD) (by rw [upd_ne hDd]; exact hDl) ?_
    · by_cases hb : b = d
      · rw [hb, upd_same, ← hHd, ← hb]
        exact q
      · rw [upd_ne hb]
        exact hex b o (by show upd H d _ b = _; rw [upd_ne hb]; exact q)
    · have q' := S.ex b o q
      by_cases hb : b = d
      · rw [hb, upd_same, ← hHd, ← hb]
        exact q'
      · rw [upd_ne hb]
        exact hex b o (by show upd H d _ b = _; rw [upd_ne hb]; exact q')
    · have z : AllV F ((l.map Prod.fst).map g) (((l.map Prod.fst).map g).map sc) := AllV.of_scs
      have e : ((l.map Prod.fst).map g).map sc = (l.map Prod.fst).map fun k => sc (g k) := List.map_map
      rw [e] at z
      exact z
end
end Lk

set_option Elab.async false
set_option linter.all false
set_option maxRecDepth 100000
set_option maxHeartbeats 4000000
namespace Lk
open PySem PySem.Calls L2 PySem.Spec PyProof.Rows
/-! ### defs that may raise -/
abbrev ErP := Hp → Value → Option Addr → Prop
/-- what becomes of a call: a value, or an error -/
inductive Oc where
  | ret (A : As)
  | exc (e : ErP)
def Oc.R : Oc → As
  | .ret A => A
  | .exc _ => ⟨fun _ _ => False, fun _ h => h⟩
def Oc.E : Oc → ErP
  | .ret _ => fun _ _ _ => False
  | .exc e => e
def spO {ι : Type} (pre : ι → Prop) (l : ι → List As) (oc : ι → Oc) : Sp := fun vs H Q E => ∃ i, pre i ∧ ∃ F, Ex F H ∧ AllV F vs (l i) ∧ (∀ v H' F', Gr F H F' H' → (oc i).R.p F' v → Q v H') ∧ (∀ cls d H' F', Gr F H F' H' → (oc i).E F' cls d → E cls d H')
def spMO {ι : Type} (C : Addr) (pre : ι → Prop) (l : ι → List As) (oc : ι → Oc) : Sp := fun vs H Q E => ∃ i, pre i ∧ ∃ (H1 F : Hp) (p dx : Addr) (as : List V), vs = .ref p :: as ∧ H = upd (upd H1 dx (.own p)) p (.ins C dx []) ∧ H1 p = none ∧ H1 dx = none ∧ dx ≠ p ∧ Ex F H1 ∧ AllV F as (l i) ∧
  (∀ H' F', Gr F H1 F' H' → (oc i).R.p F' (.ref p) → Q .non H') ∧ (∀ cls d H' F', Gr F H1 F' H' → (oc i).E F' cls d → E cls d H')
theorem fn_okX {P : Program} {w : World} {K : PySem.W.Frag} {mg : Str → Option Value} {base : Heap} {x qual : Str} {st : Stmt} {f : Addr} {fd : FuncData} {N ps : List Str} {k : Nat} {ι : Type} {pre : ι → Prop} {l : ι → List As} {oc : ι → Oc} (F : Fun K x qual st f fd) (S : FnScope N ps (defScope st)) (hl : ∀ i, pre i → (l i).length = ps.length)
    (hb : ∀ (i : ι) (cdv : Value) (B : Around) (outer : List Env) (s : Shared) (H : Hp) (E : XK), pre i → Room k (B.deeper (PyProof.Rows.envOfC qual (defScope st) s.heap.objs.size f cdv)) → Takes (cxOf (L2.CX P w) P w K mg base N qual (defScope st) f cdv B outer s H E) (fun cls d _ H => E cls d H) →
      PassesOwn (model P w) (B.deeper (PyProof.Rows.envOfC qual (defScope st) s.heap.objs.size f cdv)) (PyProof.Rows.envOfC qual (defScope st) s.heap.objs.size f cdv) (cxOf (L2.CX P w) P w K mg base N qual (defScope st) f cdv B outer s H E).xe →
      BA (cxOf (L2.CX P w) P w K mg base N qual (defScope st) f cdv B outer s H E) (defBody st) (entry N (l i)) (fun _ => ∀ F, (oc i).R.p F .non) { R := (oc i).R, er := fun _ => (oc i).E, wx := fun cls d _ H => E cls d H }) : FnOk P w K mg base (L2.CX P w) (k + 1) f fd ps (spO pre l oc) := by
  refine F.okX S (fun vs H Q E h => ?_) (fun cdv B outer s H vs Q E hr h => ?_)
  · obtain ⟨i, hp, F, e, hv, _⟩ := h
    rw [hv.length, hl i hp]
  · obtain ⟨i, hp, F, e, hv, q, qe⟩ := h
    refine ⟨_, hb i cdv B outer s H E hp hr (takes_of rfl rfl rfl rfl) (passes_of (X := cxOf (L2.CX P w) P w K mg base N qual (defScope st) f cdv B outer s H E) rfl), F, H, F, .refl e, sat_start (ps := ps) e hv, ?_, ?_, ?_, ?_, ?_⟩
    · intro ρ' σ' H' F' hn g' S'
      exact q .non H' F' g' (hn F')
    · intro v H' F' g' hv
      exact q v H' F' g' hv
    · intro _ _ _ _ z
      exact z.elim
    · intro _ _ _ _ z
      exact z.elim
    · intro cls d ρ' σ' H' F' he g' S'
      exact qe cls d H' F' g' he
structure DfX (P : Program) (w : World) (K : PySem.W.Frag) (mg : Str → Option Value) (base : Heap) (k : Nat) (x : Str) (ps : List Str) (sp : Sp) : Prop where
  ex : ∃ f fd, FnOk P w K mg base (L2.CX P w) k f fd ps sp ∧ mg x = some (.ref f) ∧ PySem.W.keepIn K (.ref f) = true ∧ Binds K fd ps []
structure MfX (P : Program) (w : World) (K : PySem.W.Frag) (mg : Str → Option Value) (base : Heap) (k : Nat) (C : Addr) (m : Str) (ps : List Str) (sp : Sp) : Prop where
  ex : ∃ f fd, FnOk P w K mg base (L2.CX P w) k f fd ps sp ∧ Meth K C m f ∧ Binds K fd ps []
structure MkX (P : Program) (w : World) (K : PySem.W.Frag) (mg : Str → Option Value) (base : Heap) (k : Nat) (C : Addr) (x : Str) (ps : List Str) (sp : Sp) : Prop where
  ex : ∃ f fd, FnOk P w K mg base (L2.CX P w) k f fd ps sp ∧ Mk K C f ∧ Binds K fd ps [] ∧ mg x = some (.ref C)
theorem DfX.mono {P : Program} {w : World} {K : PySem.W.Frag} {mg : Str → Option Value} {base : Heap} {j k : Nat} {x : Str} {ps : List Str} {sp : Sp} (D : DfX P w K mg base j x ps sp) (h : j ≤ k) : DfX P w K mg base k x ps sp :=
  let ⟨f, fd, h1, h2⟩ := D.ex
  ⟨f, fd, h1.mono h, h2⟩
theorem MfX.mono {P : Program} {w : World} {K : PySem.W.Frag} {mg : Str → Option Value} {base : Heap} {j k : Nat} {C : Addr} {x : Str} {ps : List Str} {sp : Sp} (D : MfX P w K mg base j C x ps sp) (h : j ≤ k) : MfX P w K mg base k C x ps sp :=
  let ⟨f, fd, h1, h2⟩ := D.ex
  ⟨f, fd, h1.mono h, h2⟩
theorem MkX.mono {P : Program} {w : World} {K : PySem.W.Frag} {mg : Str → Option Value} {base : Heap} {j k : Nat} {C : Addr} {x : Str} {ps : List Str} {sp : Sp} (D : MkX P w K mg base j C x ps sp) (h : j ≤ k) : MkX P w K mg base k C x ps sp :=
  let ⟨f, fd, h1, h2⟩ := D.ex
  ⟨f, fd, h1.mono h, h2⟩
/-- an expression whose last step may raise -/
def tX (ρ : List En) (oc : Oc) (w : WX) : TE := fun σ H Q => ∃ H0 F, Sat H0 F σ H ρ ∧ (∀ v H' F', Gr F H F' H' → oc.R.p F' v → Q v H') ∧ (∀ cls d H' F', Gr F H F' H' → oc.E F' cls d → w cls d σ H')
abbrev EX (X : Cx) (e : Expr) (ρ : List En) (oc : Oc) (w : WX) : Prop := PE X e (tX ρ oc w)
theorem takes_none {X : Cx} : Takes X (fun _ _ _ _ => False) := takes0
section
variable {X : Cx} {e a b c o : Expr} {es : List Expr} {ρ : List En} {A B : As} {pos apos p1 : Pos} {k : Nat} {ι : Type} {pre : ι → Prop} {l : ι → List As} {oc : ι → Oc} {o1 : Oc} {ps : List Str} {C : Addr} {m x : Str} {fs gs : List (Str × As)} {la : List As} {w : WX}
/-- where it raises nothing -/
theorem ea_ofX (h : ∀ (w : WX), Takes X w → EX X e ρ (.ret A) w) : EA X e ρ A := pe_imp (h _ takes0) fun σ H Q ⟨H0, F, S, q⟩ => ⟨H0, F, S, fun v H' F' g hv => q v H' F' g hv, fun _ _ _ _ _ z => z.elim⟩
theorem ex_call (D : DfX X.prog X.w X.K X.mg X.base k x ps (spO pre l oc)) (hr : Room k X.A) (tk : Takes X w) (i : ι) (hp : pre i) (ha : EAs X (e :: es) ρ (l i)) (hg : Gl X x := by rfl)
    (hdb : (x == ("__debug__" : Str)) = false := by decide) (he : starEach (e :: es) X.env = (false, eval e X.env) :: starEach es X.env := by rfl) (hpl : (backTo pos (starEach es X.env)).any (·.1) = false := by rfl) : EX X (.Call (.Name x p1) (e :: es) [] pos) ρ (oc i) w := by
  obtain ⟨f, fd, G, hm, hk, hb⟩ := D.ex
  exact pe_imp (pe_callS G hr hg hm hk hb (passAt tk) ha (hdb := hdb) (he := he) (hpl := hpl)) fun σ H Q ⟨H0, F, S, q, qe⟩ => ⟨H0, F, S, fun vs H1 F1 g1 h1 => ⟨i, hp, F1, g1.i, h1, fun v H' F' g hv => q v H' F' (g1.trans g) hv, fun cls d H' F' g hv => qe cls d H' F' (g1.trans g) hv⟩⟩
/-- o.m(e, ..) -/
def tMethS (C : Addr) (m : Str) (sp : Sp) (E : L2.St → XK) (ta : TE) (t : TA) : TE := fun σ H Q => ta σ H fun x H1 => ∃ a dx fs, x = .ref a ∧ H1 a = some (.ins C dx fs) ∧ fs.lookup m = none ∧ t σ H1 fun vs H2 => sp (x :: vs) H2 Q (E σ)
theorem pe_methX {CX : CXT} {f : Addr} {fd : FuncData} {sp : Sp} {E : L2.St → XK} {ta : TE} {t : TA} {pl : Sem Bool} (he : PE X o ta) (c : Cls X.K C) (hm : Meth X.K C m f) (F : FnOk X.prog X.w X.K X.mg X.base CX k f fd ps sp) (hr : Room k X.A) (hb : Binds X.K fd ps []) (hx : ∀ σ, PassesAt CX X σ (E σ)) (ha : PA X (e :: es) t)
    (hst : starEach (e :: es) X.env = (false, eval e X.env) :: starEach es X.env := by rfl) (hpl : (backTo pos (starEach es X.env)).any (·.1) = false := by rfl)
    (ht : eval (.Call (.Attribute o m apos) (e :: es) [] pos) X.env = (do
      let ov ← eval o X.env
      standAt apos.atName
      let (f, first) ← holding [ov] (getMethod ov m pl)
      callWith pos f first (backTo pos (starEach (e :: es) X.env)) (backToKw pos (keywordEach [] X.env))) := by rfl) :
    PE X (.Call (.Attribute o m apos) (e :: es) [] pos) (tMethS C m sp E ta t) := by
  refine ⟨fun pins s σ H Q I h => ?_⟩
  refine PySem.W.methodCall_KW (pl := pl) (thn (he.run pins s σ H _ I h) fun u s1 ⟨x, H1, I1, rx, a, dx, fs, ex, ea, l, q⟩ => ?_) ht
  subst ex
  obtain rfl : u = Value.ref a := rx
  refine getmeth_ok I1 ea c hm l ?_
  refine PySem.W.callWith_K (first := [.ref a]) (h₀ := X.base) I.ok.mod.kin hm.kp (thn (ha.run pos pins s1 σ H1 _ I1 q) fun us s2 ⟨vs, H2, I2, r, q2⟩ => ⟨I2.kIn, ?_⟩) hst hpl
  exact run_fnS (us := .ref a :: us) (vs := .ref a :: vs) F hr hb (hx σ) I2 (.cons rfl r) q2
theorem ex_meth {pl : Sem Bool} (D : MfX X.prog X.w X.K X.mg X.base k C m ps (spO pre l oc)) (hr : Room k X.A) (tk : Takes X w) (hC : Cls X.K C) (i : ι) (hp : pre i) (ho : EA X o ρ (insA C fs)) (hm : fs.lookup m = none) (ha : EAs X (e :: es) ρ la) (hl : l i = insA C fs :: la)
    (he : starEach (e :: es) X.env = (false, eval e X.env) :: starEach es X.env := by rfl) (hpl : (backTo pos (starEach es X.env)).any (·.1) = false := by rfl)
    (hev : eval (.Call (.Attribute o m apos) (e :: es) [] pos) X.env = (do
      let ov ← eval o X.env
      standAt apos.atName
      let (f, first) ← holding [ov] (getMethod ov m pl)
      callWith pos f first (backTo pos (starEach (e :: es) X.env)) (backToKw pos (keywordEach [] X.env))) := by rfl) : EX X (.Call (.Attribute o m apos) (e :: es) [] pos) ρ (oc i) w := by
  obtain ⟨f, fd, G, hM, hb⟩ := D.ex
  refine pe_imp (pe_methX ho hC hM G hr hb (passAt tk) ha he hpl hev) fun σ H Q ⟨H0, F, S, q, qe⟩ => ⟨H0, F, S, fun v H1 F1 g1 ⟨p, dx, vs, ev, h1, h2⟩ => ⟨p, dx, _, ev, g1.i p _ h1, zip_nolook h2 hm, H0, F1, S.gr g1, fun us H2 F2 g2 hu => ?_⟩⟩
  refine ⟨i, hp, F2, g2.i, ?_, fun v H' F' g hv => q v H' F' ((g1.trans g2).trans g) hv, fun cls d H' F' g hv => qe cls d H' F' ((g1.trans g2).trans g) hv⟩
  rw [hl]
  exact ⟨(insA C fs).mono g2.f ⟨p, dx, vs, ev, h1, h2⟩, hu⟩
/-- C(e, ..) -/
theorem run_makeS {CX : CXT} {f : Addr} {fd : FuncData} {sp : Sp} {E : L2.St → XK} {pins : List (Addr × Obj)} {σ : L2.St} {H : Hp} {s : Shared} {Q : VK} {us : List Value} {vs : List V} (M : Mk X.K C f) (F : FnOk X.prog X.w X.K X.mg X.base CX k f fd ps sp) (hr : Room (k + 1) X.A) (hb : Binds X.K fd ps [])
    (hx : PassesAt CX X σ (E σ)) (I : Inv X pins σ H s) (r : Vals vs us)
    (h : ∀ x dx, H x = none → H dx = none → dx ≠ x → sp (.ref x :: vs) (upd (upd H dx (.own x)) x (.ins C dx [])) (fun v H2 => v = .non ∧ Q (.ref x) H2) (E σ)) :
    wpAny (model X.prog X.w) X.A (call (.ref C) us) (EP X pins σ Q) X.xe s := by
  have hq := h (s.heap.objs.size + 1) s.heap.objs.size (I.hok.fresh (Nat.le_succ _)) (I.hok.fresh (Nat.le_refl _)) (Nat.ne_of_lt (Nat.lt_succ_self _))
  have I2 := Inv.made (C := C) I
  have r2 : Vals (V.ref (s.heap.objs.size + 1) :: vs) (Value.ref (s.heap.objs.size + 1) :: us) := .cons rfl r
  have hl : (Value.ref (s.heap.objs.size + 1) :: us).length = ps.length := by
    have e := r2.length
    rw [F.len _ _ _ _ hq] at e
    exact e.symm
  refine wpAny_call (make_map (f := f) I.kIn M.makes M.init (beq_iff_eq.mp M.fn) (codeAny_mono (F.run _ X.stack _ _ ⟨Value.ref (s.heap.objs.size + 1) :: us, []⟩ (Value.ref (s.heap.objs.size + 1) :: us) _ _ (E σ) (hr.make C us [])
    (I2.env0.make C us []) (by
      have z := hb _ (Value.ref (s.heap.objs.size + 1) :: us) I2.kIn (by simpa using hl)
      simpa using z) r2 hq) fun r s' hq' => ?_))
  cases r with
  | error e => exact hx pins _ _ e s' I2 hq'
  | ok fl =>
    cases fl with
    | ret u =>
      obtain ⟨v, H', I3, rv, ev, q3⟩ := I2.after hq'
      subst ev
      exact ⟨rv, ⟨V.ref (s.heap.objs.size + 1), H', I3, rfl, q3⟩⟩
    | next => exact False.elim hq'
    | brk => exact False.elim hq'
    | cont => exact False.elim hq'
def tMakeS (C : Addr) (sp : Sp) (E : L2.St → XK) (t : TA) : TE := fun σ H Q => t σ H fun vs H1 => ∀ x dx, H1 x = none → H1 dx = none → dx ≠ x → sp (.ref x :: vs) (upd (upd H1 dx (.own x)) x (.ins C dx [])) (fun v H2 => v = .non ∧ Q (.ref x) H2) (E σ)
theorem pe_makeS {CX : CXT} {f : Addr} {fd : FuncData} {sp : Sp} {E : L2.St → XK} {t : TA} (M : Mk X.K C f) (F : FnOk X.prog X.w X.K X.mg X.base CX k f fd ps sp) (hr : Room (k + 1) X.A) (hg : Gl X x) (hm : X.mg x = some (.ref C)) (hb : Binds X.K fd ps []) (hx : ∀ σ, PassesAt CX X σ (E σ))
    (ha : PA X (e :: es) t) (hdb : (x == ("__debug__" : Str)) = false := by decide) (he : starEach (e :: es) X.env = (false, eval e X.env) :: starEach es X.env := by rfl) (hpl : (backTo pos (starEach es X.env)).any (·.1) = false := by rfl) :
    PE X (.Call (.Name x p1) (e :: es) [] pos) (tMakeS C sp E t) := by
  refine ⟨fun pins s σ H Q I h => ?_⟩
  refine wpAny_Call_Name_kw (ld_glob I hg hm ?_ hdb)
  refine PySem.W.callWith_K (h₀ := X.base) I.ok.mod.kin M.kp (thn (ha.run pos pins s σ H _ I h) fun us s1 ⟨vs, H1, I1, r, q⟩ => ⟨I1.kIn, ?_⟩) he hpl
  exact run_makeS M F hr hb (hx σ) I1 r q
theorem ex_make (D : MkX X.prog X.w X.K X.mg X.base k C x ps (spMO C pre l oc)) (hr : Room (k + 1) X.A) (tk : Takes X w) (i : ι) (hp : pre i) (ha : EAs X (e :: es) ρ (l i)) (hg : Gl X x := by rfl)
    (hdb : (x == ("__debug__" : Str)) = false := by decide) (he : starEach (e :: es) X.env = (false, eval e X.env) :: starEach es X.env := by rfl) (hpl : (backTo pos (starEach es X.env)).any (·.1) = false := by rfl) : EX X (.Call (.Name x p1) (e :: es) [] pos) ρ (oc i) w := by
  obtain ⟨f, fd, G, hM, hb, hm⟩ := D.ex
  exact pe_imp (pe_makeS hM G hr hg hm hb (passAt tk) ha hdb he hpl) fun σ H Q ⟨H0, F, S, q, qe⟩ => ⟨H0, F, S, fun us H1 F1 g1 hu => fun y dx hy hdx hne =>
    ⟨i, hp, H1, F1, y, dx, us, rfl, rfl, hy, hdx, hne, g1.i, hu, fun H' F' g hA => ⟨rfl, q _ H' F' (g1.trans g) hA⟩, fun cls d H' F' g hA => qe cls d H' F' (g1.trans g) hA⟩⟩
/-- a op b, by an own method; what it gives is an object -/
def rBinS (C : Addr) (sp : Sp) (E : XK) : R2 := fun x y H Q => ∃ a dx fs b dy gs, x = .ref a ∧ H a = some (.ins C dx fs) ∧ y = .ref b ∧ H b = some (.ins C dy gs) ∧ sp [.ref a, .ref b] H (fun v H' => ∃ r, v = .ref r ∧ Q v H') E
def tBinS (C : Addr) (sp : Sp) (E : L2.St → XK) (ta tb : TE) : TE := fun σ H Q => ta σ H fun x H1 => tb σ H1 fun y H2 => rBinS C sp (E σ) x y H2 Q
theorem pe_binS {CX : CXT} {f : Addr} {fd : FuncData} {sp : Sp} {E : L2.St → XK} {ta tb : TE} {op : Operator} (G : FnOk X.prog X.w X.K X.mg X.base CX k f fd ps sp) (hr : Room k X.A) (hs : PySem.W.findIn X.K (.ref C) (PySem.dunder op.info.2) = some (some (.ref f))) (hf : PySem.W.isFn X.K (.ref f) = true) (hsf : PySem.W.selfFirst X.K C = true) (hb : Binds X.K fd ps []) (hx : ∀ σ, PassesAt CX X σ (E σ))
    (ha : PE X a ta) (hb2 : PE X b tb) : PE X (.BinOp a op b pos) (tBinS C sp E ta tb) := by
  refine ⟨fun pins s σ H Q I h => ?_⟩
  refine wpAny_BinOp (binT ha hb2 I h fun v u s2 x y H2 I2 rx ry q => ?_)
  obtain ⟨pa, dx, fs, pb, dy, gs, rfl, ha', rfl, hb', hsp⟩ := q
  cases rx
  cases ry
  obtain ⟨mA, J, _⟩ := ins_get I2.hok ha'
  obtain ⟨mB, J', _⟩ := ins_get I2.hok hb'
  obtain ⟨od, J, _⟩ := J.look
  obtain ⟨od', J', _⟩ := J'.look
  obtain ⟨m, hF⟩ := I2.fr
  refine PySem.W.binop_K hF I2.ok.mod.kin J J'.type hsf hs hf ?_
  have hl := G.len _ _ _ _ hsp
  have r2 : Vals [V.ref pa, .ref pb] [Value.ref pa, .ref pb] := .cons rfl (.cons rfl .nil)
  refine wpAny_call (codeAny_mono (G.run X.A X.stack s2 H2 ⟨[.ref pa, .ref pb], []⟩ [.ref pa, .ref pb] [.ref pa, .ref pb] _ (E σ) hr I2.env0 (by
    have := hb s2 [.ref pa, .ref pb] I2.kIn (by simpa using hl)
    simpa using this) r2 hsp) fun r s' hq => ?_)
  cases r with
  | error e => exact hx σ pins H2 s2 e s' I2 hq
  | ok fl =>
    cases fl with
    | ret w =>
      obtain ⟨z, H', I', rz, r, ez, q⟩ := I2.after hq
      subst ez
      cases rz
      exact ⟨.ref r, H', I', rfl, q⟩
    | next => exact False.elim hq
    | brk => exact False.elim hq
    | cont => exact False.elim hq
theorem ex_bin {op : Operator} (D : MfX X.prog X.w X.K X.mg X.base k C m ps (spO pre l oc)) (hmm : m = PySem.dunder op.info.2) (hsf : PySem.W.selfFirst X.K C = true) (hr : Room k X.A) (tk : Takes X w) (i : ι) (hp : pre i) (ha : EA X a ρ (insA C fs)) (ho : EA X b ρ (insA C gs)) (hl : l i = [insA C fs, insA C gs]) (hret : ∀ F v, (oc i).R.p F v → ∃ r, v = .ref r) : EX X (.BinOp a op b pos) ρ (oc i) w := by
  obtain ⟨f, fd, G, hM, hb⟩ := D.ex
  refine pe_imp (pe_binS G hr (by rw [← hmm]; exact hM.at_) hM.fn hsf hb (passAt tk) ha ho) fun σ H Q ⟨H0, F, S, q, qe⟩ => ⟨H0, F, S, fun x H1 F1 g1 ⟨p', dx', vs', ev', y1, y2⟩ => ⟨H0, F1, S.gr g1, fun y H2 F2 g2 ⟨p, dx, vs, ev, z1, z2⟩ => ⟨p', dx', _, p, dx, _, ev', g2.h p' _ (g1.i p' _ y1), ev, g2.i p _ z1, i, hp, F2, g2.i, ?_, fun v H' F' g hv => ?_, fun cls d H' F' g hv => qe cls d H' F' ((g1.trans g2).trans g) hv⟩⟩⟩
  · rw [hl]
    exact ⟨⟨p', dx', vs', rfl, g2.f p' _ y1, y2.mono g2.f⟩, ⟨p, dx, vs, rfl, z1, z2⟩, trivial⟩
  · obtain ⟨r, er⟩ := hret F' v hv
    exact ⟨r, er, q v H' F' ((g1.trans g2).trans g) hv⟩
/-! ### statements over such expressions -/
variable {Nx : List En → Prop} {W : Wn}
theorem sa_exprX (he : EX X e ρ o1 W.wx) (hE : ∀ F cls d, o1.E F cls d → W.er ρ F cls d) (k : (∃ F v, o1.R.p F v) → Nx ρ) (hs : swapsWith e none pos.line X.env = pure false := by rfl) : SA X (.Expr e pos) ρ Nx W :=
  ps_imp (ps_expr he hs) fun D σ H ⟨F0, H0, F, g, S, q, q2, q3, q4, q5⟩ => ⟨H0, F, S, fun v H' F' g' hv => q ρ σ H' F' (k ⟨F', v, hv⟩) (g.trans g') (S.gr g'), fun cls d H' F' g' he' => q5 cls d ρ σ H' F' (hE F' cls d he') (g.trans g') (S.gr g')⟩
theorem sa_setX (i : Nat) {y : Str} {pos' : Pos} (hN : X.N.Nodup) (he : EX X e ρ o1 W.wx) (hE : ∀ F cls d, o1.E F cls d → W.er ρ F cls d) (k : (∃ F v, o1.R.p F v) → Nx (ρ.set i (.fr o1.R))) (hi : X.N[i]? = some y := by rfl) (hx : Loc X.env.scope y := by first | exact .inl rfl | exact .inr rfl) (hs : swapsWith e (some (.Name y pos')) pos.line X.env = pure false := by rfl)
    (hf : X.fn y = true ∨ X.env.scope.names.lookup y = some .local := by first | exact .inl rfl | exact .inr rfl | assumption) : SA X (.Assign [.Name y pos'] e pos) ρ Nx W :=
  ps_imp (ps_set hN hi hx he hs hf) fun D σ H ⟨F0, H0, F, g, S, q, q2, q3, q4, q5⟩ => ⟨H0, F, S, fun v H' F' g' hv => q _ _ H' F' (k ⟨F', v, hv⟩) (g.trans g') ((S.gr g').set hv), fun cls d H' F' g' he' => q5 cls d ρ σ H' F' (hE F' cls d he') (g.trans g') (S.gr g')⟩
theorem sa_retX (he : EX X e ρ o1 W.wx) (hE : ∀ F cls d, o1.E F cls d → W.er ρ F cls d) (hR : ∀ F v, o1.R.p F v → W.R.p F v) : SA X (.Return (some e) pos) ρ Nx W :=
  ps_imp (ps_ret he) fun D σ H ⟨F0, H0, F, g, S, q, q2, q3, q4, q5⟩ => ⟨H0, F, S, fun v H' F' g' hv => q2 v H' F' (g.trans g') (hR F' v hv), fun cls d H' F' g' he' => q5 cls d ρ σ H' F' (hE F' cls d he') (g.trans g') (S.gr g')⟩
end
end Lk

set_option Elab.async false
set_option linter.all false
set_option maxRecDepth 100000
set_option maxHeartbeats 4000000
namespace Lk
open PySem PySem.Calls L2 PySem.Spec PyProof.Rows NdefX
/-! ### errors as they fly: the class, what its own dict holds -/
def dctP (fs : List (Str × As)) (d : Option Addr) (F : Hp) : Prop := match d with
  | none => fs = []
  | some dd => ∃ vs, F dd = some (.xd ((fs.map Prod.fst).zip vs)) ∧ AllV F vs (fs.map Prod.snd)
theorem dctP.mono {fs : List (Str × As)} {d : Option Addr} {F F' : Hp} (e : Ex F F') (h : dctP fs d F) : dctP fs d F' := by
  cases d with
  | none => exact h
  | some dd =>
    obtain ⟨vs, h1, h2⟩ := h
    exact ⟨vs, e dd _ h1, h2.mono e⟩
def erX (C : Addr) (fs : List (Str × As)) : ErP := fun F cls d => cls = .ref C ∧ dctP fs d F
/-- a class without an own __init__ -/
structure Er0 (K : PySem.W.Frag) (mg : Str → Option Value) (x : Str) (C : Addr) : Prop where
  gC : mg x = some (.ref C)
  kC : PySem.W.keepIn K (.ref C) = true
  q : PySem.W.excIn K C [.type "ValueError", .type "Exception", .type "BaseException", .type "object"] "ValueError.__new__" = true
  exC : PySem.W.subIn K (.ref C) (.type "BaseException") = some true
  tyC : PySem.W.typeIn K (.ref C) = some (.type "type")
section
variable {X : Cx} {C : Addr} {x m : Str} {j : Nat} {p p2 pos pos2 : Pos} {ρ : List En} {Nx : List En → Prop} {W : Wn}
/-- X() -/
theorem pmk_own0 (T : Er0 X.K X.mg x C) (hg : Gl X x) (hdb : (x == ("__debug__" : Str)) = false := by decide) : PMk X (.Call (.Name x p) [] [] pos) (fun _ H Q => Q (.ref C) none H) := by
  intro pins s σ H Q I h
  refine wpAny_Call_Name_kw (ld_glob I hg T.gC ?_ hdb)
  refine PySem.W.callWith_K0 I.kIn T.kC ?_
  show wpAny _ _ (call (.ref C) []) _ _ _
  obtain ⟨bm, N, nm, qn, bs, hdct, sn, sub, ab, col, dd, k0, k1, k2, k3, k5, mN, hC, hN, hni, TT⟩ := exc_obj I.kIn T.q
  refine wpAny_call_exc_subT PySem.F.excBase_ValueError TT hC hN hni (fun h' e hm => ?_) (by show 0 ≤ sizeLine; rw [sizeLine_eq]; omega)
  exact mk_of I hm (raises_own T.exC T.tyC) h (I.hok.gone hm.new)
theorem sat_q5 {F0 H0 F H : Hp} {σ : L2.St} {cls : Value} {d : Option Addr} (q5 : ∀ cls d ρ' σ' H' F', W.er ρ' F' cls d → Gr F0 H0 F' H' → Sat H0 F' σ' H' ρ' → W.wx cls d σ' H') (g : Gr F0 H0 F H) (S : Sat H0 F σ H ρ) (h : W.er ρ F cls d) : W.wx cls d σ H := q5 cls d ρ σ H F h g S
/-- raise X('..') -/
theorem sa_raise0s (T : Er0 X.K X.mg x C) (hc : X.calm = true) (tk : Takes X W.wx) (h : ∀ F, W.er ρ F (.ref C) none) (hg : Gl X x := by rfl) (hdb : (x == ("__debug__" : Str)) = false := by decide) :
    SA X (.Raise (some (.Call (.Name x p) [.Constant (.str m) j p2] [] pos)) none pos2) ρ Nx W :=
  ps_imp (ps_raise hc tk (pmk_own PySem.F.excBase_ValueError T.q T.gC T.kC (raises_own T.exC T.tyC) hg hdb)) fun D σ H ⟨F0, H0, F, g, S, q, q2, q3, q4, q5⟩ => sat_q5 q5 g S (h F)
/-- raise X() -/
theorem sa_raise0 (T : Er0 X.K X.mg x C) (hc : X.calm = true) (tk : Takes X W.wx) (h : ∀ F, W.er ρ F (.ref C) none) (hg : Gl X x := by rfl) (hdb : (x == ("__debug__" : Str)) = false := by decide) :
    SA X (.Raise (some (.Call (.Name x p) [] [] pos)) none pos2) ρ Nx W :=
  ps_imp (ps_raise hc tk (pmk_own0 T hg hdb)) fun D σ H ⟨F0, H0, F, g, S, q, q2, q3, q4, q5⟩ => sat_q5 q5 g S (h F)
end
/-! ### a class whose __init__ says super().__init__(..) and stores one field -/
def spEI {ι : Type} (C : Addr) (f : Str) (pre : ι → Prop) (B B' : ι → As) : Sp := fun vs H Q _ => ∃ (i : ι) (a : Addr) (x : V) (H1 F : Hp), pre i ∧ vs = [.ref a, x] ∧ H1 a = none ∧ H = upd H1 a (exo a C none) ∧ Ex F H1 ∧ (B i).p F x ∧
  ∀ (H2 F' : Hp) (y : V) (d : Addr), Gr F H1 F' H2 → (B' i).p F' y → H2 a = none → H2 d = none → d ≠ a → Q .non (upd (upd (upd H2 a (exo a C none)) d (exd d [(f, y)])) a (exo a C (some d)))
def cut (H : Hp) (a : Addr) : Hp := fun b => if b = a then none else H b
theorem cut_ne {H : Hp} {a b : Addr} (h : b ≠ a) : cut H a b = H b := if_neg h
theorem cut_same {H : Hp} {a : Addr} : cut H a a = none := if_pos rfl
section
variable {P : Program} {w : World} {K : PySem.W.Frag} {mg : Str → Option Value} {base : Heap} {f cc cda C : Addr} {name qual fld y0 y1 : Str} {params : Arguments} {rest : List Stmt} {scope : Scope} {fd : FuncData} {k : Nat} {e e2 : Expr} {p0 p1 p2 p3 p4 p5 p6 p7 : Pos} {ar : Arg} {ι : Type} {pre : ι → Prop} {B B' : ι → As}
theorem ok_excI {nf : NF} (hnf : nf = ⟨name, qual, params, supSt p0 p1 p2 p3 p4 e :: [.Assign [.Attribute (.Name y0 p5) fld p6] e2 p7], scope, [("__class__", cc)], cda⟩)
    (T : SupAt P K mg f cc cda C name qual params (supSt p0 p1 p2 p3 p4 e :: [.Assign [.Attribute (.Name y0 p5) fld p6] e2 p7]) scope fd) (O : OexC K C) (hno : PySem.W.findIn K (.ref C) fld = some none) (S : NScope [y0, y1, "__class__"] [y0, y1] ["__class__"] scope) (hsup : scope.names.lookup ("super" : Str) = some .globalImplicit)
    (hpar : (params.posonlyargs ++ params.args).head? = some ar) (hy0 : ar.arg = y0) (hka : scope.names.lookup y0 = some .local)
    (hse : ∀ env, starEach [e] env = (false, eval e env) :: starEach [] env) (hsw : ∀ env, swapsWith (.Call (.Attribute (.Call (.Name "super" p0) [] [] p1) "__init__" p2) [e] [] p3) none p4.line env = pure false) (hc : ∀ env, ∃ pl, supEv env p0 p1 p2 p3 e pl) (hint : ∀ L, interactive (envF nf f L) = false) (hsw2 : ∀ env, swapsWith e2 (some (.Attribute (.Name y0 p5) fld p6)) p7.line env = pure false)
    (hd0 : (y0 == ("__debug__" : Str)) = false) (hd1 : (y0 == ("__classdict__" : Str)) = false)
    (h1 : ∀ (i : ι) (a : Addr) (A : Around) (outer : List Env) (s : Shared) (H : Hp) (E : XK), pre i → Room k (A.deeper (envF nf f s.heap.objs.size)) → EA (ncx CX0 P w K mg base [y0, y1, "__class__"] nf f A outer s H E) e [.fr (sc (.ref a)), .fr (B i), .no] (exA (fun _ : Str => True) str))
    (h2 : ∀ (i : ι) (a : Addr) (A : Around) (outer : List Env) (s : Shared) (H : Hp) (E : XK), pre i → Room k (A.deeper (envF nf f s.heap.objs.size)) → EA (ncx CX0 P w K mg base [y0, y1, "__class__"] nf f A outer s H E) e2 [.fr (sc (.ref a)), .fr (B i), .no] (B' i)) :
    FnOk P w K mg base CX0 (k + 1) f fd [y0, y1] (spEI C fld pre B B') := by
  refine fn_super hnf T O S hsup hpar (by rw [hy0]; rfl) (by rw [hy0]; exact hka) (fun vs H Q E h => ?_) hse hc hint hsw fun A outer s H vs Q E hr h => ?_
  · obtain ⟨i, a, x, H1, F, hp, rfl, _⟩ := h
    rfl
  obtain ⟨i, a, x, H1, F, hp, rfl, hn, rfl, ex, hB, kq⟩ := h
  have exH : Ex H1 (upd H1 a (exo a C none)) := Ex.new hn
  have fa : F a = none := ex.none hn
  let ρ : List En := [.fr (sc (.ref a)), .fr (B i), .no]
  have S0 : Sat (upd H1 a (exo a C none)) F (startF [y0, y1, "__class__"] [.ref a, x] [none]) (upd H1 a (exo a C none)) ρ := by
    refine ⟨ex.trans exH, fun i' A' e' => ?_, fun i' l e' => ?_, fun i' j' l m p e' => ?_, rfl⟩
    · match i', e' with
      | 0, e' =>
        have e' : sc (.ref a) = A' := by simpa [ρ] using e'
        subst e'
        exact ⟨.ref a, rfl, rfl⟩
      | 1, e' =>
        have e' : B i = A' := by simpa [ρ] using e'
        subst e'
        exact ⟨x, rfl, hB⟩
      | 2, e' => simp [ρ] at e'
      | n + 3, e' => simp [ρ] at e'
    · match i', e' with
      | 0, e' => simp [ρ] at e'
      | 1, e' => simp [ρ] at e'
      | 2, e' => simp [ρ] at e'
      | n + 3, e' => simp [ρ] at e'
    · match i', e' with
      | 0, e' => simp [ρ] at e'
      | 1, e' => simp [ρ] at e'
      | 2, e' => simp [ρ] at e'
      | n + 3, e' => simp [ρ] at e'
  refine ⟨a, rfl, upd_same, tA ρ (exA (fun _ : Str => True) str), fun v H' => ∃ F', Gr F (upd H1 a (exo a C none)) F' H', h1 i a A outer s _ E hp hr, fun Qx hq => ⟨_, F, S0, fun v H' F' g _ => hq v H' ⟨F', g⟩⟩, fun v H' ⟨F', g⟩ => ⟨g.h a _ upd_same, _, pss_one (ps_ost (pe_var (i := 0) rfl (.inl (by subst hnf; exact hka)) hd0 hd1) (h2 i a A outer s _ E hp hr) (hsw2 _)), ?_⟩⟩
  refine ⟨_, F', S0.gr g, fun y H2 F2 g2 hy => ⟨.ref a, rfl, a, C, rfl, O, hno, .inl ⟨g2.h a _ (g.h a _ upd_same), fun d hd hne => ?_⟩⟩⟩
  have gg := g.trans g2
  have f2 : F2 a = none := gg.n a _ upd_same fa
  have e0 : upd (cut H2 a) a (exo a C none) = H2 := by
    funext b
    by_cases hb : b = a
    · rw [hb, upd_same, gg.h a _ upd_same]
    · rw [upd_ne hb, cut_ne hb]
  have z := kq (cut H2 a) F2 y d ⟨gg.f, fun b o q => ?_, fun b o q => ?_, fun b o q1 q2 => ?_⟩ hy cut_same (by rw [cut_ne hne]; exact hd) hne
  · rw [e0] at z
    exact z
  · rw [cut_ne (ne_of_none q hn)]
    exact gg.h b o (exH b o q)
  · rw [cut_ne (ne_of_none q f2)]
    exact gg.i b o q
  · exact gg.n b o (exH b o q1) q2
end
/-- such a class, ready to be raised -/
structure Er1 {ι : Type} (P : Program) (w : World) (K : PySem.W.Frag) (mg : Str → Option Value) (base : Heap) (k : Nat) (x : Str) (C : Addr) (f : Str) (pre : ι → Prop) (B B' : ι → As) : Prop where
  gC : mg x = some (.ref C)
  O : OexC K C
  ex : ∃ fI fd y0 y1, PySem.W.findIn K (.ref C) "__init__" = some (some (.ref fI)) ∧ PySem.W.typeIn K (.ref fI) = some (.type "function") ∧ FnOk P w K mg base CX0 k fI fd [y0, y1] (spEI C f pre B B') ∧ Binds K fd [y0, y1] []
section
variable {X : Cx} {C : Addr} {x fld : Str} {e : Expr} {p p2 pos pos2 : Pos} {ρ : List En} {Nx : List En → Prop} {W : Wn} {k : Nat} {ι : Type} {pre : ι → Prop} {B B' : ι → As}
theorem sa_raise1 (T : Er1 X.prog X.w X.K X.mg X.base k x C fld pre B B') (hc : X.calm = true) (hr : Room (k + 1) X.A) (tk : Takes X W.wx) (i : ι) (hp : pre i) (ha : EA X e ρ (B i)) (h : ∀ F cls d, erX C [(fld, B' i)] F cls d → W.er ρ F cls d) (hg : Gl X x := by rfl) (hdb : (x == ("__debug__" : Str)) = false := by decide)
    (he : starEach [e] X.env = (false, eval e X.env) :: starEach [] X.env := by rfl) : SA X (.Raise (some (.Call (.Name x p) [e] [] pos)) none pos2) ρ Nx W := by
  obtain ⟨fI, fd, y0, y1, iC, tI, G, hb⟩ := T.ex
  refine ps_imp (ps_raise hc tk (pmk_oex (dvs := []) (ds := []) T.O iC tI G hr hb .nil pass0 hg T.gC (pa_cons ha pa_nil he) hdb he)) fun D σ H ⟨F0, H0, F, g, S, q, q2, q3, q4, q5⟩ => ?_
  refine ⟨H0, F, S, fun v H1 F1 g1 hv => ⟨(show 1 ≤ 1000 by decide), fun a hn => ⟨i, a, v, H1, F1, hp, rfl, hn, rfl, g1.i, hv, fun H2 F' y d g2 hy ha2 hd hne => ⟨rfl, d, [(fld, y)], upd_same, ?_, g2.h.none hd, ?_⟩⟩⟩⟩
  · rw [upd_ne hne, upd_same]
  · have e0 : upd (del (upd (upd (upd H2 a (exo a C none)) d (exd d [(fld, y)])) a (exo a C (some d))) a) d (.xd [(fld, y)]) = upd H2 d (.xd [(fld, y)]) := by
      funext b
      by_cases hb : b = d
      · rw [hb, upd_same, upd_same]
      · rw [upd_ne hb, upd_ne hb]
        by_cases hb2 : b = a
        · rw [hb2, del_same, ha2]
        · rw [del_ne hb2, upd_ne hb2, upd_ne hb, upd_ne hb2]
    rw [e0]
    have g3 := (g.trans g1).trans g2
    have gn : Gr F' H2 (upd F' d (.xd [(fld, y)])) (upd H2 d (.xd [(fld, y)])) := .new g3.i hd
    refine sat_q5 q5 (g3.trans gn) (((S.gr g1).gr g2).gr gn) (h _ _ _ ⟨rfl, [y], upd_same, ?_⟩)
    exact ⟨(B' i).mono gn.f hy, trivial⟩
end
end Lk

set_option Elab.async false
set_option linter.all false
set_option maxRecDepth 100000
set_option maxHeartbeats 4000000
namespace Lk
open PySem PySem.Calls L2 PySem.Spec PyProof.Rows
/-- the caught error, at a -/
def xcA (a : Addr) (d : Option Addr) (fs : List (Str × As)) : As := ⟨fun F v => v = .ref a ∧ dctP fs d F, fun e h => ⟨h.1, h.2.mono e⟩⟩
theorem Sat.unset {H0 F H : Hp} {σ : L2.St} {ρ : List En} (S : Sat H0 F σ H ρ) (i : Nat) : Sat H0 F (σ.set i none) H (ρ.set i .no) := by
  have no : ∀ {j : Nat} {e : En}, (ρ.set i En.no)[j]? = some e → e ≠ .no → i ≠ j ∧ ρ[j]? = some e := fun {j e} h hn => by
    by_cases hj : i = j
    · subst hj
      by_cases hi : i < ρ.length
      · rw [List.getElem?_set_self hi] at h
        exact absurd (by simpa using h) (Ne.symm hn)
      · rw [List.getElem?_eq_none (by rw [List.length_set]; omega)] at h
        cases h
    · rw [List.getElem?_set_ne hj] at h
      exact ⟨hj, h⟩
  refine ⟨S.ex, fun j A e => ?_, fun j l e => ?_, fun j k l m p e1 e2 h1 h2 => ?_, by rw [List.length_set, List.length_set]; exact S.len⟩
  · obtain ⟨nj, e'⟩ := no e (fun z => by cases z)
    rw [List.getElem?_set_ne nj]
    exact S.fr j A e'
  · obtain ⟨nj, e'⟩ := no e (fun z => by cases z)
    rw [List.getElem?_set_ne nj]
    exact S.own j l e'
  · obtain ⟨nj, e1'⟩ := no e1 (fun z => by cases z)
    obtain ⟨nk, e2'⟩ := no e2 (fun z => by cases z)
    rw [List.getElem?_set_ne nj] at h1
    rw [List.getElem?_set_ne nk] at h2
    exact S.sep j k l m p e1' e2' h1 h2
section
variable {X : Cx} {x n : Str} {c : Value} {i : Nat} {body suite : List Stmt} {b₀ : Stmt} {np pos pos' : Pos} {ρ : List En} {Nx : List En → Prop} {W : Wn} {C : Addr} {fs : List (Str × As)}
/-- try: .. except x as n: ..; what the body raises is of the class at C -/
theorem sa_try_as (i : Nat) (hs : X.stack = X.env :: X.outer) (hf : X.env.frame = some X.env.locals) (hN : X.N.Nodup) (hi : X.N[i]? = some n) (hln : X.env.kindOf n = some .local) (hc : Names X x c) (tk : Takes X (fun _ _ _ _ => False)) (hexm : PySem.W.exmOne X.K (.ref C) c = some true)
    (hb : ∀ (w : WX) (pn : List (Addr × Obj)) (xe : Value → Shared → Prop), Takes (X.tr pn xe) w → PassesOwn (model X.prog X.w) X.A X.env xe → BA (X.tr pn xe) body ρ Nx { W with er := fun ρ' F cls d => ρ' = ρ ∧ erX C fs F cls d, wx := w })
    (hsu : ∀ (a : Addr) (oe : Obj) (d : Option Addr) (pn : List (Addr × Obj)), Zc (.ref C) d oe → (∃ vs, oe.data = .fields vs) → BA (X.suite a ((a, oe) :: pn)) (b₀ :: suite) (ρ.set i (.fr (xcA a d fs))) (fun ρ2 => Nx (ρ2.set i .no)) { R := W.R, B := fun ρ2 => W.B (ρ2.set i .no), C := fun ρ2 => W.C (ρ2.set i .no) }) :
    SA X (.Try body [.ExceptHandler (some (.Name x np)) (some n) (b₀ :: suite) pos'] [] [] pos) ρ Nx W := by
  refine ps_imp (ps_try_as (tb := fun w => sA ρ Nx { W with er := fun ρ' F cls d => ρ' = ρ ∧ erX C fs F cls d, wx := w }) (i := i) (ts := fun a cls d D σ H => cls = .ref C ∧ sA (ρ.set i (.fr (xcA a d fs))) (fun ρ2 => Nx (ρ2.set i .no)) { R := W.R, B := fun ρ2 => W.B (ρ2.set i .no), C := fun ρ2 => W.C (ρ2.set i .no) } D σ H)
    hs hf hN hi hln hc tk hb (fun a oe cls d pn hz hv => ⟨fun pins s σ H D I ⟨ec, q⟩ => ?_⟩)) fun D σ H ⟨F0, H0, F, g, S, q1, q2, q3, q4, q5⟩ => ?_
  · subst ec
    exact (hsu a oe d pn hz hv).run pins s σ H D I q
  · refine ⟨F0, H0, F, g, S, q1, q2, q3, q4, fun cls d ρ' σ' H' F' ⟨eρ, ec, hd⟩ g' S' => ?_⟩
    subst eρ ec
    exact ⟨true, hexm, fun _ a _ => ⟨rfl, F0, H0, F', g', S'.set ⟨rfl, hd⟩, fun ρ2 σ2 H2 F2 hn g2 S2 => q1 _ _ H2 F2 hn g2 (S2.unset i), q2, fun ρ2 σ2 H2 F2 hn g2 S2 => q3 _ _ H2 F2 hn g2 (S2.unset i), fun ρ2 σ2 H2 F2 hn g2 S2 => q4 _ _ H2 F2 hn g2 (S2.unset i), fun _ _ _ _ _ _ z => z.elim⟩, fun z => nomatch z⟩
end
/-! ### what a suite asks of its error -/
/-- isinstance(e, c), e the error of the class at D whose own dict is at d -/
def rIsX (K : PySem.W.Frag) (D a : Addr) (d : Option Addr) : List V → Hp → VK → Prop := fun xs H Q => ∃ (c : V) (cv : Value) (b : Bool), xs = [.ref a, c] ∧ (∀ u, RelV c u → u = cv) ∧ PySem.W.kitOne K (.ref D) cv = some b ∧ (∀ dd, d = some dd → ∃ fs, H dd = some (.xd fs)) ∧ Q (.bl b) H
theorem call_isX {X : Cx} {a D : Addr} {d : Option Addr} {oe : Obj} {pn : List (Addr × Obj)} (C : ExcC X.K D) (hz : Zc (.ref D) d oe) (hf : ∃ vs, oe.data = .fields vs) : CallR (X.suite a ((a, oe) :: pn)) (.builtin "isinstance") (rIsX X.K D a d) := by
  intro pins s σ H xs us Q I r h
  obtain ⟨c, cv, b, rfl, hcv, e, hdd, q⟩ := h
  cases r with
  | cons rx rr =>
    cases rr with
    | cons rt rr =>
      cases rr
      cases rx
      have ec := hcv _ rt
      subst ec
      obtain ⟨hget, _⟩ := I.pin (a, oe) (List.mem_append.mpr (.inl List.mem_cons_self))
      obtain ⟨vs, hv⟩ := hf
      have hcl : (PySem.W.clsIn X.K D).isSome = true := by
        obtain ⟨cd, hc, _⟩ := PySem.W.any_some C.hd
        rw [hc]; rfl
      have J : ∃ od, PySem.W.InstAt s.heap a oe D od := by
        obtain ⟨oc, od, oda, osl⟩ := oe
        obtain ⟨h1, h2⟩ := hz
        dsimp only at h1 h2 hv
        subst h1 h2 hv
        cases od with
        | none => exact ⟨none, hget, rfl, rfl, trivial⟩
        | some dd =>
          obtain ⟨fs, hx⟩ := hdd dd rfl
          have hx' : ObjOk X.prog X.w H s.heap dd (.xd fs) := I.hok dd _ hx
          obtain ⟨mA, hns, _⟩ := hx'
          obtain ⟨od, ho, _⟩ := lookIn_ns hns
          exact ⟨some od, hget, rfl, rfl, ho⟩
      obtain ⟨od, J⟩ := J
      exact PySem.W.kia_one (PySem.W.kitx_exc hcl C.hg C.hk C.hs C.ha C.hn C.ht C.hm) I.kIn J e (fun z => nomatch z) fun tk => ⟨.bl b, H, I.kept (t' := tk) fun _ _ z => z, rfl, q⟩
section
variable {X : Cx} {a D : Addr} {d : Option Addr} {oe : Obj} {pn : List (Addr × Obj)} {e c : Expr} {ρ : List En} {fs : List (Str × As)} {pos p : Pos} {b : Bool} {x f : Str} {B : As}
theorem ea_isXc (C : ExcC X.K D) (hz : Zc (.ref D) d oe) (hf : ∃ vs, oe.data = .fields vs) {cv : V} {cu : Value} (he : EA (X.suite a ((a, oe) :: pn)) e ρ (xcA a d fs)) (hcx : PE (X.suite a ((a, oe) :: pn)) c (tC cv)) (hcv : ∀ u, RelV cv u → u = cu) (hk : PySem.W.kitOne X.K (.ref D) cu = some b) (hm : X.mg "isinstance" = none)
    (hg : Gl X "isinstance" := by rfl) (hs : starEach [e, c] X.env = (false, eval e X.env) :: starEach [c] X.env := by rfl) (hs2 : starEach [c] X.env = (false, eval c X.env) :: starEach [] X.env := by rfl) (hpl : (backTo pos (starEach [c] X.env)).any (·.1) = false := by rfl) :
    EA (X.suite a ((a, oe) :: pn)) (.Call (.Name "isinstance" p) [e, c] [] pos) ρ (bl b) :=
  pe_imp (pe_callB (call_isX C hz hf) hg hm bo_isi (pa_cons he (pa_cons hcx pa_nil hs2) hs) (he := hs) (hpl := hpl)) fun σ H Q ⟨H0, F, S, k⟩ => ⟨H0, F, S, fun v H1 F1 g1 ⟨ev, hd⟩ => by
    subst ev
    refine ⟨cv, cu, b, rfl, hcv, hk, fun dd ed => ?_, k _ H1 F1 g1 rfl⟩
    subst ed
    obtain ⟨vs, h1, _⟩ := hd
    exact ⟨_, g1.i dd _ h1⟩⟩
/-- isinstance(e, C2), C2 an own class -/
theorem ea_isXo {E : Addr} {p2 : Pos} (C : ExcC X.K D) (hz : Zc (.ref D) d oe) (hf : ∃ vs, oe.data = .fields vs) (he : EA (X.suite a ((a, oe) :: pn)) e ρ (xcA a d fs)) (hE : X.mg x = some (.ref E)) (hk : PySem.W.kitOne X.K (.ref D) (.ref E) = some b) (hm : X.mg "isinstance" = none) (hgx : Gl X x := by rfl) (hdx : (x == ("__debug__" : Str)) = false := by decide)
    (hg : Gl X "isinstance" := by rfl) (hs : starEach [e, .Name x p2] X.env = (false, eval e X.env) :: starEach [.Name x p2] X.env := by rfl) (hs2 : starEach [.Name x p2] X.env = (false, eval (.Name x p2) X.env) :: starEach [] X.env := by rfl) (hpl : (backTo pos (starEach [.Name x p2] X.env)).any (·.1) = false := by rfl) :
    EA (X.suite a ((a, oe) :: pn)) (.Call (.Name "isinstance" p) [e, .Name x p2] [] pos) ρ (bl b) :=
  ea_isXc C hz hf he (pe_glob (v := .ref E) hgx hE rfl hdx) (fun u r => r) hk hm hg hs hs2 hpl
/-- isinstance(e, T), T a built-in class -/
theorem ea_isXb {T : String} {p2 : Pos} (C : ExcC X.K D) (hz : Zc (.ref D) d oe) (hf : ∃ vs, oe.data = .fields vs) (he : EA (X.suite a ((a, oe) :: pn)) e ρ (xcA a d fs)) (hmx : X.mg x = none) (hT : bootBuiltins x = some (.type T)) (hk : PySem.W.kitOne X.K (.ref D) (.type T) = some b) (hm : X.mg "isinstance" = none) (hgx : Gl X x := by rfl) (hdx : (x == ("__debug__" : Str)) = false := by decide) (hnx : x ≠ "__name__" := by decide)
    (hg : Gl X "isinstance" := by rfl) (hs : starEach [e, .Name x p2] X.env = (false, eval e X.env) :: starEach [.Name x p2] X.env := by rfl) (hs2 : starEach [.Name x p2] X.env = (false, eval (.Name x p2) X.env) :: starEach [] X.env := by rfl) (hpl : (backTo pos (starEach [.Name x p2] X.env)).any (·.1) = false := by rfl) :
    EA (X.suite a ((a, oe) :: pn)) (.Call (.Name "isinstance" p) [e, .Name x p2] [] pos) ρ (bl b) :=
  ea_isXc C hz hf he (pe_bltn (v := .ty T) hgx hmx hT rfl hnx hdx) (fun u r => r) hk hm hg hs hs2 hpl
/-- e.f -/
theorem ea_fldX (C : ExcC X.K D) (hz : Zc (.ref D) d oe) (hf : ∃ vs, oe.data = .fields vs) (hno : PySem.W.findIn X.K (.ref D) f = some none) (he : EA (X.suite a ((a, oe) :: pn)) e ρ (xcA a d fs)) (hl : fs.lookup f = some B)
    (hb : attributeBase e f X.env (eval e X.env) = eval e X.env := by rfl) : EA (X.suite a ((a, oe) :: pn)) (.Attribute e f pos) ρ B := by
  refine ⟨fun pins s σ H Q I ⟨H0, F, S, k⟩ => ?_⟩
  refine attr_of hb (thn (he.run pins s σ H (fun v H' => ∃ F', Gr F H F' H' ∧ v = .ref a ∧ dctP fs d F') I ⟨H0, F, S, fun v H' F' g hv => ⟨F', g, hv⟩⟩) fun u s1 hh => ?_)
  obtain ⟨x, H1, I1, rx, F1, g1, ex, hd⟩ := hh
  subst ex
  obtain rfl : u = Value.ref a := rx
  obtain ⟨ha, _⟩ := I1.pin (a, oe) (List.mem_append_left _ List.mem_cons_self)
  obtain ⟨vs, hdt⟩ := hf
  cases d with
  | none =>
    have hd : fs = [] := hd
    rw [hd] at hl
    cases hl
  | some dd =>
    obtain ⟨us, h1, h2⟩ := hd
    have hx : ObjOk X.prog X.w H1 s1.heap dd (.xd ((fs.map Prod.fst).zip us)) := I1.hok dd _ (g1.i dd _ h1)
    obtain ⟨mA, hns, hr⟩ := hx
    obtain ⟨od, ho, hlk⟩ := lookIn_ns hns
    obtain ⟨w, hw, hB⟩ := zip_lookup h2 hl
    obtain ⟨u, hu, ru⟩ := RelO.some_of (v := w) (o := mA f) (by rw [← hw]; exact hr f)
    have J : PySem.W.InstAt s1.heap a oe D (some od) := ⟨ha, hz.1, by unfold PySem.W.notCls; rw [hdt] <;> rfl, by rw [hz.2]; exact ho⟩
    exact HandSPX.exc_get I1.kIn J C.hg C.hk C.hs (PySem.W.findObj_own C.hd hno rfl (by rw [hlk, hu])) (handed_of ru) ⟨w, H1, I1.tok _, ru, k w H1 F1 g1 hB⟩
end
/-! ### defs that may be called within a suite -/
structure FnA (P : Program) (w : World) (K : PySem.W.Frag) (mg : Str → Option Value) (base : Heap) (k : Nat) (f : Addr) (fd : FuncData) (ps : List Str) (sp : Sp) : Prop where
  len : ∀ vs H Q E, sp vs H Q E → vs.length = ps.length
  run : ∀ (A : Around) (outer : List Env) (s : Shared) (H : Hp) (args : Args) (us : List Value) (vs : List V) (Q : VK) (E : XK), L2H.RoomH k A → Env0 P w K mg base A outer s H → BindsTo s fd args (ps.zip us) → Vals vs us → sp vs H Q E →
    codeAny (model P w) A (.call (.ref f) args) (CR CX0 outer P w H s Q E) s
theorem FnA.ok {P : Program} {w : World} {K : PySem.W.Frag} {mg : Str → Option Value} {base : Heap} {k : Nat} {f : Addr} {fd : FuncData} {ps : List Str} {sp : Sp} (F : FnA P w K mg base k f fd ps sp) : FnOk P w K mg base CX0 k f fd ps sp :=
  ⟨F.len, fun A outer s H args us vs Q E hr e0 hb r h => F.run A outer s H args us vs Q E (L2H.roomH_of hr) e0 hb r h⟩
abbrev cxA (P : Program) (w : World) (K : PySem.W.Frag) (mg : Str → Option Value) (base : Heap) (N : List Str) (qual : Str) (scope : Scope) (f : Addr) (cd : Value) (A : Around) (outer : List Env) (s : Shared) (H : Hp) (E : XK) : Cx :=
  { cxOf CX0 P w K mg base N qual scope f cd A outer s H E with calm := false }
theorem inv_startA {P : Program} {w : World} {K : PySem.W.Frag} {mg : Str → Option Value} {base : Heap} {N ps : List Str} {qual : Str} {scope : Scope} {f : Addr} {cd : Value} {A : Around} {outer : List Env} {s s1 : Shared} {H : Hp} {E : XK} {us : List Value} {vs : List V}
    (S : FnScope N ps scope) (e0 : Env0 P w K mg base A outer s H) (hl : vs.length = ps.length) (r : Vals vs us)
    (x : InCallC s s.heap.objs.size (bindL (envOfC qual scope s.heap.objs.size f cd).kindOf (ps.zip us) fun _ => none) (cellsFrom (s.heap.objs.size + 1) scope.names []) (bindC (envOfC qual scope s.heap.objs.size f cd).kindOf (ps.zip us) fun _ => none) s1) :
    Inv (cxA P w K mg base N qual scope f cd A outer s H E) [] (L2.start N vs) H s1 := by
  have hpl : ps.length ≤ N.length := by have := congrArg List.length S.pre; rw [List.length_take] at this; omega
  obtain ⟨h1, tk, rfl, hk⟩ := x.done
  have noA : ∀ b : Addr, b ∉ (cxA P w K mg base N qual scope f cd A outer s H E).ex := fun b z => absurd (show b ∈ ([] : List Addr) from z) (by simp)
  refine ⟨⟨e0.mod, S.kind, rfl, rfl, Nat.le_refl _, fun y z c h1 h2 => ?_, fun y hy => ?_, fun y c _ h => ?_, (fun z => Bool.noConfusion (show false = true from z)), Around.frames_deeper e0.frames, .inr ⟨rfl, rfl⟩, fun b z => absurd z (noA b), e0.bs, e0.bsz, fun b _ _ => noA b, fun b z => absurd z (noA b), e0.funs, e0.frf⟩,
    rfl, e0.bare, Un.kept hk, ⟨_, x.toInCall.ns, fun i y v h1 h2 h3 => ?_⟩, fun y c h => ⟨_, x.cell y c h⟩, e0.hok.fresh (Nat.le_refl _), fun y c h => ?_, fun q hq => absurd (show q ∈ ([] : List (Addr × Obj)) from hq) (by simp), e0.hok.kept hk, ?_⟩
  · exact name_of_addr x.apart (PySem.mem_of_lookup h1) (PySem.mem_of_lookup h2)
  · have hy : scope.names.lookup y = some .cell ∨ scope.names.lookup y = some .free := hy
    rcases hy with hy | hy
    · exact cell_has hy
    · exact absurd rfl (S.nofree _ (PySem.mem_of_lookup hy))
  · exact Nat.le_of_lt (x.above y c (PySem.mem_of_lookup h))
  · have hi : i < vs.length := by
      unfold L2.start at h2
      by_cases hi : i < vs.length
      · exact hi
      · rw [List.getElem?_append_right (by simpa using hi)] at h2
        rw [List.getElem?_replicate] at h2
        split at h2 <;> cases h2
    have ha : vs[i]? = some v := by
      unfold L2.start at h2
      rw [List.getElem?_append_left (by simpa using hi), List.getElem?_map] at h2
      cases e : vs[i]? with
      | none => rw [e] at h2; cases h2
      | some a => rw [e] at h2; cases h2; rfl
    obtain ⟨u, hu, rv⟩ := r.get ha
    have hp : ps[i]? = some y := by
      rw [← S.pre, List.getElem?_take_of_lt (by omega)]; exact h1
    have ndP : ps.Nodup := by rw [← S.pre]; exact S.nd.sublist (List.take_sublist _ _)
    refine ⟨u, rv, ?_⟩
    rcases S.par y (List.mem_of_getElem? hp) with k | k
    · exact .inl ⟨k, bindL_get ndP hp hu k⟩
    · obtain ⟨c, e⟩ := cell_has (n := s.heap.objs.size + 1) k
      refine .inr ⟨.inl k, c, e, ?_⟩
      have q := x.cell y c e
      rw [bindC_get ndP hp hu (by show scope.names.lookup y ≠ _; rw [k]; decide)] at q
      exact q
  · exact e0.hok.fresh (Nat.le_of_lt (x.above y c (PySem.mem_of_lookup h)))
  · unfold L2.start
    show _ = N.length
    rw [List.length_append, List.length_map, List.length_replicate]
    omega
theorem fn_okA {P : Program} {w : World} {K : PySem.W.Frag} {mg : Str → Option Value} {base : Heap} {x qual : Str} {st : Stmt} {f : Addr} {fd : FuncData} {N ps : List Str} {k : Nat} {ι : Type} {pre : ι → Prop} {l : ι → List As} {A : ι → As} (F : Fun K x qual st f fd) (S : FnScope N ps (defScope st)) (hl : ∀ i, pre i → (l i).length = ps.length)
    (hb : ∀ (i : ι) (cdv : Value) (B : Around) (outer : List Env) (s : Shared) (H : Hp) (E : XK), pre i → L2H.RoomH k (B.deeper (PyProof.Rows.envOfC qual (defScope st) s.heap.objs.size f cdv)) →
      BA (cxA P w K mg base N qual (defScope st) f cdv B outer s H E) (defBody st) (entry N (l i)) (fun _ => ∀ F, (A i).p F .non) { R := A i }) : FnA P w K mg base (k + 1) f fd ps (spX pre l A) := by
  obtain ⟨oc, od, kV, doc, pm, an, cdv, ct, osl, rfl, lk, hcd⟩ := F.ex
  have len : ∀ vs H Q E, spX pre l A vs H Q E → vs.length = ps.length := fun vs H Q E h => by
    obtain ⟨i, hp, F, e, hv, _⟩ := h
    rw [hv.length, hl i hp]
  refine ⟨len, fun A' outer s H args us vs Q E hr e0 hb' r hsp => ?_⟩
  have hl' := len _ _ _ _ hsp
  obtain ⟨i, hp, F1, e, hv, q⟩ := hsp
  have KX : K.In s.heap := e0.mod.kin.keeps fun b o e => (e0.bs b o e).1
  have lim : s.heap.NoLimit := e0.mod.nolimit.keeps fun b o e => (e0.bs b o e).1
  have hkind : ∀ y ∈ ps.zip us, (defScope st).names.lookup y.1 = some .local ∨ ((defScope st).names.lookup y.1 = some .cell ∧ ((cellsFrom (s.heap.objs.size + 1) (defScope st).names []).lookup y.1).isSome = true) := fun ⟨n, v⟩ hy => by
    rcases S.par n (List.of_mem_zip hy).1 with q | q
    · exact .inl q
    · exact .inr ⟨q, PySem.W.cellsFrom_some _ _ _ (.inl q)⟩
  refine codeAny_call_function hr.depth (KX _ _ lk) rfl S.co S.gen rfl (PySem.W.codeRec_of KX hcd) (hb' _ _ _ _ ?_)
  refine wpAny_newFunctionEnv_cells S.kind hkind fun env he s1 x => ?_
  subst he
  refine ⟨lim.keeps x.toInCall.keep, codeAny_func ?_⟩
  have ht := hb i cdv A' outer s H E hp (hr.deeper _)
  have I : Inv (cxA P w K mg base N qual (defScope st) f cdv A' outer s H E) [] (L2.start N vs) H s1 := inv_startA S e0 hl' r x
  have hq : sA (entry N (l i)) (fun _ => ∀ F, (A i).p F .non) { R := A i } { nx := fun _ H' => Q .non H', rt := Q } (L2.start N vs) H := by
    refine ⟨F1, H, F1, .refl e, sat_start (ps := ps) e hv, fun ρ' σ' H' F' hn g' S' => q .non H' F' g' (hn F'), fun v H' F' g' hv => q v H' F' g' hv, fun _ _ _ _ z => z.elim, fun _ _ _ _ z => z.elim, fun _ _ _ _ _ _ z => z.elim⟩
  refine wpAny_mono (ht.run [] s1 (L2.start N vs) H _ I hq) (fun fl s' hs => ?_) fun e s' hs => hs
  have fin : ∀ {σ' : L2.St} {H' : Hp} {v : V} {u : Value}, Inv (cxA P w K mg base N qual (defScope st) f cdv A' outer s H E) [] σ' H' s' → RelV v u → Q v H' → CE outer P w H s Q u s' :=
    fun {σ' H' v u} J rv q => ⟨v, H', J.os, J.bare, J.base, J.hok, rv, q⟩
  cases fl with
  | ret u =>
    obtain ⟨v, σ', H', J, rv, q⟩ := hs
    exact fin J rv q
  | next =>
    obtain ⟨σ', H', J, q⟩ := hs
    exact fin (v := V.non) (u := Value.none) J rfl q
  | brk =>
    obtain ⟨_, _, _, q⟩ := hs
    exact False.elim q
  | cont =>
    obtain ⟨_, _, _, q⟩ := hs
    exact False.elim q
structure DfA (P : Program) (w : World) (K : PySem.W.Frag) (mg : Str → Option Value) (base : Heap) (k : Nat) (x : Str) (ps : List Str) (sp : Sp) : Prop where
  ex : ∃ f fd, FnA P w K mg base k f fd ps sp ∧ mg x = some (.ref f) ∧ PySem.W.keepIn K (.ref f) = true ∧ Binds K fd ps []
theorem DfA.df {P : Program} {w : World} {K : PySem.W.Frag} {mg : Str → Option Value} {base : Heap} {k : Nat} {x : Str} {ps : List Str} {sp : Sp} (D : DfA P w K mg base k x ps sp) : Df P w K mg base k x ps sp :=
  let ⟨f, fd, h1, h2⟩ := D.ex
  ⟨f, fd, h1.ok, h2⟩
theorem roomA_mark {k : Nat} {A : Around} {v : Option Value} (r : L2H.RoomH k A) : L2H.RoomH k (A.mark v) := ⟨r.dp, r.un⟩
/-- a call, also within a suite -/
theorem ea_callA {X : Cx} {e : Expr} {es : List Expr} {ρ : List En} {pos : Pos} {k : Nat} {x : Str} {ps : List Str} {ι : Type} {pre : ι → Prop} {l : ι → List As} {A : ι → As} {p : Pos} (D : DfA X.prog X.w X.K X.mg X.base k x ps (spX pre l A)) (hr : L2H.RoomH k X.A) (i : ι) (hp : pre i) (ha : EAs X (e :: es) ρ (l i)) (hg : Gl X x := by rfl)
    (hdb : (x == ("__debug__" : Str)) = false := by decide) (he : starEach (e :: es) X.env = (false, eval e X.env) :: starEach es X.env := by rfl) (hpl : (backTo pos (starEach es X.env)).any (·.1) = false := by rfl) : EA X (.Call (.Name x p) (e :: es) [] pos) ρ (A i) := by
  obtain ⟨f, fd, G, hm, hk, hb⟩ := D.ex
  refine ⟨fun pins s σ H Q I ⟨H0, F, S, q⟩ => ?_⟩
  refine wpAny_Call_Name_kw (ld_glob I hg hm ?_ hdb)
  refine PySem.W.callWith_K (h₀ := X.base) I.ok.mod.kin hk (thn (ha.run pos pins s σ H (fun vs H1 => spX pre l A vs H1 Q E0) I ⟨H0, F, S, fun vs H1 F1 g1 h1 => ⟨i, hp, F1, g1.i, h1, fun v H' F' g hv => q v H' F' (g1.trans g) hv⟩⟩) fun us s1 ⟨vs, H1, I1, r, hsp⟩ => ⟨I1.kIn, ?_⟩) he hpl
  have hl := G.len _ _ _ _ hsp
  refine wpAny_call (codeAny_mono (G.run X.A X.stack s1 H1 ⟨us, []⟩ us vs Q E0 hr I1.env0 (by
    have z := hb s1 us I1.kIn (by rw [List.append_nil, ← r.length]; exact hl)
    rwa [List.append_nil] at z) r hsp) fun r s' hq => ?_)
  cases r with
  | error e => exact hq.elim
  | ok fl =>
    cases fl with
    | ret u => exact I1.after hq
    | next => exact False.elim hq
    | brk => exact False.elim hq
    | cont => exact False.elim hq
end Lk

set_option Elab.async false
set_option linter.all false
set_option maxRecDepth 100000
set_option maxHeartbeats 4000000
namespace Lk
open PySem PySem.Calls L2 PySem.Spec PyProof.Rows
section
variable {X : Cx} {e a b c o it tg : Expr} {es : List Expr} {ρ : List En} {A B : As} {pos apos p1 p2 : Pos} {k : Nat} {l m : List As} {C : Addr} {fs : List (Str × As)} {x : Str}
/-! ### a list or a tuple -/
theorem es_sq {q : Bool} (h : EA X it ρ (sq q l)) : ES X tg it ρ l := by
  cases q with
  | true => exact es_l h
  | false => exact es_t h
theorem ea_lenSq {q : Bool} {p : Pos} (ha : EA X a ρ (sq q l)) (hm : X.mg "len" = none) (hg : Gl X "len" := by rfl) (hs : starEach [a] X.env = (false, eval a X.env) :: starEach [] X.env := by rfl) (hpl : (backTo pos (starEach [] X.env)).any (·.1) = false := by rfl) : EA X (.Call (.Name "len" p) [a] [] pos) ρ (int (l.length : Int)) := by
  cases q with
  | true => exact ea_lenL (ea_l ha) hm hg hs hpl
  | false => exact ea_lenTp ha hm hg hs hpl
theorem ea_ixSq {q : Bool} {i : Int} {j : Nat} (ha : EA X a ρ (sq q l)) (hb : EW X b ρ (int i)) (hi : i = (j : Int)) (hj : l[j]? = some A) (hs : PlainIx b := by exact fun _ _ => rfl) : EA X (.Subscript a b pos) ρ A := by
  cases q with
  | true => exact ea_ixL (ea_l ha) hb hi hj hs
  | false => exact ea_ixT ha hb hi hj hs
/-! ### a <= b < c -/
theorem ea_chainLeLt {x y z : Int} (ha : EW X a ρ (int x)) (hb : EW X b ρ (int y)) (hc : EW X c ρ (int z)) (hm : lastMarks [.LtE, .Lt] [b, c] = false) : EA X (.Compare a [.LtE, .Lt] [b, c] pos) ρ (bl (decide (x ≤ y) && decide (y < z))) :=
  pe_imp (pe_chain op_le op_lt ha hb hc hm) fun σ H Q ⟨H0, F, S, q⟩ => ⟨H0, F, S, fun v H1 F1 g1 h1 => ⟨H0, F1, S.gr g1, fun u H2 F2 g2 h2 => by
    have h1 : v = .int x := h1
    have h2 : u = .int y := h2
    subst h1 h2
    refine ⟨x, y, rfl, rfl, _, rfl, ?_⟩
    have g := g1.trans g2
    by_cases hxy : x ≤ y
    · rw [if_pos (decide_eq_true hxy)]
      refine ⟨H0, F2, (S.gr g1).gr g2, fun t H3 F3 g3 h3 => ?_⟩
      have h3 : t = .int z := h3
      subst h3
      refine ⟨y, z, rfl, rfl, q _ H3 F3 (g.trans g3) ?_⟩
      show V.bl _ = V.bl _
      rw [decide_eq_true hxy, Bool.true_and]
    · rw [if_neg (by simpa using hxy)]
      refine q _ H2 F2 g ?_
      show V.bl _ = V.bl _
      rw [decide_eq_false hxy, Bool.false_and]⟩⟩
theorem et_chainLeLt {x y z : Int} (ha : EW X a ρ (int x)) (hb : EW X b ρ (int y)) (hc : EW X c ρ (int z)) (hm : lastMarks [.LtE, .Lt] [b, c] = false) : ET X (.Compare a [.LtE, .Lt] [b, c] pos) ρ (decide (x ≤ y) && decide (y < z)) :=
  pt_imp (pt_chain op_le op_lt ha hb hc hm) fun σ H Q ⟨H0, F, S, q⟩ => ⟨H0, F, S, fun v H1 F1 g1 h1 => ⟨H0, F1, S.gr g1, fun u H2 F2 g2 h2 => by
    have h1 : v = .int x := h1
    have h2 : u = .int y := h2
    subst h1 h2
    refine ⟨x, y, rfl, rfl, _, rfl, ?_⟩
    have g := g1.trans g2
    by_cases hxy : x ≤ y
    · rw [if_pos (decide_eq_true hxy)]
      refine ⟨H0, F2, (S.gr g1).gr g2, fun t H3 F3 g3 h3 => ?_⟩
      have h3 : t = .int z := h3
      subst h3
      refine ⟨y, z, rfl, rfl, _, rfl, ?_⟩
      have e : (decide (x ≤ y) && decide (y < z)) = decide (y < z) := by rw [decide_eq_true hxy, Bool.true_and]
      rw [← e]
      exact q H3 F3 (g.trans g3)
    · rw [if_neg (by simpa using hxy)]
      have e : (decide (x ≤ y) && decide (y < z)) = false := by rw [decide_eq_false hxy, Bool.false_and]
      rw [← e]
      exact ⟨_, rfl, q H2 F2 g⟩⟩⟩
/-! ### isinstance -/
/-- isinstance(e, T), T a built-in class, e's type known -/
theorem ea_isT {T : String} {t : Value} {bb : Bool} {x : Str} (he : EA X e ρ A) (ty : ∀ F H v, Ex F H → A.p F v → TyOf X.K H v t) (hmx : X.mg x = none) (hT : bootBuiltins x = some (.type T)) (hk : PySem.W.kitOne X.K t (.type T) = some bb) (hm : X.mg "isinstance" = none) (hgx : Gl X x := by rfl) (hdx : (x == ("__debug__" : Str)) = false := by decide) (hnx : x ≠ "__name__" := by decide)
    (hg : Gl X "isinstance" := by rfl) (hs : starEach [e, .Name x p2] X.env = (false, eval e X.env) :: starEach [.Name x p2] X.env := by rfl) (hs2 : starEach [.Name x p2] X.env = (false, eval (.Name x p2) X.env) :: starEach [] X.env := by rfl) (hpl : (backTo pos (starEach [.Name x p2] X.env)).any (·.1) = false := by rfl) :
    EA X (.Call (.Name "isinstance" p1) [e, .Name x p2] [] pos) ρ (bl bb) :=
  pe_imp (pe_callB call_isi hg hm bo_isi (pa_cons he (pa_cons (pe_bltn (v := .ty T) hgx hmx hT rfl hnx hdx) pa_nil hs2) hs) (he := hs) (hpl := hpl)) fun σ H Q ⟨H0, F, S, k⟩ => ⟨H0, F, S, fun v H1 F1 g1 h1 =>
    ⟨v, .ty T, t, .type T, bb, rfl, .ty _, .base (ty F1 H1 v g1.i h1), hk, k _ H1 F1 g1 rfl⟩⟩
theorem kit_int_int {K : PySem.W.Frag} : PySem.W.kitOne K (.type "int") (.type "int") = some true := kit_ty (by decide +kernel)
theorem kit_int_bool {K : PySem.W.Frag} : PySem.W.kitOne K (.type "int") (.type "bool") = some false := kit_ty (by decide +kernel)
theorem kit_tup_tup {K : PySem.W.Frag} : PySem.W.kitOne K (.type "tuple") (.type "tuple") = some true := kit_ty (by decide +kernel)
theorem ty_int {K : PySem.W.Frag} {i : Int} : ∀ F H v, Ex F H → (int i).p F v → TyOf K H v (.type "int") := fun F H v _ h => by
  have h : v = .int i := h
  subst h
  exact .int i
theorem ty_tup {K : PySem.W.Frag} : ∀ F H v, Ex F H → (tupA l).p F v → TyOf K H v (.type "tuple") := fun F H v e ⟨a, xs, ev, h1, _⟩ => by
  subst ev
  exact .tup (e a _ h1)
theorem bo_int2 : bootBuiltins ("int" : Str) = some (.type "int") := bo_int
/-- what an own class wants for isinstance -/
structure IsO (K : PySem.W.Frag) (C : Addr) : Prop where
  cl : Cls K C
  ha : PySem.W.findIn K (.ref C) "__class__" = some (some (.builtin "object.__class__"))
  hn : PySem.W.specialIn K (.builtin "object.__class__") "__get__" = some (some (.builtin "getset_descriptor.__get__"))
  ht : PySem.W.takesIn K (.builtin "object.__class__") = some true
  hm : PySem.W.mroIn K C (.type "object") = some true
/-- isinstance(e, C), e an object of the class itself -/
theorem ea_isO {x : Str} (T : IsO X.K C) (he : EA X e ρ (insA C fs)) (hmx : X.mg x = some (.ref C)) (hm : X.mg "isinstance" = none) (hgx : Gl X x := by rfl) (hdx : (x == ("__debug__" : Str)) = false := by decide)
    (hg : Gl X "isinstance" := by rfl) (hs : starEach [e, .Name x p2] X.env = (false, eval e X.env) :: starEach [.Name x p2] X.env := by rfl) (hs2 : starEach [.Name x p2] X.env = (false, eval (.Name x p2) X.env) :: starEach [] X.env := by rfl) (hpl : (backTo pos (starEach [.Name x p2] X.env)).any (·.1) = false := by rfl) :
    EA X (.Call (.Name "isinstance" p1) [e, .Name x p2] [] pos) ρ (bl true) :=
  pe_imp (pe_callB call_isi hg hm bo_isi (pa_cons he (pa_cons (pe_glob (v := .ref C) hgx hmx rfl hdx) pa_nil hs2) hs) (he := hs) (hpl := hpl)) fun σ H Q ⟨H0, F, S, k⟩ => ⟨H0, F, S, fun v H1 F1 g1 ⟨a, dx, vs, ev, h1, h2⟩ => by
    subst ev
    refine ⟨.ref a, .ref C, .ref C, .ref C, true, rfl, .own C, .base (.ins (g1.i a _ h1) T.cl T.ha T.hn T.ht T.hm), ?_, k _ H1 F1 g1 rfl⟩
    unfold PySem.W.kitOne
    rw [if_pos (by simp)]⟩
end
/-! ### for x in a source that stays -/
section
variable {X : Cx} {ρ : List En} {pos : Pos} {it : Expr} {sts : List Stmt} {Nx : List En → Prop} {W : Wn} {l : List As}
theorem sa_forS (j : Nat) {x : Str} {px : Pos} (I : Nat → List En → Prop) (hp : PassesOwn (model X.prog X.w) X.A X.env X.xe) (hcalm : X.calm = true) (hN : X.N.Nodup) (hi : ES X (.Name x px) it ρ l) (h0 : ∃ ρ0, I 0 ρ0 ∧ Le ρ0 ρ)
    (hs : ∀ n A ρ', l[n]? = some A → I n ρ' → BA X sts (ρ'.set j (.fr A)) (fun ρ2 => ∃ ρ3, I (n + 1) ρ3 ∧ Le ρ3 ρ2) { W with B := Nx, C := fun ρ2 => ∃ ρ3, I (n + 1) ρ3 ∧ Le ρ3 ρ2 })
    (hd : ∀ ρ', I l.length ρ' → Nx ρ') (hj : X.N[j]? = some x := by rfl) (hx : Loc X.env.scope x := by first | exact .inl rfl | exact .inr rfl) (hf : X.fn x = true ∨ X.env.scope.names.lookup x = some .local := by first | exact .inl rfl | exact .inr rfl | assumption)
    (hfo : ∀ z, foldedSetIterable it X.env z = pure z := by intro _; rfl) :
    SA X (.For (.Name x px) it sts [] pos) ρ Nx W := by
  have hb : PSs X sts (tbL I l j W Nx) := ⟨fun pins s σ H D I' ⟨n, A, ρ', h1, h2, q⟩ => (hs n A ρ' h1 h2).run pins s σ H D I' q⟩
  refine ps_imp (ps_for hp hcalm hi (pg_name hN hj hx hf) hb hfo) fun D σ H ⟨F0, H0, F, g, S, q1, q2, q3, q4, q5⟩ => ?_
  refine ⟨H0, F, S, fun J So xs H1 F1 g1 hall hJ hS => ?_⟩
  have gA := g.trans g1
  -- behind n turns
  let Pv : Nat → L2.St → Hp → Prop := fun n σ' H' => ∃ ρ' F', I n ρ' ∧ Gr F0 H0 F' H' ∧ Ex F1 F' ∧ Sat H0 F' σ' H' ρ'
  refine ⟨fun n m σ' H' => m = xs.length - n ∧ n ≤ xs.length ∧ Pv n σ' H', ⟨xs.length, by simp, Nat.zero_le _, ?_⟩, ?_⟩
  · obtain ⟨ρ0, i0, le⟩ := h0
    exact ⟨ρ0, F1, i0, gA, Ex.refl F1, (S.gr g1).le le⟩
  rintro n m σ' H' ⟨rfl, hn', ρ', F', hI, g', x', S'⟩
  obtain ⟨s1, s2, s3⟩ := hJ n H' (hS H' (x'.trans g'.i))
  by_cases hlt : n < xs.length
  · have hn : n < l.length := by rw [← hall.length]; exact hlt
    refine .inr ⟨s1 xs[n] (by simp [hlt]), Pv (n + 1), fun σ2 H2 p => ⟨xs.length - (n + 1), by omega, rfl, hlt, p⟩, fun y H2 yl => ?_⟩
    obtain ⟨e, hy⟩ := s2 hlt y H2 yl
    subst e
    obtain ⟨u, hu, hA⟩ := hall.get (List.getElem?_eq_getElem hn)
    rw [hy] at hu
    have e : y = u := by simpa using hu
    subst e
    have fin : ∀ ρ2 σ2 H2 F2, (∃ ρ3, I (n + 1) ρ3 ∧ Le ρ3 ρ2) → Gr F0 H0 F2 H2 → Ex F' F2 → Sat H0 F2 σ2 H2 ρ2 → Pv (n + 1) σ2 H2 := fun ρ2 σ2 H2 F2 ⟨ρ3, i3, le⟩ g2 x2 S2 => ⟨ρ3, F2, i3, g2, x'.trans x2, S2.le le⟩
    refine ⟨n, l[n], ρ', List.getElem?_eq_getElem hn, hI, F', H0, F', ?_, S'.set (l[n].mono x' hA), ?_, ?_, ?_, ?_, ?_⟩
    · exact ⟨Ex.refl F', g'.h, g'.i, fun a o z1 z2 => z2⟩
    · intro ρ2 σ2 H2 F2 hm g2 S2
      exact fin ρ2 σ2 H2 F2 hm ⟨g'.f.trans g2.f, g2.h, g2.i, fun a o z1 z2 => g2.n a o z1 (g'.n a o z1 z2)⟩ g2.f S2
    · intro v H2 F2 g2 hv
      exact q2 v H2 F2 ⟨g'.f.trans g2.f, g2.h, g2.i, fun a o z1 z2 => g2.n a o z1 (g'.n a o z1 z2)⟩ hv
    · intro ρ2 σ2 H2 F2 hm g2 S2
      exact q1 ρ2 σ2 H2 F2 hm ⟨g'.f.trans g2.f, g2.h, g2.i, fun a o z1 z2 => g2.n a o z1 (g'.n a o z1 z2)⟩ S2
    · intro ρ2 σ2 H2 F2 hm g2 S2
      exact fin ρ2 σ2 H2 F2 hm ⟨g'.f.trans g2.f, g2.h, g2.i, fun a o z1 z2 => g2.n a o z1 (g'.n a o z1 z2)⟩ g2.f S2
    · intro cls d ρ2 σ2 H2 F2 he g2 S2
      exact q5 cls d ρ2 σ2 H2 F2 he ⟨g'.f.trans g2.f, g2.h, g2.i, fun a o z1 z2 => g2.n a o z1 (g'.n a o z1 z2)⟩ S2
  · have e : n = xs.length := by omega
    subst e
    rw [hall.length] at hI
    exact .inl ⟨s3 (Nat.le_refl _), q1 ρ' σ' H' F' (hd ρ' hI) g' S'⟩
end
/-! ### [.. for a, b in zip(x, y)], tuples of one length -/
theorem wipe_setG {τ : L2.St} {j : Nat} {x : Option V} : ∀ {vs : List Nat}, j ∈ vs → L2.wipe (τ.set j x) vs = L2.wipe τ vs := by
  have at_ : ∀ (vs : List Nat) (τ : L2.St) (i : Nat), i ∈ vs → (L2.wipe τ vs)[i]? = if i < τ.length then some none else none := by
    intro vs
    induction vs with
    | nil => intro τ i h; simp at h
    | cons v vs ih =>
      intro τ i h
      unfold L2.wipe
      by_cases e : v = i
      · subst e
        rw [List.getElem?_set]
        simp [wipe_length]
      · rw [List.getElem?_set_ne e]
        exact ih τ i ((List.mem_cons.mp h).resolve_left fun z => e z.symm)
  intro vs hj
  refine List.ext_getElem? fun i => ?_
  by_cases hi : i ∈ vs
  · rw [at_ vs _ i hi, at_ vs _ i hi, List.length_set]
  · rw [wipe_get hi, wipe_get hi, List.getElem?_set_ne (fun z => hi (by rw [← z]; exact hj))]
section
variable {α : Type} {X : Cx} {ρ : List En} {pos : Pos} {elt a b : Expr} {scope : Scope}
theorem en_lcZ {own : List (Str × Nat)} (j1 j2 : Nat) {x1 x2 : Str} {px1 px2 p1 p2 tp : Pos} {kk : Nat} {l : List α} {e1 e2 : α → As} {g : α → As} (hc : X.calm = true) (hN : X.N.Nodup) (hm : X.mg "zip" = none) (hi : EAs X [a, b] ρ [tupA (l.map e1), tupA (l.map e2)]) (hz : l.length < sizeLine) (ok : BlkOk X.N X.env.scope scope own)
    (hg : ∀ (s : Shared) (H : Hp) (C : Addr) (cl : List (Str × Addr)) (fp : List Addr), PG (X.blk s H scope (compEnvC scope cl C X.env) fp) (.Tuple [.Name x1 px1, .Name x2 px2] kk tp) (gTup X.K 2 (gCons (gName j1) (gCons (gName j2) gNil))))
    (he : ∀ (s : Shared) (H : Hp) (C : Addr) (cl : List (Str × Addr)) (fp : List Addr), ∀ x ∈ l, EA (X.blk s H scope (compEnvC scope cl C X.env) fp) elt (((wipeE ρ (own.map (·.2))).set j1 (.fr (e1 x))).set j2 (.fr (e2 x))) (g x))
    (hj1 : j1 ∈ own.map (·.2) := by decide) (hj2 : j2 ∈ own.map (·.2) := by decide) (hgz : Gl X "zip" := by rfl)
    (hs : starEach [a, b] X.env = (false, eval a X.env) :: starEach [b] X.env := by rfl) (hpl : (backTo p2 (starEach [b] X.env)).any (·.1) = false := by rfl) (hfo : ∀ z, foldedSetIterable (.Call (.Name "zip" p1) [a, b] [] p2) X.env z = pure z := by intro _; rfl) :
    EN X (.ListComp elt [⟨.Tuple [.Name x1 px1, .Name x2 px2] kk tp, .Call (.Name "zip" p1) [a, b] [] p2, [], 0⟩] scope pos) ρ (l.map g) := by
  let vs := own.map (·.2)
  let ρe : α → List En := fun x => ((wipeE ρ vs).set j1 (.fr (e1 x))).set j2 (.fr (e2 x))
  let te : TE := fun σ H Q => ∃ x, x ∈ l ∧ tA (ρe x) (g x) σ H Q
  have hte : ∀ (s : Shared) (H : Hp) (C : Addr) (cl : List (Str × Addr)) (fp : List Addr), PE (X.blk s H scope (compEnvC scope cl C X.env) fp) elt te := fun s H C cl fp => ⟨fun pins s1 σ H1 Q I ⟨x, hx, q⟩ => (he s H C cl fp x hx).run pins s1 σ H1 Q I q⟩
  let tt : TT := fun σ H Q => Q true H
  have htt : ∀ (s : Shared) (H : Hp) (C : Addr) (cl : List (Str × Addr)) (fp : List Addr), PTs (X.blk s H scope (compEnvC scope cl C X.env) fp) [] tt := fun s H C cl fp => ⟨fun pins s1 σ H1 Q I q => pts_nil.run pins s1 σ H1 Q I q⟩
  refine pe_imp (pe_lc (own := own) (tt := tt) (te := te) hc hN (RZ.pi_zipA hgz hm hi hs hpl) ok hg htt hte hfo) fun σ H Q ⟨H0, F, S, k⟩ => ?_
  refine ⟨H0, F, S, fun us H1 F1 g1 hu => ?_⟩
  match us, hu with
  | [v1, v2], ⟨⟨a1, xs, ev1, hx1, hx2⟩, ⟨a2, ys, ev2, hy1, hy2⟩, _⟩ =>
  subst ev1 ev2
  refine ⟨a1, a2, xs, ys, rfl, .inr ⟨SqT.of (g1.i a1 _ hx1), SqT.of (g1.i a2 _ hy1), fun D hD => ?_⟩⟩
  have lx : xs.length = l.length := by rw [hx2.length, List.length_map]
  have ly : ys.length = l.length := by rw [hy2.length, List.length_map]
  let St : Nat → Hp → Prop := fun i H' => ∃ F' acc, Gr F1 H1 F' H' ∧ F' D = none ∧ H' D = some (.lst acc) ∧ AllV F' acc ((l.take i).map g)
  refine ⟨fun i m H' => m = l.length - i ∧ i ≤ l.length ∧ St i H', ⟨l.length, by simp, Nat.zero_le _, F1, [], .newH g1.i hD, g1.i.none hD, upd_same, by simp [AllV]⟩, ?_⟩
  rintro i m H' ⟨rfl, hi', F', acc, G, fD, hDl, hall⟩
  have qx : SqT X.K H' a1 xs := SqT.of (G.i a1 _ (G.f a1 _ hx1))
  have qy : SqT X.K H' a2 ys := SqT.of (G.i a2 _ (G.f a2 _ hy1))
  by_cases hlt : i < l.length
  · have ha : l[i]? = some l[i] := List.getElem?_eq_getElem hlt
    obtain ⟨u1, hu1, hA1⟩ := hx2.get (i := i) (A := e1 l[i]) (by rw [List.getElem?_map, ha]; rfl)
    obtain ⟨u2, hu2, hA2⟩ := hy2.get (i := i) (A := e2 l[i]) (by rw [List.getElem?_map, ha]; rfl)
    have mem : l[i] ∈ l := List.getElem_mem hlt
    refine .inr ⟨⟨xs, ys, u1, u2, qx, qy, hu1, hu2⟩, St (i + 1), fun H2 p => ⟨l.length - (i + 1), by omega, rfl, hlt, p⟩, fun v H2 yl => ?_⟩
    obtain ⟨T, w1, w2, rfl, hT, rfl, f1, f2⟩ := yl
    have e1' : u1 = w1 := by have z := f1 xs qx; rw [hu1] at z; simpa using z
    have e2' : u2 = w2 := by have z := f2 ys qy; rw [hu2] at z; simpa using z
    subst e1' e2'
    have gT : Gr F' H' F' (upd H' T (.tup [u1, u2])) := .newH G.i hT
    have hDT : D ≠ T := fun z => by rw [← z, hDl] at hT; cases hT
    refine ⟨T, [u1, u2], rfl, SqT.of upd_same, rfl, u1, [u2], rfl, u2, [], rfl, rfl, ?_, ?_⟩
    · rw [wipe_setG hj2, wipe_setG hj1]
      have idem := wipe_setG (τ := L2.wipe σ vs) (x := some u1) hj1
      exact (wipe_setG (τ := L2.wipe σ vs) (x := some u1) hj1).symm.trans (wipe_set hj1)
    · show if true = true then _ else _
      rw [if_pos rfl]
      have GT := G.trans gT
      refine ⟨l[i], mem, H0, F', ((((S.gr g1).gr GT).wipe vs).set ((e1 l[i]).mono G.f hA1)).set ((e2 l[i]).mono G.f hA2), fun z H3 F3 g3 hz3 => ?_⟩
      have d2 : upd H' T (.tup [u1, u2]) D = some (.lst acc) := by rw [upd_ne hDT]; exact hDl
      have f3 : F3 D = none := g3.n D _ d2 fD
      have d3 : H3 D = some (.lst acc) := g3.h D _ d2
      have G3 := GT.trans g3
      refine ⟨acc, d3, ?_, F3, acc ++ [z], ⟨G3.f, fun b o q => ?_, fun b o q => ?_, G3.n⟩, f3, upd_same, ?_⟩
      · rw [hall.length, List.length_map, List.length_take]
        omega
      · rw [upd_ne (ne_of_none q hD)]
        exact G3.h b o q
      · rw [upd_ne (ne_of_none q f3)]
        exact G3.i b o q
      · rw [List.take_add_one, ha, List.map_append]
        exact (hall.mono g3.f).snoc hz3
  · have e : i = l.length := by omega
    subst e
    refine .inl ⟨⟨xs, ys, qx, qy, .inl (by omega)⟩, ?_⟩
    rw [List.take_length] at hall
    exact k D acc H' F' (g1.trans G) (g1.h.none hD) fD hDl hall
end
end Lk

set_option Elab.async false
set_option linter.all false
set_option maxRecDepth 100000
set_option maxHeartbeats 4000000
namespace Lk
open PySem PySem.Calls L2 PySem.Spec PyProof.Rows
section
variable {X : Cx} {e a b c o : Expr} {es : List Expr} {ρ : List En} {A B : As} {pos apos p1 : Pos} {k : Nat} {ι : Type} {pre : ι → Prop} {l : ι → List As} {oc : ι → Oc} {o1 : Oc} {ps : List Str} {C : Addr} {m x : Str} {fs gs : List (Str × As)} {la : List As} {w : WX}
theorem ex_is {o2 : Oc} (h : EX X e ρ o1 w) (i : o1 = o2) : EX X e ρ o2 w := i ▸ h
/-- calls that raise nothing, of defs that may -/
theorem ea_callX (D : DfX X.prog X.w X.K X.mg X.base k x ps (spO pre l oc)) (hr : Room k X.A) (i : ι) (hp : pre i) (hA : oc i = .ret A) (ha : EAs X (e :: es) ρ (l i)) (hg : Gl X x := by rfl)
    (hdb : (x == ("__debug__" : Str)) = false := by decide) (he : starEach (e :: es) X.env = (false, eval e X.env) :: starEach es X.env := by rfl) (hpl : (backTo pos (starEach es X.env)).any (·.1) = false := by rfl) : EA X (.Call (.Name x p1) (e :: es) [] pos) ρ A :=
  ea_ofX fun w tk => ex_is (ex_call D hr tk i hp ha hg hdb he hpl) hA
theorem ea_methX {pl : Sem Bool} (D : MfX X.prog X.w X.K X.mg X.base k C m ps (spO pre l oc)) (hr : Room k X.A) (hC : Cls X.K C) (i : ι) (hp : pre i) (hA : oc i = .ret A) (ho : EA X o ρ (insA C fs)) (hm : fs.lookup m = none) (ha : EAs X (e :: es) ρ la) (hl : l i = insA C fs :: la)
    (he : starEach (e :: es) X.env = (false, eval e X.env) :: starEach es X.env := by rfl) (hpl : (backTo pos (starEach es X.env)).any (·.1) = false := by rfl)
    (hev : eval (.Call (.Attribute o m apos) (e :: es) [] pos) X.env = (do
      let ov ← eval o X.env
      standAt apos.atName
      let (f, first) ← holding [ov] (getMethod ov m pl)
      callWith pos f first (backTo pos (starEach (e :: es) X.env)) (backToKw pos (keywordEach [] X.env))) := by rfl) : EA X (.Call (.Attribute o m apos) (e :: es) [] pos) ρ A :=
  ea_ofX fun w tk => ex_is (ex_meth D hr tk hC i hp ho hm ha hl he hpl hev) hA
theorem ea_makeX (D : MkX X.prog X.w X.K X.mg X.base k C x ps (spMO C pre l oc)) (hr : Room (k + 1) X.A) (i : ι) (hp : pre i) (hA : oc i = .ret A) (ha : EAs X (e :: es) ρ (l i)) (hg : Gl X x := by rfl)
    (hdb : (x == ("__debug__" : Str)) = false := by decide) (he : starEach (e :: es) X.env = (false, eval e X.env) :: starEach es X.env := by rfl) (hpl : (backTo pos (starEach es X.env)).any (·.1) = false := by rfl) : EA X (.Call (.Name x p1) (e :: es) [] pos) ρ A :=
  ea_ofX fun w tk => ex_is (ex_make D hr tk i hp ha hg hdb he hpl) hA
theorem ins_ref {F : Hp} {v : V} (h : (insA C fs).p F v) : ∃ r, v = .ref r := let ⟨a, _, _, e, _⟩ := h; ⟨a, e⟩
theorem ea_binX {op : Operator} {hs : List (Str × As)} (D : MfX X.prog X.w X.K X.mg X.base k C m ps (spO pre l oc)) (hmm : m = PySem.dunder op.info.2) (hsf : PySem.W.selfFirst X.K C = true) (hr : Room k X.A) (i : ι) (hp : pre i) (hA : oc i = .ret (insA C hs)) (ha : EA X a ρ (insA C fs)) (ho : EA X b ρ (insA C gs)) (hl : l i = [insA C fs, insA C gs]) : EA X (.BinOp a op b pos) ρ (insA C hs) :=
  ea_ofX fun w tk => ex_is (ex_bin D hmm hsf hr tk i hp ha ho hl (fun F v hv => by rw [hA] at hv; exact ins_ref hv)) hA
end
end Lk

set_option Elab.async false
set_option linter.all false
set_option maxRecDepth 100000
set_option maxHeartbeats 4000000
namespace Lk
open PySem PySem.Calls L2 PySem.Spec PyProof.Rows
section
variable {X : Cx} {a b : Expr} {ρ : List En} {l m : List As} {pos : Pos}
/-- tuples, whatever is in them -/
theorem ea_catA (ha : EA X a ρ (tupA l)) (hb : EA X b ρ (tupA m)) (hz : l.length + m.length ≤ sizeLine) : EA X (.BinOp a .Add b pos) ρ (tupA (l ++ m)) :=
  pe_imp (pe_op op_catA ha hb) fun σ H Q ⟨H0, F, S, k⟩ => ⟨H0, F, S, fun v H1 F1 g1 ⟨x, xs, e1, h1, h2⟩ => ⟨H0, F1, S.gr g1, fun u H2 F2 g2 ⟨y, ys, e2, h3, h4⟩ => by
    have h5 := h2.mono g2.f
    have g := g1.trans g2
    refine ⟨x, y, xs, ys, e1, e2, SqT.of (g2.h x _ (g1.i x _ h1)), SqT.of (g2.i y _ h3), by rw [h2.length, h4.length]; exact hz, fun z => ?_, fun _ z => ?_, fun _ _ p hp => ?_⟩
    · have hl : l = [] := List.length_eq_zero_iff.mp (by rw [← h5.length, z]; rfl)
      subst hl
      exact k _ H2 F2 g ⟨y, ys, rfl, h3, h4⟩
    · have hm : m = [] := List.length_eq_zero_iff.mp (by rw [← h4.length, z]; rfl)
      subst hm
      rw [List.append_nil] at k
      exact k _ H2 F2 g ⟨x, xs, rfl, g2.f x _ h1, h5⟩
    · exact k _ _ _ (g.trans (.new g.i hp)) ⟨p, _, rfl, upd_same, (h5.append h4).mono (Ex.new (g.i.none hp))⟩⟩⟩
end
end Lk

set_option Elab.async false
set_option linter.all false
set_option maxRecDepth 100000
set_option maxHeartbeats 4000000
namespace Lk
open PySem PySem.Calls L2 PySem.Spec PyProof.Rows NdefX
abbrev anyS : As := exA (fun _ : Str => True) str
theorem app_len (a b : Str) : (a ++ b).length = a.length + b.length := strLen_append a b
section
variable {X : Cx} {e : Expr} {ρ : List En} {pos p1 p2 : Pos} {m : Str} {j : Nat}
/-- f'..{i}' -/
theorem ea_fsI {i : Int} (he : EW X e ρ (int i)) (hi : i.natAbs.log2 < 1920) (hm : m.length ≤ 100000) : EA X (.JoinedStr [.Constant (.str m) j p1, .FormattedValue e (-1) none p2] pos) ρ anyS :=
  pe_imp (pe_joined (.cons (ea_str (ρ := ρ) (s := m)) (.cons (pe_fmt he) .nil))) fun σ H Q ⟨H0, F, S, q⟩ => ⟨H0, F, S, fun v H1 F1 g1 h1 => by
    have h1 : v = .str m := h1
    subst h1
    have z := int_text_len_1921 hi
    refine ⟨m, rfl, ?_, H0, F1, S.gr g1, fun v H2 F2 g2 h2 => ?_⟩
    · show (Str.empty ++ m).length ≤ sizeLine
      rw [app_len, sizeLine_eq]
      have : Str.empty.length = 0 := rfl
      omega
    · have h2 : v = .int i := h2
      subst h2
      refine .inr ⟨i, rfl, hi, _, rfl, ?_, q _ H2 F2 (g1.trans g2) ⟨_, trivial, rfl⟩⟩
      rw [app_len, app_len, sizeLine_eq]
      have : Str.empty.length = 0 := rfl
      omega⟩
/-- f'..{s!r}' -/
theorem ea_fsS {s : Str} (he : EW X e ρ (str s)) (hc : ∀ c ∈ s.cps.toList, c < 16 ^ 8) (hs : s.length ≤ 100000) (hm : m.length ≤ 100000) : EA X (.JoinedStr [.Constant (.str m) j p1, .FormattedValue e 114 none p2] pos) ρ anyS :=
  pe_imp (pe_joined (.cons (ea_str (ρ := ρ) (s := m)) (.cons (pe_fmtR he) .nil))) fun σ H Q ⟨H0, F, S, q⟩ => ⟨H0, F, S, fun v H1 F1 g1 h1 => by
    have h1 : v = .str m := h1
    subst h1
    have z := StrLaws.reprText_len s hc
    refine ⟨m, rfl, ?_, H0, F1, S.gr g1, fun v H2 F2 g2 h2 => ?_⟩
    · show (Str.empty ++ m).length ≤ sizeLine
      rw [app_len, sizeLine_eq]
      have : Str.empty.length = 0 := rfl
      omega
    · have h2 : v = .str s := h2
      subst h2
      refine .inl ⟨s, rfl, by rw [sizeLine_eq]; omega, _, rfl, ?_, q _ H2 F2 (g1.trans g2) ⟨_, trivial, rfl⟩⟩
      rw [app_len, app_len, sizeLine_eq]
      have : Str.empty.length = 0 := rfl
      omega⟩
end
end Lk

set_option Elab.async false
set_option linter.all false
set_option maxRecDepth 100000
set_option maxHeartbeats 4000000
namespace Lk
open PySem PySem.Calls L2 PySem.Spec PyProof.Rows
/-! ### d.setdefault(t, v), the keys tuples -/
section
variable {X : Cx} {pins : List (Addr × Obj)} {σ : L2.St} {H : Hp} {s : Shared} {a b : Addr} {r : Value} {d : V} {k : List Key} {A : Around} {E : Value → Shared → Prop}
theorem d_setdT {kvs : List (List Key × V)} {Q : Value → Shared → Prop} (hu : A.units + 1 < cLine) (I : Inv X pins σ H s) (e : H a = some (.dT kvs)) (eb : H b = some (.tup (k.map kV))) (rd : RelV d r) (hl : kvs.length < sizeLine)
    (h1 : ∀ v, valV kvs k = some v → ∀ (w' : Value) (s' : Shared), Inv X pins σ H s' → RelV v w' → Q w' s') (h2 : valV kvs k = none → ∀ (w' : Value) (s' : Shared), Inv X pins σ (upd H a (.dT (putK kvs k d))) s' → RelV d w' → Q w' s') :
    wpAny (model X.prog X.w) A (call (.builtin "dict.setdefault") [.ref a, .ref b, r]) Q E s := by
  obtain ⟨z, hd, xs, rel, dd⟩ := dt_of I.hok e
  have hz : xs.length ≤ sizeLine := by rw [← Paired.length rel]; exact z
  refine call_setdefault_heap (hsz := hz) (tupleKind_room_in1 hu) (key_of I.hok eb) hd dd (fun p hp => ?_) fun hn h' dd' hs => ?_
  · have q := rel.val k
    rw [hp] at q
    cases q0 : valV kvs k with
    | none =>
      rw [q0] at q
      exact (show False from q).elim
    | some v0 =>
      rw [q0] at q
      exact h1 v0 q0 _ _ (I.tok _) q
  · have q := rel.val k
    rw [hn] at q
    cases q0 : valV kvs k with
    | some v0 =>
      rw [q0] at q
      exact (show False from q).elim
    | none =>
      have hl2 : (putK kvs k d).length ≤ sizeLine := by
        have := length_putK kvs k d
        omega
      obtain ⟨q, es, ep, hq, h2', h3, h4, _, h5⟩ := dd'
      refine h2 q0 _ _ (d_write I (by rw [e]; exact True.intro) hs ⟨q, hq⟩ ⟨hl2, hd, _, (rel.put k eb rd).keeps fun c ys ec => ?_, q, es, ep, hq, h2', h3, h4, h5⟩) rd
      rw [upd_ne (ne_of ec e (fun z => nomatch z))]
      exact ec
end
def tDSetdT (td ty tx : TE) : TE := fun σ H Q => td σ H fun x H1 => ∃ a, x = .ref a ∧ IsD H1 a ∧ ty σ H1 fun y H2 => tx σ H2 fun z H3 => ∃ (kvs : List (List Key × V)) (k : List Key) (b : Addr), H3 a = some (.dT kvs) ∧ y = .ref b ∧ H3 b = some (.tup (k.map kV)) ∧ kvs.length < sizeLine ∧
  (∀ v, valV kvs k = some v → Q v H3) ∧ (valV kvs k = none → Q z (upd H3 a (.dT (putK kvs k z))))
section
variable {X : Cx} {o e f : Expr} {td ty tx : TE} {apos cpos : Pos}
theorem pe_dsetdT (hu : X.A.units + 1 < cLine) (ho : PE X o td) (he : PE X e ty) (hf : PE X f tx) (m : M2 X o "setdefault" apos e f cpos) : PE X (.Call (.Attribute o "setdefault" apos) [e, f] [] cpos) (tDSetdT td ty tx) := by
  refine ⟨fun pins s σ H Q I h => ?_⟩
  refine wpAny_Call_method m.base m.few m.line PySem.F.plainAttrs_dict PySem.F.slot_dict_setdefault PySem.F.type_dict_setdefault (thn (ho.run pins s σ H _ I h) fun u s1 ⟨x, H1, I1, rx, a, ex, d, q1⟩ => ?_)
  subst ex
  obtain rfl : u = Value.ref a := rx
  obtain ⟨t1, t2, _⟩ := isD_at I1 d
  refine ⟨t1, t2, ?_⟩
  rw [m.trees]
  refine Calls.callWith_builtin rfl (Calls.evalArgs_plain (Calls.spliced_cons (thn (he.run pins s1 σ H1 _ I1 q1) fun iv s2 ⟨y, H2, I2, ry, q2⟩ =>
    Calls.spliced_cons (thn (hf.run pins s2 σ H2 _ I2 q2) fun fv s3 ⟨z, H3, I3, rz, kvs, k, b, ea, ey, eb, hl, q3, q4⟩ => Calls.spliced_nil ?_))))
  subst ey
  cases (show iv = Value.ref b from ry)
  exact d_setdT hu I3 ea eb rz hl (fun v hv w' s4 I4 rw' => ⟨v, _, I4, rw', q3 v hv⟩) fun hn w' s4 I4 rw' => ⟨z, _, I4, rw', q4 hn⟩
end
/-! ### a list that stays one's own is read -/
/-- what is said holds also where a list is not looked at -/
def NoLst (A : As) : Prop := ∀ (F F' : Hp) (v : V), (∀ a o, F a = some o → (∀ xs, o ≠ .lst xs) → F' a = some o) → A.p F v → A.p F' v
theorem nl_sc {c : V} : NoLst (sc c) := fun _ _ _ _ h => h
theorem nl_all {F F' : Hp} (e : ∀ a o, F a = some o → (∀ xs, o ≠ .lst xs) → F' a = some o) : ∀ {vs : List V} {l : List As}, (∀ A ∈ l, NoLst A) → AllV F vs l → AllV F' vs l
  | [], [], _, h => h
  | _ :: _, A :: _, n, h => ⟨n A List.mem_cons_self F F' _ e h.1, nl_all e (fun B hB => n B (List.mem_cons_of_mem _ hB)) h.2⟩
  | [], _ :: _, _, h => h.elim
  | _ :: _, [], _, h => h.elim
theorem nl_tup {l : List As} (n : ∀ A ∈ l, NoLst A) : NoLst (tupA l) := fun F F' v e ⟨a, xs, ev, h1, h2⟩ => ⟨a, xs, ev, e a _ h1 (fun _ z => nomatch z), nl_all e n h2⟩
theorem nl_ins {C : Addr} {fs : List (Str × As)} (n : ∀ A ∈ fs.map Prod.snd, NoLst A) : NoLst (insA C fs) := fun F F' v e ⟨a, dx, vs, ev, h1, h2⟩ => ⟨a, dx, vs, ev, e a _ h1 (fun _ z => nomatch z), nl_all e n h2⟩
theorem nl_ex {ι : Type} {pre : ι → Prop} {f : ι → As} (n : ∀ i, NoLst (f i)) : NoLst (exA pre f) := fun F F' v e ⟨i, h, k⟩ => ⟨i, h, n i F F' v e k⟩
/-- the frozen part with an own list in it -/
theorem sat_bor {H0 F H : Hp} {σ : L2.St} {ρ : List En} {i : Nat} {l : List As} (S : Sat H0 F σ H ρ) (hi : ρ[i]? = some (.own l)) : ∃ p xs, F p = none ∧ H0 p = none ∧ H p = some (.lst xs) ∧ Sat H0 (upd F p (.lst xs)) σ H (ρ.set i (.fr (lstA l))) := by
  obtain ⟨p, xs, h1, h2, h3, h4, h5⟩ := S.own i l hi
  have ex : Ex F (upd F p (.lst xs)) := Ex.new h2
  have li : i < ρ.length := (List.getElem?_eq_some_iff.mp hi).1
  refine ⟨p, xs, h2, h3, h4, ⟨fun a o e => ?_, fun j A e => ?_, fun j m e => ?_, fun j k m n q e1 e2 s1 s2 => ?_, by rw [List.length_set]; exact S.len⟩⟩
  · by_cases hb : a = p
    · rw [hb, upd_same] at e
      rw [hb, h4]; exact e
    · rw [upd_ne hb] at e
      exact S.ex a o e
  · by_cases hj : i = j
    · subst hj
      rw [List.getElem?_set_self li] at e
      have e : lstA l = A := by simpa using e
      subst e
      exact ⟨_, h1, p, xs, rfl, upd_same, h5.mono ex⟩
    · rw [List.getElem?_set_ne hj] at e
      obtain ⟨v, a, b⟩ := S.fr j A e
      exact ⟨v, a, A.mono ex b⟩
  · by_cases hj : i = j
    · subst hj
      rw [List.getElem?_set_self li] at e
      cases e
    · rw [List.getElem?_set_ne hj] at e
      obtain ⟨q, ys, a, b, c, d, f⟩ := S.own j m e
      have hq : q ≠ p := fun z => hj (S.sep i j l m p hi e h1 (by rw [← z]; exact a))
      exact ⟨q, ys, a, by rw [upd_ne hq]; exact b, c, d, f.mono ex⟩
  · by_cases hj : i = j
    · subst hj; rw [List.getElem?_set_self li] at e1; cases e1
    · by_cases hk : i = k
      · subst hk; rw [List.getElem?_set_self li] at e2; cases e2
      · rw [List.getElem?_set_ne hj] at e1
        rw [List.getElem?_set_ne hk] at e2
        exact S.sep j k m n q e1 e2 s1 s2
def cutF (F : Hp) (p : Addr) : Hp := fun a => if a = p then none else F a
theorem gr_bor {F H F1 H' : Hp} {p : Addr} {xs : List V} (hp : F p = none) (hH : H p = some (.lst xs)) (g : Gr (upd F p (.lst xs)) H F1 H') : Gr F H (cutF F1 p) H' ∧ ∀ a o, F1 a = some o → (∀ ys, o ≠ .lst ys) → cutF F1 p a = some o := by
  have fp : F1 p = some (.lst xs) := g.f p _ upd_same
  refine ⟨⟨fun a o e => ?_, g.h, fun a o e => ?_, fun a o e1 e2 => ?_⟩, fun a o e n => ?_⟩
  · have ne : a ≠ p := fun z => by rw [z, hp] at e; cases e
    unfold cutF
    rw [if_neg ne]
    exact g.f a o (by rw [upd_ne ne]; exact e)
  · unfold cutF at e
    by_cases hb : a = p
    · rw [if_pos hb] at e; cases e
    · rw [if_neg hb] at e
      exact g.i a o e
  · unfold cutF
    by_cases hb : a = p
    · rw [if_pos hb]
    · rw [if_neg hb]
      exact g.n a o e1 (by rw [upd_ne hb]; exact e2)
  · unfold cutF
    by_cases hb : a = p
    · rw [hb, fp] at e
      have e : HO.lst xs = o := by simpa using e
      exact absurd e.symm (n xs)
    · rw [if_neg hb]
      exact e
section
variable {X : Cx} {e : Expr} {ρ : List En} {A : As} {l : List As}
theorem ea_bor (i : Nat) (hi : ρ[i]? = some (.own l)) (h : EA X e (ρ.set i (.fr (lstA l))) A) (n : NoLst A) : EA X e ρ A :=
  pe_imp h fun σ H Q ⟨H0, F, S, q⟩ => by
    obtain ⟨p, xs, h1, h2, h3, T⟩ := sat_bor S hi
    refine ⟨H0, _, T, fun v H' F' g hv => ?_⟩
    obtain ⟨g2, k⟩ := gr_bor h1 h3 g
    exact q v H' _ g2 (n _ _ v k hv)
/-- the same for an expression that may raise -/
theorem ex_bor {o1 : Oc} {w : WX} (i : Nat) (hi : ρ[i]? = some (.own l)) (h : EX X e (ρ.set i (.fr (lstA l))) o1 w) (n : NoLst o1.R) (ne : ∀ (F F' : Hp) cls d, (∀ a o, F a = some o → (∀ xs, o ≠ .lst xs) → F' a = some o) → o1.E F cls d → o1.E F' cls d) : EX X e ρ o1 w :=
  pe_imp h fun σ H Q ⟨H0, F, S, q, qe⟩ => by
    obtain ⟨p, xs, h1, h2, h3, T⟩ := sat_bor S hi
    refine ⟨H0, _, T, fun v H' F' g hv => ?_, fun cls d H' F' g hv => ?_⟩
    · obtain ⟨g2, k⟩ := gr_bor h1 h3 g
      exact q v H' _ g2 (n _ _ v k hv)
    · obtain ⟨g2, k⟩ := gr_bor h1 h3 g
      exact qe cls d H' _ g2 (ne _ _ cls d k hv)
theorem ne_erX {C : Addr} {fs : List (Str × As)} (n : ∀ A ∈ fs.map Prod.snd, NoLst A) (F F' : Hp) (cls : Value) (d : Option Addr) (k : ∀ a o, F a = some o → (∀ xs, o ≠ .lst xs) → F' a = some o) (h : erX C fs F cls d) : erX C fs F' cls d := by
  refine ⟨h.1, ?_⟩
  have h := h.2
  cases d with
  | none => exact h
  | some dd =>
    obtain ⟨vs, h1, h2⟩ := h
    exact ⟨vs, k dd _ h1 (fun _ z => nomatch z), nl_all k n h2⟩
end
end Lk

set_option Elab.async false
set_option linter.all false
set_option maxRecDepth 100000
set_option maxHeartbeats 4000000
namespace Lk
open PySem PySem.Calls L2 PySem.Spec PyProof.Rows
abbrev rIns : V → List V → Hp → VK → Prop := fun x vs H Q => ∃ (l : Addr) (xs : List V) (i : Int) (y : V), x = .ref l ∧ vs = [.int i, y] ∧ H l = some (.lst xs) ∧ xs.length < sizeLine ∧ 0 ≤ i ∧ i < 2 ^ 63 ∧ Q .non (upd H l (.lst (xs.take i.toNat ++ [y] ++ xs.drop i.toNat)))
section
variable {X : Cx} {e f a b : Expr} {ρ : List En} {A B : As} {l : List As} {pos : Pos} {Nx : List En → Prop} {W : Wn}
theorem pe_ins (i : Nat) {x : Str} {px apos cpos : Pos} {z : Int} (he : EA X e ρ (int z)) (hf : EA X f ρ A) (hN : X.N[i]? = some x := by rfl) (hv : Vis X.env.scope x := by first | exact Or.inl rfl | exact Or.inr (Or.inl rfl) | exact Or.inr (Or.inr rfl)) (hd : (x == ("__debug__" : Str)) = false := by decide) (hcd : (x == ("__classdict__" : Str)) = false := by decide)
    (hbase : attributeBase (.Name x px) "insert" X.env (eval (.Name x px) X.env) = eval (.Name x px) X.env := by rfl)
    (hfew : ((backTo cpos (starEach [e, f] X.env)).all (fun x => !x.1) && (backToKw cpos (keywordEach [] X.env)).all (fun x => x.1.isSome) && decide ([e, f].length + ([] : List Keyword).length + (if ([] : List Keyword).isEmpty then 0 else 1) < 30)) = true := by rfl)
    (hline : (apos.endLine == cpos.line) = true := by rfl) (hs : starEach [e, f] X.env = (false, eval e X.env) :: starEach [f] X.env := by rfl) (hs2 : starEach [f] X.env = (false, eval f X.env) :: starEach [] X.env := by rfl) (hplain : (backTo cpos (starEach [f] X.env)).any (·.1) = false := by rfl) :
    PE X (.Call (.Attribute (.Name x px) "insert" apos) [e, f] [] cpos) (tBM X.K "list" rIns (tVar i) (tCons (tA ρ (int z)) (tCons (tA ρ A) tNil))) :=
  pe_bm PySem.F.plainAttrs_list PySem.F.slot_list_insert PySem.F.type_list_insert mt_insert (pe_var hN hv hd hcd) (pa_cons he (pa_cons hf pa_nil hs2) hs) hbase hfew hline hs hplain
/-- x.insert(z, e), x a list of one's own -/
theorem sa_ins (i : Nat) {z : Int} (hr : ρ[i]? = some (En.own l)) (hb : PE X e (tBM X.K "list" rIns (tVar i) (tCons (tA ρ (int z)) (tCons (tA ρ A) tNil)))) (hz : l.length < sizeLine) (h0 : 0 ≤ z) (h1 : z < 2 ^ 63) (k : Nx (ρ.set i (.own (l.take z.toNat ++ [A] ++ l.drop z.toNat)))) (hsw : swapsWith e none pos.line X.env = pure false := by rfl) :
    SA X (.Expr e pos) ρ Nx W := by
  refine ps_imp (ps_expr hb hsw) fun D σ H ⟨F0, H0, F, g, S, q, _⟩ => ?_
  obtain ⟨p, xs, e1, h2, h3, h4, h5⟩ := S.own i l hr
  refine ⟨_, e1, .inl ⟨rfl, _, SqL.of h4⟩, H0, F, S, fun v H1 F1 g1 hv => ⟨H0, F1, S.gr g1, fun u H' F' g' hu => ?_⟩⟩
  have hv : v = .int z := hv
  subst hv
  have g2 := (g.trans g1).trans g'
  refine ⟨p, xs, z, u, rfl, rfl, g'.h p _ (g1.h p _ h4), by rw [h5.length]; exact hz, h0, h1, ?_⟩
  have hx := (h5.mono g1.f).mono g'.f
  obtain ⟨g3, S3⟩ := sat_wr g2 ((S.gr g1).gr g') hr e1 (((hx.take z.toNat).append (.one hu)).append (hx.drop z.toNat))
  exact q _ σ _ F' k g3 S3
/-- x, y = e -/
theorem sa_unp2 (i j : Nat) {x y : Str} {px py pt : Pos} {kt : Nat} (hc : X.calm = true) (hN : X.N.Nodup) (he : EA X e ρ (tupA [A, B])) (k : Nx ((ρ.set i (.fr A)).set j (.fr B))) (hi : X.N[i]? = some x := by rfl) (hj : X.N[j]? = some y := by rfl)
    (hx : Loc X.env.scope x := by first | exact .inl rfl | exact .inr rfl) (hy : Loc X.env.scope y := by first | exact .inl rfl | exact .inr rfl) (hfx : X.fn x = true ∨ X.env.scope.names.lookup x = some .local := by first | exact .inl rfl | exact .inr rfl) (hfy : X.fn y = true ∨ X.env.scope.names.lookup y = some .local := by first | exact .inl rfl | exact .inr rfl)
    (hs : swapsWithSole [.Tuple [.Name x px, .Name y py] kt pt] e pos.line X.env = pure false := by rfl) (hw : swappedStores [.Tuple [.Name x px, .Name y py] kt pt] e X.env = pure none := by rfl)
    (h1 : (assignEach [.Tuple [.Name x px, .Name y py] kt pt] X.env).map (·.2) = [assign (.Tuple [.Name x px, .Name y py] kt pt) X.env] := by rfl)
    (hn : (assignEach [.Name x px, .Name y py] X.env).length = 2 := by rfl) (hst : (assignEach [.Name x px, .Name y py] X.env).findIdx? (·.1) = none := by rfl) : SA X (.Assign [.Tuple [.Name x px, .Name y py] kt pt] e pos) ρ Nx W :=
  ps_imp (ps_asg he (pg_tup hc (pgs_cons (pg_name hN hi hx hfx) (pgs_cons (pg_name hN hj hy hfy) pgs_nil)) hn hst) hs hw h1) fun D σ H ⟨F0, H0, F, g, S, q, _⟩ => ⟨H0, F, S, fun v H' F' g' ⟨p, xs, ev, hp, hv⟩ => by
    match xs, hv with
    | [u1, u2], hv =>
      obtain ⟨v1, v2, _⟩ := hv
      refine ⟨p, [u1, u2], ev, SqT.of (g'.i p _ hp), rfl, ?_⟩
      exact ⟨u1, [u2], rfl, u2, [], rfl, rfl, q _ _ H' F' k (g.trans g') (((S.gr g').set v1).set v2)⟩⟩
theorem inV_ints (s : Int) : ∀ l : List Int, inV (.int s) (l.map V.int) = decide (s ∈ l)
  | [] => by simp [inV]
  | t :: l => by
    have ih := inV_ints s l
    unfold inV at ih ⊢
    rw [List.map_cons, List.any_cons, ih]
    rw [Bool.eq_iff_iff]
    simp only [Bool.or_eq_true, decide_eq_true_eq, List.mem_cons, eqV, beq_iff_eq]
    exact or_congr_left ⟨fun h => h.symm, fun h => h.symm⟩
theorem ints_at {F : Hp} {v : V} {l : List Int} (h : (tupA (l.map int)).p F v) : ∃ b, v = .ref b ∧ F b = some (.tup (l.map V.int)) := by
  obtain ⟨b, xs, e, h1, h2⟩ := h
  have e2 : xs = l.map V.int := AllV.scs (cs := l.map V.int) (by rw [List.map_map]; exact h2)
  exact ⟨b, e, by rw [h1, e2]⟩
theorem cm_inTi {s : Int} {l : List Int} : Cm X .In (int s) (tupA (l.map int)) (decide (s ∈ l)) := ⟨_, op_in_seq, fun x y H Q p q z => by
  have p : x = .int s := p
  subst p
  obtain ⟨b, rfl, hb⟩ := ints_at q
  refine ⟨b, l.map V.int, rfl, .inr (SqT.of hb), rfl, ?_, ?_⟩
  · rw [List.all_map]
    exact List.all_eq_true.mpr fun _ _ => rfl
  · show Q (.bl (if false = true then _ else _)) H
    rw [if_neg Bool.false_ne_true, inV_ints]
    exact z⟩
end
theorem ea_callAB {X : Cx} {e : Expr} {es : List Expr} {ρ : List En} {pos : Pos} {k : Nat} {x : Str} {ps : List Str} {ι : Type} {pre : ι → Prop} {l : ι → List As} {A : ι → As} {B : As} {p : Pos} (D : DfA X.prog X.w X.K X.mg X.base k x ps (spX pre l A)) (hr : L2H.RoomH k X.A) (i : ι) (hp : pre i) (hA : A i = B) (ha : EAs X (e :: es) ρ (l i)) (hg : Gl X x := by rfl)
    (hdb : (x == ("__debug__" : Str)) = false := by decide) (he : starEach (e :: es) X.env = (false, eval e X.env) :: starEach es X.env := by rfl) (hpl : (backTo pos (starEach es X.env)).any (·.1) = false := by rfl) : EA X (.Call (.Name x p) (e :: es) [] pos) ρ B :=
  hA ▸ ea_callA D hr i hp ha hg hdb he hpl
end Lk

set_option Elab.async false
set_option linter.all false
set_option maxRecDepth 100000
set_option maxHeartbeats 4000000
namespace Lk
open PySem PySem.Calls L2 PySem.Spec PyProof.Rows
section
variable {X : Cx} {e a b : Expr} {es : List Expr} {ρ : List En} {A : As} {l la lb : List As} {pos : Pos}
theorem ea_neg {i : Int} (h : EW X e ρ (int i)) : EA X (.UnaryOp .USub e pos) ρ (int (-i)) :=
  pe_imp (pe_un un_neg h) fun σ H Q ⟨H0, F, S, k⟩ => ⟨H0, F, S, fun v H1 F1 g1 h1 => ⟨i, h1, k _ H1 F1 g1 rfl⟩⟩
/-- the last one -/
theorem ea_lastSq {q : Bool} (ha : EA X a ρ (sq q (l ++ [A]))) (hb : EW X b ρ (int (-1))) (hs : PlainIx b := by exact fun _ _ => rfl) : EA X (.Subscript a b pos) ρ A := by
  cases q with
  | true =>
    refine pe_imp (pe_ix ix_list ha hb hs) fun σ H Q ⟨H0, F, S, k⟩ => ⟨H0, F, S, fun x H1 F1 g1 ⟨p, xs, e0, h1, h2⟩ => ⟨H0, F1, S.gr g1, fun y H2 F2 g2 h3 => ?_⟩⟩
    have h3 : y = .int (-1) := h3
    subst h3
    have hl := h2.length
    obtain ⟨v, e1, e2⟩ := h2.get (i := l.length) (A := A) (by simp)
    have e0' : xs = xs.take l.length ++ [v] := by
      rw [List.length_append, List.length_singleton] at hl
      obtain ⟨hlt, hv⟩ := List.getElem?_eq_some_iff.mp e1
      have z := List.take_append_drop l.length xs
      rw [List.drop_eq_getElem_cons hlt, List.drop_of_length_le (by omega), hv] at z
      exact z.symm
    exact ⟨p, xs, -1, v, e0, rfl, SqL.of (g2.h p _ (g1.i p _ h1)), by rw [e0']; exact atI_last _ _, k v H2 F2 (g1.trans g2) (A.mono g2.f e2)⟩
  | false =>
    refine pe_imp (pe_ix ix_tup ha hb hs) fun σ H Q ⟨H0, F, S, k⟩ => ⟨H0, F, S, fun x H1 F1 g1 ⟨p, xs, e0, h1, h2⟩ => ⟨H0, F1, S.gr g1, fun y H2 F2 g2 h3 => ?_⟩⟩
    have h3 : y = .int (-1) := h3
    subst h3
    have hl := h2.length
    obtain ⟨v, e1, e2⟩ := h2.get (i := l.length) (A := A) (by simp)
    have e0' : xs = xs.take l.length ++ [v] := by
      rw [List.length_append, List.length_singleton] at hl
      obtain ⟨hlt, hv⟩ := List.getElem?_eq_some_iff.mp e1
      have z := List.take_append_drop l.length xs
      rw [List.drop_eq_getElem_cons hlt, List.drop_of_length_le (by omega), hv] at z
      exact z.symm
    exact ⟨p, xs, -1, v, e0, rfl, SqT.of (g2.h p _ (g1.i p _ h1)), by rw [e0']; exact atI_last _ _, k v H2 F2 (g1.trans g2) (A.mono g2.f e2)⟩
theorem cut_drop (k : Nat) : cutA l (some (k : Int)) none = l.drop k := cutA_drop
/-- xs[1:], xs not empty -/
theorem ea_sl1 {q : Bool} {lo : Expr} {p2 : Pos} (ha : EA X a ρ (sq q (A :: l))) (h1 : EW X lo ρ (int 1)) : EA X (.Subscript a (.Slice (some lo) none none p2) pos) ρ (sq q l) := by
  have e : cutA (A :: l) (some 1) none = l := cut_drop 1
  cases q with
  | true => exact en_a (en_is (en_slL (ea_l ha) (eo_some h1) eo_none) e)
  | false => exact ea_is (ea_slT ha (eo_some h1) eo_none (by
      show ¬ (HT.sIx (A :: l).length 0 (some ((1 : Nat) : Int)) = 0 ∧ _)
      rw [HT.sIx_nat, List.length_cons]
      omega)) (by rw [e]; rfl)
/-- ( .., *t, ..), t a list -/
theorem eas_starL (he : EA X e ρ (lstA la)) (hr : EAs X es ρ lb) {sp : Pos} (hs : starEach (.Starred e sp :: es) X.env = (true, eval e X.env) :: starEach es X.env := by rfl) : EAs X (.Starred e sp :: es) ρ (la ++ lb) :=
  pa_imp (StX.pa_star he hr hs) fun σ H Q ⟨H0, F, S, q⟩ => ⟨H0, F, S, fun v H1 F1 g1 ⟨p, xs, ev, h1, h2⟩ => ⟨p, xs, ev, .inr (SqL.of (g1.i p _ h1)), H0, F1, S.gr g1, fun vs H2 F2 g2 hv => q _ H2 F2 (g1.trans g2) ((h2.mono g2.f).append hv)⟩⟩
end
/-! ### [.. for a, b in zip(x, y)], lists or tuples of any lengths -/
section
variable {α : Type} {X : Cx} {ρ : List En} {pos : Pos} {elt a b : Expr} {scope : Scope}
def teZ (ρ : List En) (vs : List Nat) (j1 j2 : Nat) (l : List α) (e1 e2 g : α → As) : TE := fun σ H Q => ∃ x, x ∈ l ∧ tA (((wipeE ρ vs).set j1 (.fr (e1 x))).set j2 (.fr (e2 x))) (g x) σ H Q
theorem tlc_zip2 {vs : List Nat} {j1 j2 : Nat} {q : Bool} {la lb : List As} {l : List α} {e1 e2 : α → As} {g : α → As} {σ : L2.St} {H : Hp} {Q : VK} (h1 : ∀ (i : Nat) (x : α), l[i]? = some x → la[i]? = some (e1 x)) (h2 : ∀ (i : Nat) (x : α), l[i]? = some x → lb[i]? = some (e2 x)) (hl : la.length = l.length ∨ lb.length = l.length) (hz : l.length < sizeLine) (hj1 : j1 ∈ vs) (hj2 : j2 ∈ vs) (h : tN ρ (l.map g) σ H Q) :
    tLc (RZ.iZipA X.K (tAs ρ [sq q la, sq q lb])) (gTup X.K 2 (gCons (gName j1) (gCons (gName j2) gNil))) (fun _ H Q => Q true H) (teZ ρ vs j1 j2 l e1 e2 g) vs σ H Q := by
  obtain ⟨H0, F, S, k⟩ := h
  let ρe : α → List En := fun x => ((wipeE ρ vs).set j1 (.fr (e1 x))).set j2 (.fr (e2 x))
  refine ⟨H0, F, S, fun us H1 F1 g1 hu => ?_⟩
  match us, hu with
  | [v1, v2], ⟨hA, hB, _⟩ =>
  obtain ⟨a1, xs, ev1, hx2, a2, ys, ev2, hy2, fx, fy⟩ : ∃ a1 xs, v1 = .ref a1 ∧ AllV F1 xs la ∧ ∃ a2 ys, v2 = .ref a2 ∧ AllV F1 ys lb ∧ (F1 a1 = some (if q then .lst xs else .tup xs)) ∧ F1 a2 = some (if q then .lst ys else .tup ys) := by
    cases q with
    | true =>
      obtain ⟨a1, xs, e1, h1, h2⟩ := hA
      obtain ⟨a2, ys, e2, h3, h4⟩ := hB
      exact ⟨a1, xs, e1, h2, a2, ys, e2, h4, h1, h3⟩
    | false =>
      obtain ⟨a1, xs, e1, h1, h2⟩ := hA
      obtain ⟨a2, ys, e2, h3, h4⟩ := hB
      exact ⟨a1, xs, e1, h2, a2, ys, e2, h4, h1, h3⟩
  subst ev1 ev2
  have lx := hx2.length
  have ly := hy2.length
  have le1 : l.length ≤ la.length := by
    by_cases h : l.length = 0
    · omega
    · have z := h1 (l.length - 1) l[l.length - 1] (List.getElem?_eq_getElem (by omega))
      have := (List.getElem?_eq_some_iff.mp z).1
      omega
  have le2 : l.length ≤ lb.length := by
    by_cases h : l.length = 0
    · omega
    · have z := h2 (l.length - 1) l[l.length - 1] (List.getElem?_eq_getElem (by omega))
      have := (List.getElem?_eq_some_iff.mp z).1
      omega
  -- one turn, whichever the kind
  have turn : ∀ (D : Addr) (i : Nat) (H' F' : Hp) (acc : List V) (u1 u2 : V) (T : Addr) (hlt : i < l.length), H1 D = none → Gr F1 H1 F' H' → F' D = none → H' D = some (.lst acc) → AllV F' acc ((l.take i).map g) → xs[i]? = some u1 → ys[i]? = some u2 → H' T = none →
      ∀ (QQ : Hp → Prop), (∀ H2, (∃ F2 acc2, Gr F1 H1 F2 H2 ∧ F2 D = none ∧ H2 D = some (.lst acc2) ∧ AllV F2 acc2 ((l.take (i + 1)).map g)) → QQ H2) →
      ∃ x, x ∈ l ∧ tA (ρe x) (g x) (((L2.wipe σ vs).set j1 (some u1)).set j2 (some u2)) (upd H' T (.tup [u1, u2])) (fun z H3 => ∃ acc', H3 D = some (.lst acc') ∧ acc'.length < sizeLine ∧ QQ (upd H3 D (.lst (acc' ++ [z])))) := by
    intro D i H' F' acc u1 u2 T hlt hD G fD hDl hall e1' e2' hT QQ hQ
    have ha : l[i]? = some l[i] := List.getElem?_eq_getElem hlt
    obtain ⟨w1, hw1, hA1⟩ := hx2.get (i := i) (h1 i _ ha)
    obtain ⟨w2, hw2, hA2⟩ := hy2.get (i := i) (h2 i _ ha)
    rw [e1'] at hw1
    rw [e2'] at hw2
    have hw1 : u1 = w1 := by simpa using hw1
    have hw2 : u2 = w2 := by simpa using hw2
    subst hw1 hw2
    have gT : Gr F' H' F' (upd H' T (.tup [u1, u2])) := .newH G.i hT
    have hDT : D ≠ T := fun z => by rw [← z, hDl] at hT; cases hT
    have GT := G.trans gT
    refine ⟨l[i], List.getElem_mem hlt, H0, F', ((((S.gr g1).gr GT).wipe vs).set ((e1 l[i]).mono G.f hA1)).set ((e2 l[i]).mono G.f hA2), fun z H3 F3 g3 hz3 => ?_⟩
    have d2 : upd H' T (.tup [u1, u2]) D = some (.lst acc) := by rw [upd_ne hDT]; exact hDl
    have f3 : F3 D = none := g3.n D _ d2 fD
    have d3 : H3 D = some (.lst acc) := g3.h D _ d2
    have G3 := GT.trans g3
    refine ⟨acc, d3, ?_, hQ _ ⟨F3, acc ++ [z], ⟨G3.f, fun b o q => ?_, fun b o q => ?_, G3.n⟩, f3, upd_same, ?_⟩⟩
    · rw [hall.length, List.length_map, List.length_take]
      omega
    · rw [upd_ne (ne_of_none q hD)]
      exact G3.h b o q
    · rw [upd_ne (ne_of_none q f3)]
      exact G3.i b o q
    · rw [List.take_add_one, ha, List.map_append]
      exact (hall.mono g3.f).snoc hz3
  cases q with
  | true =>
    have fx : F1 a1 = some (.lst xs) := fx
    have fy : F1 a2 = some (.lst ys) := fy
    refine ⟨a1, a2, xs, ys, rfl, .inl ⟨SqL.of (g1.i a1 _ fx), SqL.of (g1.i a2 _ fy), fun D hD => ?_⟩⟩
    let St : Nat → Hp → Prop := fun i H' => ∃ F' acc, Gr F1 H1 F' H' ∧ F' D = none ∧ H' D = some (.lst acc) ∧ AllV F' acc ((l.take i).map g)
    refine ⟨fun i m H' => m = l.length - i ∧ i ≤ l.length ∧ St i H', ⟨l.length, by simp, Nat.zero_le _, F1, [], .newH g1.i hD, g1.i.none hD, upd_same, by simp [AllV]⟩, ?_⟩
    rintro i m H' ⟨rfl, hi', F', acc, G, fD, hDl, hall⟩
    have qx : SqL X.K H' a1 xs := SqL.of (G.i a1 _ (G.f a1 _ fx))
    have qy : SqL X.K H' a2 ys := SqL.of (G.i a2 _ (G.f a2 _ fy))
    by_cases hlt : i < l.length
    · have ha : l[i]? = some l[i] := List.getElem?_eq_getElem hlt
      obtain ⟨u1, hu1, hA1⟩ := hx2.get (i := i) (h1 i _ ha)
      obtain ⟨u2, hu2, hA2⟩ := hy2.get (i := i) (h2 i _ ha)
      refine .inr ⟨⟨xs, ys, u1, u2, qx, qy, hu1, hu2⟩, St (i + 1), fun H2 p => ⟨l.length - (i + 1), by omega, rfl, hlt, p⟩, fun v H2 yl => ?_⟩
      obtain ⟨T, w1, w2, rfl, hT, rfl, f1, f2⟩ := yl
      have e1' : u1 = w1 := by have z := f1 xs qx; rw [hu1] at z; simpa using z
      have e2' : u2 = w2 := by have z := f2 ys qy; rw [hu2] at z; simpa using z
      subst e1' e2'
      refine ⟨T, [u1, u2], rfl, SqT.of upd_same, rfl, u1, [u2], rfl, u2, [], rfl, rfl, ?_, ?_⟩
      · rw [wipe_setG hj2, wipe_setG hj1]
        have idem := wipe_setG (τ := L2.wipe σ vs) (x := some u1) hj1
        exact (wipe_setG (τ := L2.wipe σ vs) (x := some u1) hj1).symm.trans (wipe_set hj1)
      · show if true = true then _ else _
        rw [if_pos rfl]
        obtain ⟨x, hx, H0', F2, S2, k2⟩ := turn D i H' F' acc u1 u2 T hlt hD G fD hDl hall hu1 hu2 hT (St (i + 1)) (fun H2 h => h)
        exact ⟨x, hx, H0', F2, S2, fun z H3 F3 g3 hz3 => k2 z H3 F3 g3 hz3⟩
    · have e : i = l.length := by omega
      subst e
      refine .inl ⟨⟨xs, ys, qx, qy, by omega⟩, ?_⟩
      rw [List.take_length] at hall
      exact k D acc H' F' (g1.trans G) (g1.h.none hD) fD hDl hall
  | false =>
    have fx : F1 a1 = some (.tup xs) := fx
    have fy : F1 a2 = some (.tup ys) := fy
    refine ⟨a1, a2, xs, ys, rfl, .inr ⟨SqT.of (g1.i a1 _ fx), SqT.of (g1.i a2 _ fy), fun D hD => ?_⟩⟩
    let St : Nat → Hp → Prop := fun i H' => ∃ F' acc, Gr F1 H1 F' H' ∧ F' D = none ∧ H' D = some (.lst acc) ∧ AllV F' acc ((l.take i).map g)
    refine ⟨fun i m H' => m = l.length - i ∧ i ≤ l.length ∧ St i H', ⟨l.length, by simp, Nat.zero_le _, F1, [], .newH g1.i hD, g1.i.none hD, upd_same, by simp [AllV]⟩, ?_⟩
    rintro i m H' ⟨rfl, hi', F', acc, G, fD, hDl, hall⟩
    have qx : SqT X.K H' a1 xs := SqT.of (G.i a1 _ (G.f a1 _ fx))
    have qy : SqT X.K H' a2 ys := SqT.of (G.i a2 _ (G.f a2 _ fy))
    by_cases hlt : i < l.length
    · have ha : l[i]? = some l[i] := List.getElem?_eq_getElem hlt
      obtain ⟨u1, hu1, hA1⟩ := hx2.get (i := i) (h1 i _ ha)
      obtain ⟨u2, hu2, hA2⟩ := hy2.get (i := i) (h2 i _ ha)
      refine .inr ⟨⟨xs, ys, u1, u2, qx, qy, hu1, hu2⟩, St (i + 1), fun H2 p => ⟨l.length - (i + 1), by omega, rfl, hlt, p⟩, fun v H2 yl => ?_⟩
      obtain ⟨T, w1, w2, rfl, hT, rfl, f1, f2⟩ := yl
      have e1' : u1 = w1 := by have z := f1 xs qx; rw [hu1] at z; simpa using z
      have e2' : u2 = w2 := by have z := f2 ys qy; rw [hu2] at z; simpa using z
      subst e1' e2'
      refine ⟨T, [u1, u2], rfl, SqT.of upd_same, rfl, u1, [u2], rfl, u2, [], rfl, rfl, ?_, ?_⟩
      · rw [wipe_setG hj2, wipe_setG hj1]
        have idem := wipe_setG (τ := L2.wipe σ vs) (x := some u1) hj1
        exact (wipe_setG (τ := L2.wipe σ vs) (x := some u1) hj1).symm.trans (wipe_set hj1)
      · show if true = true then _ else _
        rw [if_pos rfl]
        obtain ⟨x, hx, H0', F2, S2, k2⟩ := turn D i H' F' acc u1 u2 T hlt hD G fD hDl hall hu1 hu2 hT (St (i + 1)) (fun H2 h => h)
        exact ⟨x, hx, H0', F2, S2, fun z H3 F3 g3 hz3 => k2 z H3 F3 g3 hz3⟩
    · have e : i = l.length := by omega
      subst e
      refine .inl ⟨⟨xs, ys, qx, qy, by omega⟩, ?_⟩
      rw [List.take_length] at hall
      exact k D acc H' F' (g1.trans G) (g1.h.none hD) fD hDl hall
theorem en_lcZ2 {own : List (Str × Nat)} (j1 j2 : Nat) {x1 x2 : Str} {px1 px2 p1 p2 tp : Pos} {kk : Nat} {q : Bool} {la lb : List As} {l : List α} {e1 e2 : α → As} {g : α → As} (hc : X.calm = true) (hN : X.N.Nodup) (hm : X.mg "zip" = none) (hi : EAs X [a, b] ρ [sq q la, sq q lb])
    (h1 : ∀ (i : Nat) (x : α), l[i]? = some x → la[i]? = some (e1 x)) (h2 : ∀ (i : Nat) (x : α), l[i]? = some x → lb[i]? = some (e2 x)) (hl : la.length = l.length ∨ lb.length = l.length) (hz : l.length < sizeLine) (ok : BlkOk X.N X.env.scope scope own)
    (hg : ∀ (s : Shared) (H : Hp) (C : Addr) (cl : List (Str × Addr)) (fp : List Addr), PG (X.blk s H scope (compEnvC scope cl C X.env) fp) (.Tuple [.Name x1 px1, .Name x2 px2] kk tp) (gTup X.K 2 (gCons (gName j1) (gCons (gName j2) gNil))))
    (he : ∀ (s : Shared) (H : Hp) (C : Addr) (cl : List (Str × Addr)) (fp : List Addr), ∀ x ∈ l, EA (X.blk s H scope (compEnvC scope cl C X.env) fp) elt (((wipeE ρ (own.map (·.2))).set j1 (.fr (e1 x))).set j2 (.fr (e2 x))) (g x))
    (hj1 : j1 ∈ own.map (·.2) := by decide) (hj2 : j2 ∈ own.map (·.2) := by decide) (hgz : Gl X "zip" := by rfl)
    (hs : starEach [a, b] X.env = (false, eval a X.env) :: starEach [b] X.env := by rfl) (hpl : (backTo p2 (starEach [b] X.env)).any (·.1) = false := by rfl) (hfo : ∀ z, foldedSetIterable (.Call (.Name "zip" p1) [a, b] [] p2) X.env z = pure z := by intro _; rfl) :
    EN X (.ListComp elt [⟨.Tuple [.Name x1 px1, .Name x2 px2] kk tp, .Call (.Name "zip" p1) [a, b] [] p2, [], 0⟩] scope pos) ρ (l.map g) :=
  pe_imp (pe_lc (own := own) (tt := fun _ H Q => Q true H) (te := teZ ρ (own.map (·.2)) j1 j2 l e1 e2 g) hc hN (RZ.pi_zipA hgz hm hi hs hpl) ok hg (fun s H C cl fp => ⟨fun pins s1 σ H1 Q I q => pts_nil.run pins s1 σ H1 Q I q⟩) (fun s H C cl fp => ⟨fun pins s1 σ H1 Q I ⟨x, hx, q⟩ => (he s H C cl fp x hx).run pins s1 σ H1 Q I q⟩) hfo) fun σ H Q h => tlc_zip2 h1 h2 hl hz hj1 hj2 h
theorem sa_setLcZ2 {own : List (Str × Nat)} (i j1 j2 : Nat) {y : Str} {py spos : Pos} {Nx : List En → Prop} {W : Wn} {x1 x2 : Str} {px1 px2 p1 p2 tp : Pos} {kk : Nat} {q : Bool} {la lb : List As} {l : List α} {e1 e2 : α → As} {g : α → As} (hc : X.calm = true) (hN : X.N.Nodup) (hm : X.mg "zip" = none) (hi : EAs X [a, b] ρ [sq q la, sq q lb])
    (h1 : ∀ (i : Nat) (x : α), l[i]? = some x → la[i]? = some (e1 x)) (h2 : ∀ (i : Nat) (x : α), l[i]? = some x → lb[i]? = some (e2 x)) (hl : la.length = l.length ∨ lb.length = l.length) (hz : l.length < sizeLine) (ok : BlkOk X.N X.env.scope scope own)
    (hg : ∀ (s : Shared) (H : Hp) (C : Addr) (cl : List (Str × Addr)) (fp : List Addr), PG (X.blk s H scope (compEnvC scope cl C X.env) fp) (.Tuple [.Name x1 px1, .Name x2 px2] kk tp) (gTup X.K 2 (gCons (gName j1) (gCons (gName j2) gNil))))
    (he : ∀ (s : Shared) (H : Hp) (C : Addr) (cl : List (Str × Addr)) (fp : List Addr), ∀ x ∈ l, EA (X.blk s H scope (compEnvC scope cl C X.env) fp) elt (((wipeE ρ (own.map (·.2))).set j1 (.fr (e1 x))).set j2 (.fr (e2 x))) (g x))
    (k : Nx (ρ.set i (.own (l.map g)))) (hy : X.N[i]? = some y := by rfl) (hyl : X.env.scope.names.lookup y = some .local := by rfl)
    (hsw : swapsWith (.ListComp elt [⟨.Tuple [.Name x1 px1, .Name x2 px2] kk tp, .Call (.Name "zip" p1) [a, b] [] p2, [], 0⟩] scope pos) (some (.Name y py)) spos.line X.env = pure true := by exact sw_true rfl rfl rfl (by decide +kernel)) (hj1 : j1 ∈ own.map (·.2) := by decide) (hj2 : j2 ∈ own.map (·.2) := by decide) (hgz : Gl X "zip" := by rfl)
    (hs : starEach [a, b] X.env = (false, eval a X.env) :: starEach [b] X.env := by rfl) (hpl : (backTo p2 (starEach [b] X.env)).any (·.1) = false := by rfl) (hfo : ∀ z, foldedSetIterable (.Call (.Name "zip" p1) [a, b] [] p2) X.env z = pure z := by intro _; rfl) :
    SA X (.Assign [.Name y py] (.ListComp elt [⟨.Tuple [.Name x1 px1, .Name x2 px2] kk tp, .Call (.Name "zip" p1) [a, b] [] p2, [], 0⟩] scope pos) spos) ρ Nx W :=
  ps_imp (ps_setLc (own := own) (i := i) (tt := fun _ H Q => Q true H) (te := teZ ρ (own.map (·.2)) j1 j2 l e1 e2 g) hc hN hy hyl hsw (RZ.pi_zipA hgz hm hi hs hpl) ok hg (fun s H C cl fp => ⟨fun pins s1 σ H1 Q I q => pts_nil.run pins s1 σ H1 Q I q⟩) (fun s H C cl fp => ⟨fun pins s1 σ H1 Q I ⟨x, hx, q⟩ => (he s H C cl fp x hx).run pins s1 σ H1 Q I q⟩) hfo) fun D σ H ⟨F0, H0, F, g0, S, q, _⟩ => tlc_zip2 h1 h2 hl hz hj1 hj2 ⟨H0, F, S, fun p' xs H' F' g' n1 n2 hp hv => q _ _ H' F' k (g0.trans g') ((S.gr g').setN (g0.h.none n1) n2 hp hv fun j m y e1 e2 => .inl fun z => by
    obtain ⟨p2, xs', h1, _, _, h4, _⟩ := S.own j m e1
    rw [h1] at e2
    have e3 : p2 = y := by simpa using e2
    rw [e3, z, n1] at h4
    cases h4)⟩
end
end Lk

set_option Elab.async false
set_option linter.all false
set_option maxRecDepth 100000
set_option maxHeartbeats 4000000
namespace Lk
open PySem PySem.Calls L2 PySem.Spec PyProof.Rows
/-! ### lists within a list that are changed -/
/-- what held in Fs, which has grown -/
def atA (Fs : Hp) (A : As) : As := ⟨fun F v => Ex Fs F ∧ A.p Fs v, fun e h => ⟨h.1.trans e, h.2⟩⟩
def atE (Fs : Hp) : En → En
  | .fr A => .fr (atA Fs A)
  | e => e
theorem at_imp {Fs : Hp} {A : As} : ∀ F v, (atA Fs A).p F v → A.p F v := fun F v h => A.mono h.1 h.2
/-- a list of lists of its own, all new since Fs, no two the same -/
def dlA (Fs : Hp) (cs : List (List V)) : As := ⟨fun F v => ∃ (a : Addr) (as : List Addr), v = .ref a ∧ F a = some (.lst (as.map V.ref)) ∧ Fs a = none ∧ a ∉ as ∧ as.Nodup ∧ as.length = cs.length ∧ ∀ (k : Nat) (b : Addr) (c : List V), as[k]? = some b → cs[k]? = some c → F b = some (.lst c) ∧ Fs b = none,
  fun e ⟨a, as, h1, h2, h3, h4, h5, h6, h7⟩ => ⟨a, as, h1, e a _ h2, h3, h4, h5, h6, fun k b c z1 z2 => let ⟨x, y⟩ := h7 k b c z1 z2; ⟨e b _ x, y⟩⟩⟩
theorem dl_all {F : Hp} : ∀ {as : List Addr} {cs : List (List V)}, as.length = cs.length → (∀ (k : Nat) (b : Addr) (c : List V), as[k]? = some b → cs[k]? = some c → F b = some (.lst c)) → AllV F (as.map V.ref) (cs.map fun c => lstA (c.map sc))
  | [], [], _, _ => trivial
  | b :: as, c :: cs, h, h7 => ⟨⟨b, c, rfl, h7 0 b c rfl rfl, AllV.of_scs⟩, dl_all (by simpa using h) fun k b' c' z1 z2 => h7 (k + 1) b' c' (by simpa using z1) (by simpa using z2)⟩
  | [], _ :: _, h, _ => by simp at h
  | _ :: _, [], h, _ => by simp at h
theorem dl_imp {Fs : Hp} {cs : List (List V)} : ∀ F v, (dlA Fs cs).p F v → (lstA (cs.map fun c => lstA (c.map sc))).p F v := fun F v ⟨a, as, h1, h2, h3, h4, h5, h6, h7⟩ => ⟨a, _, h1, h2, dl_all h6 fun k b c z1 z2 => (h7 k b c z1 z2).1⟩
section
variable {α : Type} {X : Cx} {ρ : List En}
def tEn (ρe : α → List En) (l : List α) (g : α → List V) : TE := fun σ H Q => ∃ a, a ∈ l ∧ tN (ρe a) ((g a).map sc) σ H Q
theorem tlc_new {σ : L2.St} {H : Hp} {Q : VK} {l : List α} {enc : α → As} {g : α → List V} {vs : List Nat} {j i0 : Nat} {Fs : Hp} {B0 : As} (h0 : ρ[i0]? = some (.fr (atA Fs B0))) (hj : j ∈ vs) (hz : l.length < sizeLine) (h : tA ρ (dlA Fs (l.map g)) σ H Q) :
    tLc (iS ρ (l.map enc)) (gName j) (fun _ H Q => Q true H) (tEn (fun a => (wipeE ρ vs).set j (.fr (enc a))) l g) vs σ H Q := by
  obtain ⟨H0, F, S, k⟩ := h
  obtain ⟨_, _, hFs, _⟩ := S.fr i0 _ h0
  refine ⟨H0, F, S, fun J So xs H1 F1 g1 h2 hJ hS D hD => ?_⟩
  have hlen : xs.length = l.length := by rw [h2.length, List.length_map]
  let St : Nat → Hp → Prop := fun i H' => ∃ (F' : Hp) (as : List Addr), Gr F1 H1 F' H' ∧ F' D = none ∧ H' D = some (.lst (as.map V.ref)) ∧ as.Nodup ∧ as.length = i ∧ ∀ (k : Nat) (b : Addr), as[k]? = some b → ∃ a, l[k]? = some a ∧ F' b = some (.lst (g a)) ∧ F1 b = none
  refine it_walk (xs := xs) hJ St ⟨F1, [], .newH g1.i hD, g1.i.none hD, upd_same, List.nodup_nil, rfl, fun k b z => by simp at z⟩ (fun i H' _ L => ?_) (fun i x H' hx L => ?_) (fun H' L => ?_)
  · obtain ⟨F', as, G, _⟩ := L
    exact hS H' (G.f.trans G.i)
  · have hi : i < l.length := by
      have z := (List.getElem?_eq_some_iff.mp hx).1
      omega
    have ha : l[i]? = some l[i] := List.getElem?_eq_getElem hi
    obtain ⟨u, hu, hA⟩ := h2.get (i := i) (A := enc l[i]) (by rw [List.getElem?_map, ha]; rfl)
    rw [hx] at hu
    have e : x = u := by simpa using hu
    subst e
    obtain ⟨F', as, G, fD, hDl, nd, hl, hb⟩ := L
    have S1 := (((S.gr g1).gr G).wipe vs).set (i := j) ((enc l[i]).mono G.f hA)
    refine ⟨wipe_set hj, ?_⟩
    show if true = true then _ else _
    rw [if_pos rfl]
    refine ⟨l[i], List.getElem_mem hi, H0, F', S1, fun p ys H3 F3 g3 hn fp hp hys => ?_⟩
    have ey : ys = g l[i] := AllV.scs hys
    subst ey
    have G3 := G.trans g3
    have d3 : H3 D = some (.lst (as.map V.ref)) := g3.h D _ hDl
    have f3 : F3 D = none := g3.n D _ hDl fD
    have np : p ≠ D := fun z => by rw [z, hDl] at hn; cases hn
    have G4 : Gr F1 H1 (upd F3 p (.lst (g l[i]))) H3 := G3.take (by
      cases e : H1 p with
      | none => rfl
      | some o => rw [G.h p o e] at hn; cases hn) fp hp
    refine ⟨as.map V.ref, d3, by rw [List.length_map, hl]; omega, upd F3 p (.lst (g l[i])), as ++ [p], ⟨G4.f, fun b o q => ?_, fun b o q => ?_, G4.n⟩, by rw [upd_ne (Ne.symm np)]; exact f3, by rw [upd_same, List.map_append]; rfl, ?_, by rw [List.length_append, hl]; rfl, fun k b z => ?_⟩
    · rw [upd_ne (ne_of_none q hD)]
      exact G4.h b o q
    · have nb : b ≠ D := fun z => by
        rw [z, upd_ne (Ne.symm np), f3] at q
        cases q
      rw [upd_ne nb]
      exact G4.i b o q
    · rw [List.nodup_append]
      refine ⟨nd, by simp, fun b hb1 c hc1 => ?_⟩
      rw [List.mem_singleton.mp hc1]
      intro z
      obtain ⟨k, hk⟩ := List.getElem?_of_mem hb1
      obtain ⟨a, _, e1, _⟩ := hb k b hk
      have e2 := g3.f b _ e1
      rw [z, fp] at e2
      cases e2
    · by_cases hk : k < as.length
      · rw [List.getElem?_append_left hk] at z
        obtain ⟨a, e0, e1, e2⟩ := hb k b z
        have nb : b ≠ p := fun y => by
          have e3 := g3.f b _ e1
          rw [y, fp] at e3
          cases e3
        exact ⟨a, e0, by rw [upd_ne nb]; exact g3.f b _ e1, e2⟩
      · rw [List.getElem?_append_right (by omega)] at z
        have k0 : k - as.length = 0 := by
          have := (List.getElem?_eq_some_iff.mp z).1
          simp at this
          omega
        rw [k0] at z
        have z : p = b := by simpa using z
        subst z
        have ki : k = i := by omega
        subst ki
        refine ⟨l[k], ha, upd_same, ?_⟩
        cases e : F1 p with
        | none => rfl
        | some o =>
          have e2 := G3.f p o e
          rw [fp] at e2
          cases e2
  · rw [hlen] at L
    obtain ⟨F', as, G, fD, hDl, nd, hl, hb⟩ := L
    have F1s : Ex Fs F1 := hFs.trans g1.f
    have dn : F1 D = none := g1.i.none hD
    have gg : Gr F H (upd F' D (.lst (as.map V.ref))) H' := (g1.trans G).take (g1.h.none hD) fD hDl
    refine k _ H' _ gg ⟨D, as, rfl, upd_same, F1s.none dn, fun z => ?_, nd, by rw [hl, List.length_map], fun m b c z1 z2 => ?_⟩
    · obtain ⟨m, hm⟩ := List.getElem?_of_mem z
      obtain ⟨a, _, e1, _⟩ := hb m D hm
      rw [fD] at e1
      cases e1
    · obtain ⟨a, e0, e1, e2⟩ := hb m b z1
      rw [List.getElem?_map, e0] at z2
      have z2 : g a = c := by simpa using z2
      subst z2
      have nb : b ≠ D := fun y => by rw [y, fD] at e1; cases e1
      exact ⟨by rw [upd_ne nb]; exact e1, F1s.none e2⟩
/-- y = [list(x) for x in ..] and the like -/
theorem sa_setLcNew {it elt : Expr} {scope : Scope} {pos spos : Pos} {Nx : List En → Prop} {W : Wn} {own : List (Str × Nat)} (i j i0 : Nat) {x y : Str} {px py : Pos} {l : List α} {enc : α → As} {g : α → List V} {Fs : Hp} {B0 : As} (h0 : ρ[i0]? = some (.fr (atA Fs B0))) (hc : X.calm = true) (hN : X.N.Nodup) (hi : ES X (.Name x px) it ρ (l.map enc)) (hz : l.length < sizeLine) (ok : BlkOk X.N X.env.scope scope own)
    (hg : ∀ (s : Shared) (H : Hp) (C : Addr) (cl : List (Str × Addr)) (fp : List Addr), PG (X.blk s H scope (compEnvC scope cl C X.env) fp) (.Name x px) (gName j))
    (he : ∀ (s : Shared) (H : Hp) (C : Addr) (cl : List (Str × Addr)) (fp : List Addr), ∀ a ∈ l, EN (X.blk s H scope (compEnvC scope cl C X.env) fp) elt ((wipeE ρ (own.map (·.2))).set j (.fr (enc a))) ((g a).map sc))
    (k : Nx (ρ.set i (.fr (dlA Fs (l.map g))))) (hy : X.N[i]? = some y := by rfl) (hyl : X.env.scope.names.lookup y = some .local := by rfl)
    (hsw : swapsWith (.ListComp elt [⟨.Name x px, it, [], 0⟩] scope pos) (some (.Name y py)) spos.line X.env = pure true := by exact sw_true rfl rfl rfl (by decide +kernel))
    (hj : j ∈ own.map (·.2) := by decide) (hs : ∀ z, foldedSetIterable it X.env z = pure z := by intro _; rfl) :
    SA X (.Assign [.Name y py] (.ListComp elt [⟨.Name x px, it, [], 0⟩] scope pos) spos) ρ Nx W :=
  ps_imp (ps_setLc (own := own) (i := i) (tt := fun _ H Q => Q true H) (te := tEn (fun a => (wipeE ρ (own.map (·.2))).set j (.fr (enc a))) l g) hc hN hy hyl hsw hi ok hg (fun s H C cl fp => ⟨fun pins s1 σ H1 Q I q => pts_nil.run pins s1 σ H1 Q I q⟩) (fun s H C cl fp => ⟨fun pins s1 σ H1 Q I ⟨x, hx, q⟩ => (he s H C cl fp x hx).run pins s1 σ H1 Q I q⟩) hs) fun D σ H ⟨F0, H0, F, g0, S, q, _⟩ => tlc_new h0 hj hz ⟨H0, F, S, fun v H' F' g' hv => q _ _ H' F' k (g0.trans g') ((S.gr g').set hv)⟩
end
end Lk

set_option Elab.async false
set_option linter.all false
set_option maxRecDepth 100000
set_option maxHeartbeats 4000000
namespace Lk
open PySem PySem.Calls L2 PySem.Spec PyProof.Rows
/-- untouched where a list that is new since Fs changes -/
def Thw (Fs : Hp) (e : En) : Prop := e = .no ∨ ∃ A, e = .fr A ∧ (NoLst A ∨ ∃ B, A = atA Fs B)
theorem sat_thaw {Fs F0 H0 F H : Hp} {σ : L2.St} {ρ : List En} {i : Nat} {p : Addr} {ys zs : List V} {A0 A' : As} (x0 : Ex F0 Fs) (g : Gr F0 H0 F H) (S : Sat H0 F σ H ρ) (hi : ρ[i]? = some (.fr A0)) (hp : F p = some (.lst ys)) (fp : Fs p = none)
    (oth : ∀ j e, j ≠ i → ρ[j]? = some e → Thw Fs e) (hv : ∃ v, σ[i]? = some (some v) ∧ A'.p (upd F p (.lst zs)) v) :
    Gr F0 H0 (upd F p (.lst zs)) (upd H p (.lst zs)) ∧ Sat H0 (upd F p (.lst zs)) σ (upd H p (.lst zs)) (ρ.set i (.fr A')) := by
  have f0 : F0 p = none := x0.none fp
  have h0 : H0 p = none := by
    cases e : H0 p with
    | none => rfl
    | some o =>
      have z := g.n p o e f0
      rw [hp] at z
      cases z
  have nF0 : ∀ a o, F0 a = some o → a ≠ p := fun a o e z => by rw [z, f0] at e; cases e
  have nH0 : ∀ a o, H0 a = some o → a ≠ p := fun a o e z => by rw [z, h0] at e; cases e
  have li : i < ρ.length := (List.getElem?_eq_some_iff.mp hi).1
  have exF : Ex (upd F p (.lst zs)) (upd H p (.lst zs)) := fun a o e => by
    by_cases hb : a = p
    · rw [hb, upd_same] at e ⊢
      exact e
    · rw [upd_ne hb] at e ⊢
      exact S.ex a o e
  refine ⟨⟨fun a o e => ?_, fun a o e => ?_, exF, fun a o e1 e2 => ?_⟩, ⟨exF, fun j A e => ?_, fun j m e => ?_, fun j k m n q e1 e2 s1 s2 => ?_, by rw [List.length_set]; exact S.len⟩⟩
  · rw [upd_ne (nF0 a o e)]
    exact g.f a o e
  · rw [upd_ne (nH0 a o e)]
    exact g.h a o e
  · rw [upd_ne (nH0 a o e1)]
    exact g.n a o e1 e2
  · by_cases hj : i = j
    · subst hj
      rw [List.getElem?_set_self li] at e
      have e : A' = A := by simpa using e
      subst e
      exact hv
    · rw [List.getElem?_set_ne hj] at e
      obtain ⟨v, h1, h2⟩ := S.fr j A e
      refine ⟨v, h1, ?_⟩
      rcases oth j _ (Ne.symm hj) e with z | ⟨A2, z, h⟩
      · cases z
      · have z : A = A2 := by simpa using z
        subst z
        rcases h with h | ⟨B, rfl⟩
        · refine h F _ v (fun a o e n => ?_) h2
          have na : a ≠ p := fun z => by
            rw [z, hp] at e
            exact n ys (by simpa using e.symm)
          rw [upd_ne na]
          exact e
        · refine ⟨fun a o e => ?_, h2.2⟩
          have na : a ≠ p := fun z => by rw [z, fp] at e; cases e
          rw [upd_ne na]
          exact h2.1 a o e
  · exfalso
    by_cases hj : i = j
    · subst hj
      rw [List.getElem?_set_self li] at e
      cases e
    · rw [List.getElem?_set_ne hj] at e
      rcases oth j _ (Ne.symm hj) e with z | ⟨A2, z, _⟩
      · cases z
      · cases z
  · exfalso
    by_cases hj : i = j
    · subst hj
      rw [List.getElem?_set_self li] at e1
      cases e1
    · rw [List.getElem?_set_ne hj] at e1
      rcases oth j _ (Ne.symm hj) e1 with z | ⟨A2, z, _⟩
      · cases z
      · cases z
/-- what is known since Fs -/
def sAF (Fs : Hp) (ρ : List En) (Nx : List En → Prop) (W : Wn) : TS := fun D σ H => ∃ F0 H0 F, Ex F0 Fs ∧ Gr F0 H0 F H ∧ Sat H0 F σ H ρ ∧
  (∀ ρ' σ' H' F', Nx ρ' → Gr F0 H0 F' H' → Sat H0 F' σ' H' ρ' → D.nx σ' H') ∧ (∀ v H' F', Gr F0 H0 F' H' → W.R.p F' v → D.rt v H') ∧
  (∀ ρ' σ' H' F', W.B ρ' → Gr F0 H0 F' H' → Sat H0 F' σ' H' ρ' → D.bk σ' H') ∧ (∀ ρ' σ' H' F', W.C ρ' → Gr F0 H0 F' H' → Sat H0 F' σ' H' ρ' → D.ct σ' H') ∧
  (∀ cls d ρ' σ' H' F', W.er ρ' F' cls d → Gr F0 H0 F' H' → Sat H0 F' σ' H' ρ' → W.wx cls d σ' H')
section
variable {X : Cx} {ρ ρ1 ρ2 : List En} {Nx : List En → Prop} {W : Wn} {st : Stmt} {sts : List Stmt} {Fs : Hp}
theorem ba_mark (no : ∀ (i : Nat) (l : List As), ρ[i]? ≠ some (.own l)) (h : ∀ Fs, PSs X sts (sAF Fs (ρ.map (atE Fs)) Nx W)) : BA X sts ρ Nx W := by
  refine ⟨fun pins s σ H D I ⟨F0, H0, F, g, S, q⟩ => (h F).run pins s σ H D I ⟨F0, H0, F, g.f, g, ⟨S.ex, fun i A e => ?_, fun i l e => ?_, fun i j l m p e => ?_, by rw [List.length_map]; exact S.len⟩, q⟩⟩
  · rw [List.getElem?_map] at e
    cases z : ρ[i]? with
    | none => rw [z] at e; cases e
    | some x =>
      rw [z] at e
      cases x with
      | no => cases e
      | own l => exact absurd z (no i l)
      | fr B =>
        have e : atA F B = A := by simpa [atE] using e
        subst e
        obtain ⟨v, h1, h2⟩ := S.fr i B z
        exact ⟨v, h1, Ex.refl F, h2⟩
  · exfalso
    rw [List.getElem?_map] at e
    cases z : ρ[i]? with
    | none => rw [z] at e; cases e
    | some x =>
      rw [z] at e
      cases x with
      | no => cases e
      | own l => exact no i l z
      | fr B => cases e
  · exfalso
    rw [List.getElem?_map] at e
    cases z : ρ[i]? with
    | none => rw [z] at e; cases e
    | some x =>
      rw [z] at e
      cases x with
      | no => cases e
      | own l => exact no i l z
      | fr B => cases e
theorem cut_out (h : BA X sts ρ Nx W) : PSs X sts (sAF Fs ρ Nx W) := pss_imp h fun D σ H ⟨F0, H0, F, _, g, S, q⟩ => ⟨F0, H0, F, g, S, q⟩
theorem cut_le (h : PSs X sts (sAF Fs ρ1 Nx W)) (le : Le ρ1 ρ) : PSs X sts (sAF Fs ρ Nx W) := pss_imp h fun D σ H ⟨F0, H0, F, x0, g, S, q⟩ => ⟨F0, H0, F, x0, g, S.le le, q⟩
theorem cut_cons (h1 : SA X st ρ (fun ρ' => ρ' = ρ2) { R := W.R }) (h2 : PSs X sts (sAF Fs ρ2 Nx W)) : PSs X (st :: sts) (sAF Fs ρ Nx W) :=
  pss_imp (pss_cons h1 h2) fun D σ H ⟨F0, H0, F, x0, g, S, q1, q2, q3, q4, q5⟩ => ⟨F0, H0, F, g, S, fun ρ' σ' H' F' e g' S' => ⟨F0, H0, F', x0, g', by rw [← e]; exact S', q1, q2, q3, q4, q5⟩, q2, fun _ _ _ _ z => z.elim, fun _ _ _ _ z => z.elim, fun _ _ _ _ _ _ z => z.elim⟩
/-- x[k].append(e) -/
theorem cut_app {call : Expr} {pos : Pos} (i : Nat) {k : Nat} {cs : List (List V)} {c : List V} {w : V} (hr : ρ[i]? = some (.fr (dlA Fs cs))) (oth : ∀ j e, j ≠ i → ρ[j]? = some e → Thw Fs e) (hk : cs[k]? = some c) (hz : c.length < sizeLine)
    (hb : PE X call (tBM X.K "list" rAppend (tOp (rIxL X.K) (tVar i) (tA ρ (int (k : Int)))) (tCons (tA ρ (sc w)) tNil))) (next : PSs X sts (sAF Fs (ρ.set i (.fr (dlA Fs (cs.set k (c ++ [w]))))) Nx W)) (hsw : swapsWith call none pos.line X.env = pure false := by rfl) : PSs X (.Expr call pos :: sts) (sAF Fs ρ Nx W) := by
  refine pss_imp (pss_cons (ps_expr hb hsw) next) fun D σ H ⟨F0, H0, F, x0, g, S, q⟩ => ?_
  obtain ⟨v, e1, a, as, ev, h1, h2, h3, h4, h5, h6⟩ := S.fr i _ hr
  subst ev
  refine ⟨_, e1, H0, F, S, fun y H1 F1 g1 hy => ?_⟩
  have hy : y = .int (k : Int) := hy
  subst hy
  have lk : k < cs.length := (List.getElem?_eq_some_iff.mp hk).1
  obtain ⟨b, hb1⟩ : ∃ b, as[k]? = some b := ⟨_, List.getElem?_eq_getElem (by omega)⟩
  obtain ⟨hF, hFs⟩ := h6 k b c hb1 hk
  refine ⟨a, _, (k : Int), .ref b, rfl, rfl, SqL.of (g1.h a _ (S.ex a _ h1)), atI_nat (by rw [List.getElem?_map, hb1]; rfl), .inl ⟨rfl, c, SqL.of (g1.h b _ (S.ex b _ hF))⟩, H0, F1, S.gr g1, fun u H2 F2 g2 hu => ?_⟩
  have hu : u = w := hu
  subst hu
  have G := g1.trans g2
  have hF2 : F2 b = some (.lst c) := G.f b _ hF
  have ab : a ≠ b := fun z => h3 (by rw [z]; exact List.mem_of_getElem? hb1)
  have q3 : ∀ (m : Nat) (b' : Addr) (c' : List V), as[m]? = some b' → (cs.set k (c ++ [u]))[m]? = some c' → (upd F2 b (.lst (c ++ [u]))) b' = some (.lst c') ∧ Fs b' = none := fun m b' c' z1 z2 => by
    by_cases hm : k = m
    · subst hm
      rw [List.getElem?_set_self lk] at z2
      have z2 : c ++ [u] = c' := by simpa using z2
      subst z2
      rw [hb1] at z1
      have z1 : b = b' := by simpa using z1
      subst z1
      exact ⟨upd_same, hFs⟩
    · rw [List.getElem?_set_ne hm] at z2
      obtain ⟨y1, y2⟩ := h6 m b' c' z1 z2
      have nb : b' ≠ b := fun z => by
        subst z
        exact hm ((List.getElem?_inj (by omega : k < as.length) h4).mp (hb1.trans z1.symm))
      exact ⟨by rw [upd_ne nb]; exact G.f b' _ y1, y2⟩
  obtain ⟨G3, S3⟩ := sat_thaw (A' := dlA Fs (cs.set k (c ++ [u]))) (zs := c ++ [u]) x0 (g.trans G) (S.gr G) hr hF2 hFs oth ⟨_, e1, a, as, rfl, by rw [upd_ne ab]; exact G.f a _ h1, h2, h3, h4, by rw [List.length_set]; exact h5, q3⟩
  exact ⟨b, c, u, rfl, rfl, S.ex.trans G.h b _ hF, hz, F0, H0, _, x0, G3, S3, q⟩
/-- x[k].insert(z, e) -/
theorem cut_ins {call : Expr} {pos : Pos} (i : Nat) {k z : Nat} {cs : List (List V)} {c : List V} {w : V} (hr : ρ[i]? = some (.fr (dlA Fs cs))) (oth : ∀ j e, j ≠ i → ρ[j]? = some e → Thw Fs e) (hk : cs[k]? = some c) (hz : c.length < sizeLine) (hz2 : z < 2 ^ 62)
    (hb : PE X call (tBM X.K "list" rIns (tOp (rIxL X.K) (tVar i) (tA ρ (int (k : Int)))) (tCons (tA ρ (int (z : Int))) (tCons (tA ρ (sc w)) tNil)))) (next : PSs X sts (sAF Fs (ρ.set i (.fr (dlA Fs (cs.set k (c.take z ++ [w] ++ c.drop z))))) Nx W)) (hsw : swapsWith call none pos.line X.env = pure false := by rfl) : PSs X (.Expr call pos :: sts) (sAF Fs ρ Nx W) := by
  refine pss_imp (pss_cons (ps_expr hb hsw) next) fun D σ H ⟨F0, H0, F, x0, g, S, q⟩ => ?_
  obtain ⟨v, e1, a, as, ev, h1, h2, h3, h4, h5, h6⟩ := S.fr i _ hr
  subst ev
  refine ⟨_, e1, H0, F, S, fun y H1 F1 g1 hy => ?_⟩
  have hy : y = .int (k : Int) := hy
  subst hy
  have lk : k < cs.length := (List.getElem?_eq_some_iff.mp hk).1
  obtain ⟨b, hb1⟩ : ∃ b, as[k]? = some b := ⟨_, List.getElem?_eq_getElem (by omega)⟩
  obtain ⟨hF, hFs⟩ := h6 k b c hb1 hk
  refine ⟨a, _, (k : Int), .ref b, rfl, rfl, SqL.of (g1.h a _ (S.ex a _ h1)), atI_nat (by rw [List.getElem?_map, hb1]; rfl), .inl ⟨rfl, c, SqL.of (g1.h b _ (S.ex b _ hF))⟩, H0, F1, S.gr g1, fun y0 Ha Fa ga hy0 => ⟨H0, Fa, (S.gr g1).gr ga, fun u H2 F2 g2' hu => ?_⟩⟩
  have hy0 : y0 = .int (z : Int) := hy0
  subst hy0
  have hu : u = w := hu
  subst hu
  have g2 := ga.trans g2'
  have G := g1.trans g2
  have hF2 : F2 b = some (.lst c) := G.f b _ hF
  have ab : a ≠ b := fun z => h3 (by rw [z]; exact List.mem_of_getElem? hb1)
  have q3 : ∀ (m : Nat) (b' : Addr) (c' : List V), as[m]? = some b' → (cs.set k (c.take z ++ [u] ++ c.drop z))[m]? = some c' → (upd F2 b (.lst (c.take z ++ [u] ++ c.drop z))) b' = some (.lst c') ∧ Fs b' = none := fun m b' c' z1 z2 => by
    by_cases hm : k = m
    · subst hm
      rw [List.getElem?_set_self lk] at z2
      have z2 : c.take z ++ [u] ++ c.drop z = c' := by simpa using z2
      subst z2
      rw [hb1] at z1
      have z1 : b = b' := by simpa using z1
      subst z1
      exact ⟨upd_same, hFs⟩
    · rw [List.getElem?_set_ne hm] at z2
      obtain ⟨y1, y2⟩ := h6 m b' c' z1 z2
      have nb : b' ≠ b := fun z => by
        subst z
        exact hm ((List.getElem?_inj (by omega : k < as.length) h4).mp (hb1.trans z1.symm))
      exact ⟨by rw [upd_ne nb]; exact G.f b' _ y1, y2⟩
  obtain ⟨G3, S3⟩ := sat_thaw (A' := dlA Fs (cs.set k (c.take z ++ [u] ++ c.drop z))) (zs := c.take z ++ [u] ++ c.drop z) x0 (g.trans G) (S.gr G) hr hF2 hFs oth ⟨_, e1, a, as, rfl, by rw [upd_ne ab]; exact G.f a _ h1, h2, h3, h4, by rw [List.length_set]; exact h5, q3⟩
  refine ⟨b, c, (z : Int), u, rfl, rfl, S.ex.trans G.h b _ hF, hz, by omega, by omega, ?_⟩
  rw [Int.toNat_natCast]
  exact ⟨F0, H0, _, x0, G3, S3, q⟩
/-- x.append(e), e a new list -/
theorem cut_appO {call : Expr} {pos : Pos} (i : Nat) {cs : List (List V)} {c : List V} (hr : ρ[i]? = some (.fr (dlA Fs cs))) (oth : ∀ j e, j ≠ i → ρ[j]? = some e → Thw Fs e) (hz : cs.length < sizeLine)
    (hb : PE X call (tBM X.K "list" rAppend (tVar i) (tCons (tN ρ (c.map sc)) tNil))) (hF0 : ∃ (i0 : Nat) (B0 : As), ρ[i0]? = some (En.fr (atA Fs B0))) (next : PSs X sts (sAF Fs (ρ.set i (.fr (dlA Fs (cs ++ [c])))) Nx W)) (hsw : swapsWith call none pos.line X.env = pure false := by rfl) : PSs X (.Expr call pos :: sts) (sAF Fs ρ Nx W) := by
  refine pss_imp (pss_cons (ps_expr hb hsw) next) fun D σ H ⟨F0, H0, F, x0, g, S, q⟩ => ?_
  obtain ⟨i0, B0, hi0⟩ := hF0
  obtain ⟨_, _, hFs0, _⟩ := S.fr i0 _ hi0
  obtain ⟨v, e1, a, as, ev, h1, h2, h3, h4, h5, h6⟩ := S.fr i _ hr
  subst ev
  refine ⟨_, e1, .inl ⟨rfl, _, SqL.of (S.ex a _ h1)⟩, H0, F, S, fun b xs H1 F1 g1 hn fb hb1 hx => ?_⟩
  have ex : xs = c := AllV.scs hx
  subst ex
  have g2 : Gr F H (upd F1 b (.lst xs)) H1 := g1.take hn fb hb1
  have nb : ∀ (y : Addr) o, F y = some o → y ≠ b := fun y o e z => by
    have := g1.f y o e
    rw [z, fb] at this
    cases this
  have na := nb a _ h1
  have fsb : Fs b = none := (hFs0.trans g1.f).none fb
  have hF2 : (upd F1 b (.lst xs)) a = some (.lst (as.map V.ref)) := by rw [upd_ne na]; exact g1.f a _ h1
  have inas : ∀ y, y ∈ as → ∃ o, F y = some o := fun y hy => by
    obtain ⟨m, hm⟩ := List.getElem?_of_mem hy
    have lm : m < cs.length := by have := (List.getElem?_eq_some_iff.mp hm).1; omega
    exact ⟨_, (h6 m y _ hm (List.getElem?_eq_getElem lm)).1⟩
  have q1 : a ∉ as ++ [b] := fun z => by
    rcases List.mem_append.mp z with z | z
    · exact h3 z
    · exact na (List.mem_singleton.mp z)
  have q2 : (as ++ [b]).Nodup := by
    rw [List.nodup_append]
    refine ⟨h4, by simp, fun y hy w hw => ?_⟩
    rw [List.mem_singleton.mp hw]
    obtain ⟨o, ho⟩ := inas y hy
    exact nb y o ho
  have q3 : ∀ (m : Nat) (b' : Addr) (c' : List V), (as ++ [b])[m]? = some b' → (cs ++ [xs])[m]? = some c' → (upd (upd F1 b (.lst xs)) a (.lst (as.map V.ref ++ [.ref b]))) b' = some (.lst c') ∧ Fs b' = none := fun m b' c' z1 z2 => by
    by_cases hm : m < as.length
    · rw [List.getElem?_append_left hm] at z1
      rw [List.getElem?_append_left (by omega)] at z2
      obtain ⟨y1, y2⟩ := h6 m b' c' z1 z2
      have n1 : b' ≠ a := fun z => h3 (by rw [← z]; exact List.mem_of_getElem? z1)
      exact ⟨by rw [upd_ne n1, upd_ne (nb b' _ y1)]; exact g1.f b' _ y1, y2⟩
    · have k0 : m = as.length := by
        have := (List.getElem?_eq_some_iff.mp z1).1
        rw [List.length_append, List.length_singleton] at this
        omega
      subst k0
      rw [List.getElem?_append_right (by omega)] at z1
      rw [h5, List.getElem?_append_right (by omega)] at z2
      have z1 : b = b' := by simpa using z1
      have z2 : xs = c' := by simpa using z2
      subst z1 z2
      exact ⟨by rw [upd_ne (Ne.symm na), upd_same], fsb⟩
  obtain ⟨G3, S3⟩ := sat_thaw (A' := dlA Fs (cs ++ [xs])) (zs := as.map V.ref ++ [.ref b]) x0 (g.trans g2) (S.gr g2) hr hF2 h2 oth ⟨_, e1, a, as ++ [b], rfl, by rw [upd_same, List.map_append]; rfl, h2, q1, q2, by rw [List.length_append, List.length_append, h5]; rfl, q3⟩
  exact ⟨a, as.map V.ref, .ref b, rfl, rfl, g1.h a _ (S.ex a _ h1), by rw [List.length_map, h5]; exact hz, F0, H0, _, x0, G3, S3, q⟩
/-- x[k].append(e), x.append(e), x[k].insert(z, e), as expressions -/
theorem pe_appIx (i : Nat) {x : Str} {px spos apos cpos : Pos} {ix e : Expr} {k : Nat} {w : V} (hk : EW X ix ρ (int (k : Int))) (he : EA X e ρ (sc w)) (hN : X.N[i]? = some x := by rfl) (hv : Vis X.env.scope x := by first | exact Or.inl rfl | exact Or.inr (Or.inl rfl) | exact Or.inr (Or.inr rfl)) (hd : (x == ("__debug__" : Str)) = false := by decide) (hcd : (x == ("__classdict__" : Str)) = false := by decide)
    (hp : PlainIx ix := by exact fun _ _ => rfl) (hbase : attributeBase (.Subscript (.Name x px) ix spos) "append" X.env (eval (.Subscript (.Name x px) ix spos) X.env) = eval (.Subscript (.Name x px) ix spos) X.env := by rfl)
    (hfew : ((backTo cpos (starEach [e] X.env)).all (fun x => !x.1) && (backToKw cpos (keywordEach [] X.env)).all (fun x => x.1.isSome) && decide ([e].length + ([] : List Keyword).length + (if ([] : List Keyword).isEmpty then 0 else 1) < 30)) = true := by rfl)
    (hline : (apos.endLine == cpos.line) = true := by rfl) (hs : starEach [e] X.env = (false, eval e X.env) :: starEach [] X.env := by rfl) (hplain : (backTo cpos (starEach [] X.env)).any (·.1) = false := by rfl) :
    PE X (.Call (.Attribute (.Subscript (.Name x px) ix spos) "append" apos) [e] [] cpos) (tBM X.K "list" rAppend (tOp (rIxL X.K) (tVar i) (tA ρ (int (k : Int)))) (tCons (tA ρ (sc w)) tNil)) :=
  pe_bm PySem.F.plainAttrs_list PySem.F.slot_list_append PySem.F.type_list_append mt_append (pe_ix ix_list (pe_var hN hv hd hcd) (sc_w hk) hp) (pa_cons he pa_nil hs) hbase hfew hline hs hplain
theorem pe_insIx (i : Nat) {x : Str} {px spos apos cpos : Pos} {ix e f : Expr} {k z : Nat} {w : V} (hk : EW X ix ρ (int (k : Int))) (he : EA X e ρ (int (z : Int))) (hf : EA X f ρ (sc w)) (hN : X.N[i]? = some x := by rfl) (hv : Vis X.env.scope x := by first | exact Or.inl rfl | exact Or.inr (Or.inl rfl) | exact Or.inr (Or.inr rfl)) (hd : (x == ("__debug__" : Str)) = false := by decide) (hcd : (x == ("__classdict__" : Str)) = false := by decide)
    (hp : PlainIx ix := by exact fun _ _ => rfl) (hbase : attributeBase (.Subscript (.Name x px) ix spos) "insert" X.env (eval (.Subscript (.Name x px) ix spos) X.env) = eval (.Subscript (.Name x px) ix spos) X.env := by rfl)
    (hfew : ((backTo cpos (starEach [e, f] X.env)).all (fun x => !x.1) && (backToKw cpos (keywordEach [] X.env)).all (fun x => x.1.isSome) && decide ([e, f].length + ([] : List Keyword).length + (if ([] : List Keyword).isEmpty then 0 else 1) < 30)) = true := by rfl)
    (hline : (apos.endLine == cpos.line) = true := by rfl) (hs : starEach [e, f] X.env = (false, eval e X.env) :: starEach [f] X.env := by rfl) (hs2 : starEach [f] X.env = (false, eval f X.env) :: starEach [] X.env := by rfl) (hplain : (backTo cpos (starEach [f] X.env)).any (·.1) = false := by rfl) :
    PE X (.Call (.Attribute (.Subscript (.Name x px) ix spos) "insert" apos) [e, f] [] cpos) (tBM X.K "list" rIns (tOp (rIxL X.K) (tVar i) (tA ρ (int (k : Int)))) (tCons (tA ρ (int (z : Int))) (tCons (tA ρ (sc w)) tNil))) :=
  pe_bm PySem.F.plainAttrs_list PySem.F.slot_list_insert PySem.F.type_list_insert mt_insert (pe_ix ix_list (pe_var hN hv hd hcd) (sc_w hk) hp) (pa_cons he (pa_cons hf pa_nil hs2) hs) hbase hfew hline hs hplain
theorem pe_appN (i : Nat) {x : Str} {px apos cpos : Pos} {e : Expr} {l : List As} (he : EN X e ρ l) (hN : X.N[i]? = some x := by rfl) (hv : Vis X.env.scope x := by first | exact Or.inl rfl | exact Or.inr (Or.inl rfl) | exact Or.inr (Or.inr rfl)) (hd : (x == ("__debug__" : Str)) = false := by decide) (hcd : (x == ("__classdict__" : Str)) = false := by decide)
    (hbase : attributeBase (.Name x px) "append" X.env (eval (.Name x px) X.env) = eval (.Name x px) X.env := by rfl)
    (hfew : ((backTo cpos (starEach [e] X.env)).all (fun x => !x.1) && (backToKw cpos (keywordEach [] X.env)).all (fun x => x.1.isSome) && decide ([e].length + ([] : List Keyword).length + (if ([] : List Keyword).isEmpty then 0 else 1) < 30)) = true := by rfl)
    (hline : (apos.endLine == cpos.line) = true := by rfl) (hs : starEach [e] X.env = (false, eval e X.env) :: starEach [] X.env := by rfl) (hplain : (backTo cpos (starEach [] X.env)).any (·.1) = false := by rfl) :
    PE X (.Call (.Attribute (.Name x px) "append" apos) [e] [] cpos) (tBM X.K "list" rAppend (tVar i) (tCons (tN ρ l) tNil)) :=
  pe_bm PySem.F.plainAttrs_list PySem.F.slot_list_append PySem.F.type_list_append mt_append (pe_var hN hv hd hcd) (pa_cons he pa_nil hs) hbase hfew hline hs hplain
end
/-! ### the other slots -/
inductive ThA (Fs : Hp) : List En → Prop
  | nil : ThA Fs []
  | no {ρ : List En} : ThA Fs ρ → ThA Fs (.no :: ρ)
  | at {A : As} {ρ : List En} : ThA Fs ρ → ThA Fs (.fr (atA Fs A) :: ρ)
  | nl {A : As} {ρ : List En} : NoLst A → ThA Fs ρ → ThA Fs (.fr A :: ρ)
inductive ThX (Fs : Hp) : Nat → List En → Prop
  | here {e : En} {ρ : List En} : ThA Fs ρ → ThX Fs 0 (e :: ρ)
  | no {i : Nat} {ρ : List En} : ThX Fs i ρ → ThX Fs (i + 1) (.no :: ρ)
  | at {i : Nat} {A : As} {ρ : List En} : ThX Fs i ρ → ThX Fs (i + 1) (.fr (atA Fs A) :: ρ)
  | nl {i : Nat} {A : As} {ρ : List En} : NoLst A → ThX Fs i ρ → ThX Fs (i + 1) (.fr A :: ρ)
theorem ThA.all {Fs : Hp} {ρ : List En} (h : ThA Fs ρ) : ∀ (j : Nat) (e : En), ρ[j]? = some e → Thw Fs e := by
  induction h with
  | nil => intro j e z; simp at z
  | no _ ih =>
    intro j e z
    cases j with
    | zero => exact .inl (by simpa using z.symm)
    | succ j => exact ih j e (by simpa using z)
  | «at» _ ih =>
    intro j e z
    cases j with
    | zero => exact .inr ⟨_, by simpa using z.symm, .inr ⟨_, rfl⟩⟩
    | succ j => exact ih j e (by simpa using z)
  | nl n _ ih =>
    intro j e z
    cases j with
    | zero => exact .inr ⟨_, by simpa using z.symm, .inl n⟩
    | succ j => exact ih j e (by simpa using z)
theorem ThX.oth {Fs : Hp} {i : Nat} {ρ : List En} (h : ThX Fs i ρ) : ∀ (j : Nat) (e : En), j ≠ i → ρ[j]? = some e → Thw Fs e := by
  induction h with
  | here h =>
    intro j e n z
    cases j with
    | zero => exact absurd rfl n
    | succ j => exact h.all j e (by simpa using z)
  | no _ ih =>
    intro j e n z
    cases j with
    | zero => exact .inl (by simpa using z.symm)
    | succ j => exact ih j e (by omega) (by simpa using z)
  | «at» _ ih =>
    intro j e n z
    cases j with
    | zero => exact .inr ⟨_, by simpa using z.symm, .inr ⟨_, rfl⟩⟩
    | succ j => exact ih j e (by omega) (by simpa using z)
  | nl nn _ ih =>
    intro j e n z
    cases j with
    | zero => exact .inr ⟨_, by simpa using z.symm, .inl nn⟩
    | succ j => exact ih j e (by omega) (by simpa using z)
end Lk

set_option Elab.async false
set_option linter.all false
set_option maxRecDepth 100000
set_option maxHeartbeats 4000000
namespace Kv
open PySem PySem.Calls L2 Lk
def topS (i : Nat) : Stmt := PySem.Challenge.pw_lookvoice_k03_relation_product.main.body.getD i (.Pass ⟨0, 0, 0, 0⟩)
/-! ### cells and digits -/
abbrev sCell : Stmt := (topS 13)
abbrev sDigits : Stmt := (topS 14)
theorem sc_cell : FnScope ["_law_script", "_law_k"] ["_law_script", "_law_k"] (defScope sCell) := ⟨rfl, rfl, rfl, by decide +kernel, rfl, by decide +kernel, by decide +kernel⟩
def cellA (ns : List Int) (k : Nat) : Int := ns.getD k 0
section
variable {P : Program} {w : World} {K : PySem.W.Frag} {mg : Str → Option Value} {base : Heap}
abbrev spCl (K : PySem.W.Frag) : Sp := spX (fun _ : List Int × Nat => True) (fun i => [scr K i.1, int (i.2 : Int)]) (fun i => int (cellA i.1 i.2))
theorem ok_cell {f : Addr} {fd : FuncData} (F : Fun K "_law_cell" "_law_cell" sCell f fd) (mL : mg "len" = none) : FnOk P w K mg base CX0 1 f fd ["_law_script", "_law_k"] (spCl K) := by
  refine fn_ok F sc_cell (fun _ _ => rfl) fun ⟨ns, k⟩ cdv B outer s H E _ hr => ?_
  refine ba_cons (sa_if (et_cm (ea_w (ea_var 1 rfl)) (ea_w (ea_lenScr (ea_w (ea_var 0 rfl)) mL)) cm_lt rfl) (fun h => ?_) (fun h => ?_))
  · have z : (k : Int) < (ns.length : Int) := of_decide_eq_true h
    have hk : k < ns.length := by omega
    refine ba_one (sa_ret (ea_is (ea_ixScr (ea_w (ea_var 0 rfl)) (ea_w (ea_var 1 rfl)) (List.getElem?_eq_getElem hk)) ?_))
    show int _ = int (ns.getD k 0)
    rw [List.getD_eq_getElem?_getD, List.getElem?_eq_getElem hk]
    rfl
  · have z : ¬ (k : Int) < (ns.length : Int) := of_decide_eq_false h
    have hk : ¬ k < ns.length := by omega
    refine ba_nil (ba_one (sa_ret (ea_is ea_int ?_)))
    show int 0 = int (ns.getD k 0)
    rw [List.getD_eq_getElem?_getD, List.getElem?_eq_none (by omega)]
    rfl
theorem sc_digits : FnScope ["_law_script", "_law_k", "_law_count", "_law_cell_here", "_law_rest", "_law_row", "_law_j", "_law_mixed"] ["_law_script", "_law_k", "_law_count"] (defScope sDigits) := ⟨rfl, rfl, rfl, by decide +kernel, rfl, by decide +kernel, by decide +kernel⟩
def Digs (n : Nat) (ds : List Int) : Prop := ds.length = n ∧ ∀ d ∈ ds, 0 ≤ d ∧ d < 12
abbrev digsA (n : Nat) : As := exA (Digs n) (fun ds => lstA (ds.map int))
abbrev spDigits (K : PySem.W.Frag) : Sp := spX (fun i : List Int × Nat × Nat => i.2.1 ≤ 1000 ∧ i.2.2 ≤ 1000) (fun i => [scr K i.1, int (i.2.1 : Int), int (i.2.2 : Int)]) (fun i => digsA i.2.2)
theorem ok_digits {f : Addr} {fd : FuncData} (F : Fun K "_law_digits" "_law_digits" sDigits f fd) (mI : mg "int" = none) (mR : mg "range" = none) (DC : Df P w K mg base 1 "_law_cell" ["_law_script", "_law_k"] (spCl K)) : FnOk P w K mg base CX0 2 f fd ["_law_script", "_law_k", "_law_count"] (spDigits K) := by
  refine fn_ok F sc_digits (fun _ _ => rfl) fun ⟨ns, k, n⟩ cdv B outer s H E ⟨hk, hn⟩ hr => ?_
  have nd := sc_digits.nd
  have hk : k ≤ 1000 := hk
  have hn : n ≤ 1000 := hn
  refine ba_cons (sa_set 3 nd (ea_call DC hr (ns, k) trivial (eas_cons (ea_var 0 rfl) (eas_cons (ea_var 1 rfl) eas_nil))) ?_)
  refine ba_cons (sa_set 4 nd (ea_var 3 rfl) ?_)
  -- if cell < 10 ** 18: rest = 0
  refine ba_cons (sa_nx (Mid := fun ρ' => ∃ r : Int, ρ' = [.fr (scr K ns), .fr (int (k : Int)), .fr (int (n : Int)), .fr (int (cellA ns k)), .fr (int r), .no, .no, .no]) (sa_if (et_cm (ea_w (ea_var 3 rfl)) (ea_w (ea_pow (ea_w ea_int) (ea_w ea_int) ⟨by decide, by decide, by decide⟩)) cm_lt rfl) (fun h => ?_) (fun h => ?_)) ?_)
  · exact ba_one (sa_set 4 nd ea_int ⟨0, rfl⟩)
  · exact ba_nil ⟨cellA ns k, rfl⟩
  rintro ρ' ⟨r, rfl⟩
  refine ba_cons (sa_setN 5 nd (en_lst eas_nil (Nat.zero_le _)) ?_)
  refine ba_cons (sa_forR 6 (fun i ρ' => ∃ (r : Int) (ds : List Int), Digs i ds ∧ ρ' = [.fr (scr K ns), .fr (int (k : Int)), .fr (int (n : Int)), .fr (int (cellA ns k)), .fr (int r), .own (ds.map int), .no, .no]) PassesOwn.never rfl nd mR (ea_w (ea_var 2 rfl)) ⟨by omega, by omega⟩ ?h0 ?hs ?hd)
  case h0 => exact ⟨_, ⟨r, [], ⟨rfl, by simp⟩, rfl⟩, .same (.same (.same (.same (.same (.same (.same (.same .nil)))))))⟩
  case hs =>
    rintro i ρ' hi ⟨r, ds, hD, rfl⟩
    have hi : i < n := by simpa using hi
    have app : ∀ d : Int, 0 ≤ d ∧ d < 12 → Digs (i + 1) (ds ++ [d]) := fun d hd => ⟨by rw [List.length_append, hD.1]; rfl, fun x hx => by
      rcases List.mem_append.mp hx with h | h
      · exact hD.2 x h
      · rw [List.mem_singleton.mp h]
        exact hd⟩
    have hlen : (ds.map int).length < sizeLine := by
      rw [List.length_map, hD.1, sizeLine_eq]
      omega
    have em : ∀ z n : Int, 0 < n → 0 ≤ z % n ∧ z % n < n := fun z n h => ⟨Int.emod_nonneg _ (by omega), Int.emod_lt_of_pos _ h⟩
    refine ba_one (sa_if (et_cm (ea_w (ea_var 4 rfl)) (ea_w ea_int) cm_gt rfl) (fun h => ?_) (fun h => ?_))
    · refine ba_cons (sa_app 5 rfl (pe_app 5 (ea_mod (ea_w (ea_int1 (ea_w (ea_var 4 rfl)) mI)) (ea_w ea_int) (by decide))) hlen ?_)
      refine ba_one (sa_set 4 nd (ea_fdiv (ea_w (ea_var 4 rfl)) (ea_w ea_int) ⟨by decide, by decide⟩) ?_)
      exact ⟨_, ⟨r / 12, ds ++ [r % 12], app _ (em r 12 (by decide)), rfl⟩, by rw [List.map_append]; exact .same (.same (.same (.same (.same (.same (.no (.same .nil)))))))⟩
    · refine ba_cons (sa_set 7 nd (ea_rng 0 2147483647 (ea_mod (ea_w (ea_int1 (ea_w (ea_mul (ea_w (ea_var 3 rfl)) (ea_w (ea_add (ea_w (ea_add (ea_w ea_int) (ea_w (ea_mul (ea_w ea_int) (ea_w (ea_var 6 rfl)) (.inl ⟨by decide, by decide⟩))))) (ea_w (ea_mul (ea_w ea_int) (ea_w (ea_var 1 rfl)) (.inl ⟨by decide, by decide⟩))))) (.inr ⟨by omega, by omega⟩))) mI)) (ea_w ea_int) (by decide)) (em _ _ (by decide))) ?_)
      refine ba_ex (i := 7) rfl fun m hm => ?_
      refine ba_cons (sa_set 7 nd (ea_rng 0 1000003 (ea_mod (ea_w (ea_int1 (ea_w (ea_add (ea_w (ea_mul (ea_w (ea_var 7 rfl)) (ea_w (ea_var 7 rfl)) (.inl ⟨by omega, by omega⟩))) (ea_w (ea_mul (ea_w ea_int) (ea_w (ea_var 7 rfl)) (.inl ⟨by decide, by decide⟩))))) mI)) (ea_w ea_int) (by decide)) (em _ _ (by decide))) ?_)
      refine ba_ex (i := 7) rfl fun m2 hm2 => ?_
      refine ba_one (sa_app 5 rfl (pe_app 5 (ea_mod (ea_w (ea_int1 (ea_w (ea_fdiv (ea_w (ea_var 7 rfl)) (ea_w ea_int) ⟨by decide, by decide⟩)) mI)) (ea_w ea_int) (by decide))) hlen ?_)
      exact ⟨_, ⟨r, ds ++ [_], app _ (em (m2 / 11) 12 (by decide)), rfl⟩, by rw [List.map_append]; exact .same (.same (.same (.same (.same (.same (.no (.no .nil)))))))⟩
  case hd =>
    rintro ρ' ⟨r, ds, hD, rfl⟩
    refine ba_free (i := 5) rfl (ba_one (sa_ret (ea_imp (ea_var 5 rfl) fun F v hv => ⟨ds, ?_, hv⟩)))
    simpa using hD
theorem dig {n : Nat} {ds : List Int} (h : Digs n ds) {i : Nat} (hi : i < n) : (ds.map int)[i]? = some (int (ds.getD i 0)) := by
  have hl : i < ds.length := by rw [h.1]; exact hi
  rw [List.getElem?_map, List.getD_eq_getElem?_getD, List.getElem?_eq_getElem hl]
  rfl
theorem digb {n : Nat} {ds : List Int} (h : Digs n ds) (i : Nat) : 0 ≤ ds.getD i 0 ∧ ds.getD i 0 < 12 := by
  by_cases hl : i < ds.length
  · rw [List.getD_eq_getElem?_getD, List.getElem?_eq_getElem hl]
    exact h.2 _ (List.getElem_mem hl)
  · rw [List.getD_eq_getElem?_getD, List.getElem?_eq_none (by omega)]
    decide
end
end Kv

set_option Elab.async false
set_option linter.all false
set_option maxRecDepth 100000
set_option maxHeartbeats 4000000
namespace Kv
open PySem PySem.Calls L2 Lk
/-! ### rows of places -/
def asc (n : Nat) (p : Nat → Bool) : List Nat := (List.range n).filter p
theorem asc_pw (n : Nat) (p : Nat → Bool) : (asc n p).Pairwise (· < ·) := List.Pairwise.filter p List.pairwise_lt_range
theorem asc_nd (n : Nat) (p : Nat → Bool) : (asc n p).Nodup := (asc_pw n p).imp fun h => Nat.ne_of_lt h
theorem asc_mem {n : Nat} {p : Nat → Bool} {k : Nat} : k ∈ asc n p ↔ k < n ∧ p k = true := by
  unfold asc
  rw [List.mem_filter, List.mem_range]
theorem asc_len (n : Nat) (p : Nat → Bool) : (asc n p).length ≤ n := by
  have z := List.length_filter_le p (List.range n)
  rwa [List.length_range] at z
theorem asc_congr {n : Nat} {p q : Nat → Bool} (h : ∀ k, k < n → p k = q k) : asc n p = asc n q := List.filter_congr fun k hk => h k (List.mem_range.mp hk)
abbrev natsT (l : List Nat) : As := tupA (l.map nat)
def rowsA (n : Nat) (R : Nat → Nat → Bool) : As := tupA ((List.range n).map fun p => natsT (asc n (R p)))
def relF (n : Nat) (R : Nat → Nat → Bool) : List (Str × As) := [("size", nat n), ("rows", rowsA n R)]
def relA (C : Addr) (n : Nat) (R : Nat → Nat → Bool) : As := insA C (relF n R)
theorem rowsA_congr {n : Nat} {R S : Nat → Nat → Bool} (h : ∀ p q, p < n → q < n → R p q = S p q) : rowsA n R = rowsA n S := by
  unfold rowsA
  congr 1
  refine List.map_congr_left fun p hp => ?_
  rw [asc_congr fun k hk => h p k (List.mem_range.mp hp) hk]
theorem relA_congr {C : Addr} {n : Nat} {R S : Nat → Nat → Bool} (h : ∀ p q, p < n → q < n → R p q = S p q) : relA C n R = relA C n S := by
  unfold relA relF
  rw [rowsA_congr h]
/-- places of a relation of size n -/
def InR (n : Nat) (ns : List Int) : Prop := ∀ x ∈ ns, 0 ≤ x ∧ x < (n : Int)
instance (n : Nat) (ns : List Int) : Decidable (InR n ns) := by unfold InR; infer_instance
def hasI (ns : List Int) (k : Nat) : Bool := decide ((k : Int) ∈ ns)
/-- the first place out of range -/
def badOf (n : Nat) (ns : List Int) : Option Int := ns.find? fun x => !(decide (0 ≤ x) && decide (x < (n : Int)))
theorem badOf_none {n : Nat} {ns : List Int} : badOf n ns = none ↔ InR n ns := by
  unfold badOf InR
  rw [List.find?_eq_none]
  refine ⟨fun h x hx => ?_, fun h x hx => ?_⟩
  · have z := h x hx
    simp only [Bool.not_eq_true', Bool.not_eq_true, Bool.not_eq_false', Bool.and_eq_true, decide_eq_true_eq] at z
    simpa using z
  · obtain ⟨h1, h2⟩ := h x hx
    rw [decide_eq_true h1, decide_eq_true h2]
    decide
theorem asc_once {n : Nat} {ns : List Int} (h : InR n ns) : ((asc n (hasI ns)).map fun k : Nat => (k : Int)).Perm (onceF ns) := by
  refine (List.perm_ext_iff_of_nodup ?_ (onceF_nodup ns)).mpr fun x => ?_
  · rw [List.nodup_iff_pairwise_ne, List.pairwise_map]
    refine (List.nodup_iff_pairwise_ne.mp (asc_nd n _)).imp fun h e => h (by omega)
  · rw [onceF_mem, List.mem_map]
    constructor
    · rintro ⟨k, hk, rfl⟩
      exact of_decide_eq_true (asc_mem.mp hk).2
    · intro hx
      obtain ⟨h1, h2⟩ := h x hx
      exact ⟨x.toNat, asc_mem.mpr ⟨by omega, decide_eq_true (by rw [Int.toNat_of_nonneg h1]; exact hx)⟩, Int.toNat_of_nonneg h1⟩
theorem asc_le (n : Nat) (p : Nat → Bool) : ((asc n p).map fun k : Nat => (k : Int)).Pairwise (· ≤ ·) := by
  rw [List.pairwise_map]
  exact (asc_pw n p).imp fun h => by omega
section
variable {P : Program} {w : World} {K : PySem.W.Frag} {mg : Str → Option Value} {base : Heap}
/-! ### ascending -/
abbrev sAsc : Stmt := (topS 6)
abbrev nAsc : List Str := ["places", "once", "place"]
theorem sc_asc : FnScope nAsc ["places"] (defScope sAsc) := ⟨rfl, rfl, rfl, by decide +kernel, rfl, by decide +kernel, by decide +kernel⟩
abbrev spAsc : Sp := spX (fun i : Bool × List Int × Nat => InR i.2.2 i.2.1 ∧ i.2.1.length < 1000000) (fun i => [sq i.1 (i.2.1.map int)]) (fun i => natsT (asc i.2.2 (hasI i.2.1)))
theorem ok_asc {f : Addr} {fd : FuncData} (F : Fun K "ascending" "ascending" sAsc f fd) (mI : mg "int" = none) (mT : mg "tuple" = none) (mS : mg "sorted" = none) : FnOk P w K mg base CX0 1 f fd ["places"] spAsc := by
  refine fn_ok F sc_asc (fun _ _ => rfl) fun ⟨q, ns, n⟩ cdv B outer s H E ⟨hR, hl⟩ hr => ?_
  have nd := sc_asc.nd
  have hl : ns.length < 1000000 := hl
  have hz : ns.length < sizeLine := by rw [sizeLine_eq]; omega
  refine ba_cons (sa_setDc (own := [("place", 2)]) (l := ns) (enc := int) (p := fun _ => true) (kf := fun a => a) (g := fun _ => bl true) 1 2 rfl nd (es_sq (ea_var 0 rfl)) hz (blkOk_by (N := nAsc) (sc := defScope sAsc) (by decide +kernel)) (fun _ _ _ _ _ => pg_name nd rfl (Or.inl rfl)) (fun _ _ _ _ _ _ _ => pts_yes) (fun _ _ _ _ _ a _ _ => ea_var 2 rfl) (fun _ _ _ _ _ a _ _ => ea_bl) ?_)
  rw [flt_all]
  have keys : (dcA ns (fun a => a) fun _ => bl true).map Prod.fst = onceF ns := by rw [dcA_fst, List.map_id']
  have lk : (dcA ns (fun a => a) fun _ => bl true).length < sizeLine := by
    have z := dcA_len (fun a => a) (fun _ => bl true) ns []
    have z2 : (dcA ns (fun a => a) fun _ => bl true).length ≤ ns.length := by simpa [dcA] using z
    omega
  refine ba_one (sa_ret (ea_tupleL (el_is (en_l (en_sorted (ns := onceF ns) (ys := (asc n (hasI ns)).map fun k : Nat => (k : Int)) (en_l (en_is (en_lcKeys (own := [("place", 2)]) (l := dcA ns (fun a => a) fun _ => bl true) (g := fun k => V.int k) (n := 3) 1 2 rfl nd rfl rfl lk (blkOk_by (N := nAsc) (sc := defScope sAsc) (by decide +kernel)) (fun _ _ _ _ _ => pg_name nd rfl (Or.inl rfl)) (fun _ _ _ _ _ a => ea_int1 (ea_w (ea_var 2 rfl)) mI)) (by rw [keys]))) (asc_once hR) (asc_le _ _) mS)) (by rw [List.map_map]; rfl)) mT))
/-! ### require_places -/
abbrev sRqp : Stmt := (topS 7)
abbrev nRqp : List Str := ["places", "size", "place"]
theorem sc_rqp : FnScope nRqp ["places", "size"] (defScope sRqp) := ⟨rfl, rfl, rfl, by decide +kernel, rfl, by decide +kernel, by decide +kernel⟩
abbrev okBig (i : Int) : Prop := i.natAbs.log2 < 1000
abbrev erPl (CP : Addr) (i : Int) : ErP := erX CP [("place", int i)]
def ocPl (CP : Addr) (n : Nat) (ns : List Int) : Oc := match badOf n ns with
  | none => .ret non
  | some x => .exc (erPl CP x)
abbrev spRqp (CP : Addr) : Sp := spO (fun i : Bool × List Int × Nat => ∀ x ∈ i.2.1, okBig x) (fun i => [sq i.1 (i.2.1.map int), nat i.2.2]) (fun i => ocPl CP i.2.2 i.2.1)
abbrev EPl (P : Program) (w : World) (K : PySem.W.Frag) (mg : Str → Option Value) (base : Heap) (CP : Addr) : Prop := Er1 P w K mg base 1 "BadPlace" CP "place" okBig int int
theorem ok_rqp {CP f : Addr} {fd : FuncData} (F : Fun K "require_places" "require_places" sRqp f fd) (T : EPl P w K mg base CP) : FnOk P w K mg base (L2.CX P w) 3 f fd ["places", "size"] (spRqp CP) := by
  refine fn_okX F sc_rqp (fun _ _ => rfl) fun ⟨q, ns, n⟩ cdv B outer s H E hb hr tk po => ?_
  have nd := sc_rqp.nd
  let ρ0 : List En := [.fr (sq q (ns.map int)), .fr (nat n), .no]
  refine ba_one (sa_forS (l := ns.map int) 2 (fun i ρ' => badOf n (ns.take i) = none ∧ ρ' = ρ0) po rfl nd (es_sq (ea_var 0 rfl)) ⟨_, ⟨rfl, rfl⟩, Le.refl _⟩ ?hs ?hd)
  case hs =>
    rintro i A ρ' hi ⟨hbad, rfl⟩
    rw [List.getElem?_map] at hi
    cases e : ns[i]? with
    | none => rw [e] at hi; cases hi
    | some x =>
      rw [e] at hi
      have hi : int x = A := by simpa using hi
      subst hi
      have tk1 : ns.take (i + 1) = ns.take i ++ [x] := by rw [List.take_add_one, e]; rfl
      refine ba_one (sa_if (et_not (et_chainLeLt (ea_w ea_int) (ea_w (ea_var 2 rfl)) (ea_w (ea_var 1 rfl)) rfl)) (fun h => ?_) (fun h => ?_))
      · refine ba_one (sa_raise1 T rfl hr tk x (hb x (List.mem_of_getElem? e)) (ea_var 2 rfl) fun F cls d he => ?_)
        have ha : badOf n ns = some x := by
          have hs : ns = ns.take i ++ x :: ns.drop (i + 1) := by
            obtain ⟨hl, hx⟩ := List.getElem?_eq_some_iff.mp e
            rw [← hx, ← List.drop_eq_getElem_cons hl, List.take_append_drop]
          rw [hs]
          unfold badOf at hbad ⊢
          rw [List.find?_append, hbad, List.find?_cons, h]
          rfl
        show (ocPl CP n ns).E F cls d
        unfold ocPl
        rw [ha]
        exact he
      · refine ba_nil ⟨ρ0, ⟨?_, rfl⟩, .same (.same (.no .nil))⟩
        rw [tk1]
        unfold badOf at hbad ⊢
        rw [List.find?_append, hbad, List.find?_cons, h]
        rfl
  case hd =>
    rintro ρ' ⟨hbad, rfl⟩ F
    rw [List.length_map, List.take_length] at hbad
    show (ocPl CP n ns).R.p F .non
    unfold ocPl
    rw [hbad]
    rfl
end
end Kv

set_option Elab.async false
set_option linter.all false
set_option maxRecDepth 100000
set_option maxHeartbeats 4000000
namespace Kv
open PySem PySem.Calls L2 Lk
theorem sat_re {H0 H0' F H H' : Hp} {σ : L2.St} {ρ : List En} (S : Sat H0 F σ H ρ) (no : ∀ (i : Nat) (l : List As), ρ[i]? ≠ some (.own l)) (ex : Ex F H') : Sat H0' F σ H' ρ :=
  ⟨ex, S.fr, fun i l e => absurd e (no i l), fun i j l m p e => absurd e (no i l), S.len⟩
/-- what an own class of relations must say -/
structure RTx (K : PySem.W.Frag) (C : Addr) : Prop where
  cl : Cls K C
  nS : NoAttr K C "size"
  nR : NoAttr K C "rows"
/-! ### Relation(rows) -/
def firstBad (n : Nat) (rs : List (List Int)) : Option Int := rs.findSome? (badOf n)
def ocRel (C CP : Addr) (rs : List (List Int)) : Oc := match firstBad rs.length rs with
  | none => .ret (relA C rs.length fun p q => hasI (rs.getD p []) q)
  | some x => .exc (erPl CP x)
structure RelOk (rs : List (List Int)) : Prop where
  n : rs.length < 100000
  r : ∀ r ∈ rs, r.length < 100000 ∧ ∀ x ∈ r, okBig x
abbrev rowsIn (b c : Bool) (rs : List (List Int)) : As := sq b (rs.map fun r => sq c (r.map int))
abbrev spRelI (C CP : Addr) : Sp := spMO C (fun i : Bool × Bool × List (List Int) => RelOk i.2.2) (fun i => [rowsIn i.1 i.2.1 i.2.2]) (fun i => ocRel C CP i.2.2)
abbrev sRelI : Stmt := (inClass (topS 11) 0)
abbrev nRelI : List Str := ["self", "rows", "row"]
theorem sc_relI : FnScope nRelI ["self", "rows"] (defScope sRelI) := ⟨rfl, rfl, rfl, by decide +kernel, rfl, by decide +kernel, by decide +kernel⟩
theorem rows_are (n : Nat) (rs : List (List Int)) (h : rs.length = n) : (rs.map fun r => natsT (asc n (hasI r))) = (List.range n).map fun p => natsT (asc n fun q => hasI (rs.getD p []) q) := by
  refine List.ext_getElem (by rw [List.length_map, List.length_map, List.length_range, h]) fun i h1 h2 => ?_
  rw [List.length_map] at h1
  rw [List.getElem_map, List.getElem_map, List.getElem_range, List.getD_eq_getElem?_getD, List.getElem?_eq_getElem h1]
  rfl
section
variable {P : Program} {w : World} {K : PySem.W.Frag} {mg : Str → Option Value} {base : Heap} {C CP : Addr}
theorem ok_relI {f : Addr} {fd : FuncData} (F : Fun K "__init__" "Relation.__init__" sRelI f fd) (T : RTx K C) (mL : mg "len" = none) (mT : mg "tuple" = none) (DA : Df P w K mg base 1 "ascending" ["places"] spAsc) (DR : DfX P w K mg base 3 "require_places" ["places", "size"] (spRqp CP)) : FnOk P w K mg base (L2.CX P w) 4 f fd ["self", "rows"] (spRelI C CP) := by
  refine F.okX sc_relI (fun vs H Q E h => ?_) (fun cdv A outer s H vs Q E hr h => ?_)
  · obtain ⟨i, _, H1, F1, p, dx, as, rfl, _, _, _, _, _, hv, _⟩ := h
    rw [List.length_cons, hv.length]
    rfl
  · obtain ⟨⟨b, c, rs⟩, hok, H1, F1, p, dx, as, rfl, rfl, hp, hdx, hne, ex, hall, q, qe⟩ := h
    have hok : RelOk rs := hok
    have nd := sc_relI.nd
    have tk : Takes (cxOf (L2.CX P w) P w K mg base nRelI "Relation.__init__" (defScope sRelI) f cdv A outer s (upd (upd H1 dx (.own p)) p (.ins C dx [])) E) (fun cls d _ H => E cls d H) := takes_of rfl rfl rfl rfl
    have po : PassesOwn (model P w) (A.deeper (PyProof.Rows.envOfC "Relation.__init__" (defScope sRelI) s.heap.objs.size f cdv)) (PyProof.Rows.envOfC "Relation.__init__" (defScope sRelI) s.heap.objs.size f cdv) (cxOf (L2.CX P w) P w K mg base nRelI "Relation.__init__" (defScope sRelI) f cdv A outer s (upd (upd H1 dx (.own p)) p (.ins C dx [])) E).xe := passes_of (X := cxOf (L2.CX P w) P w K mg base nRelI "Relation.__init__" (defScope sRelI) f cdv A outer s (upd (upd H1 dx (.own p)) p (.ins C dx [])) E) rfl
    obtain ⟨av, rfl, hav⟩ : ∃ v, as = [v] ∧ (rowsIn b c rs).p F1 v := by
      match as, hall with
      | [v], ⟨h, _⟩ => exact ⟨v, rfl, h⟩
    let ρ0 : List En := [.fr (sc (.ref p)), .fr (rowsIn b c rs), .no]
    have noOwn : ∀ (i : Nat) (l : List As), ρ0[i]? ≠ some (.own l) := fun i l e => by
      match i, e with
      | 0, e => simp [ρ0] at e
      | 1, e => simp [ρ0] at e
      | 2, e => simp [ρ0] at e
      | n + 3, e => simp [ρ0] at e
    have n1 : rs.length < sizeLine := by rw [sizeLine_eq]; have := hok.n; omega
    let W : Wn := { R := ⟨fun _ _ => False, fun _ h => h⟩, er := fun _ => (ocRel C CP rs).E, wx := fun cls d _ H => E cls d H }
    have s1 : SA (cxOf (L2.CX P w) P w K mg base nRelI "Relation.__init__" (defScope sRelI) f cdv A outer s (upd (upd H1 dx (.own p)) p (.ins C dx [])) E) ((defBody sRelI).getD 0 (.Pass ⟨0, 0, 0, 0⟩)) ρ0 (fun ρ' => firstBad rs.length rs = none ∧ ρ' = ρ0) W := by
      refine sa_forS (l := rs.map fun r => sq c (r.map int)) 2 (fun i ρ' => firstBad rs.length (rs.take i) = none ∧ ρ' = ρ0) po rfl nd (es_sq (ea_var 1 rfl)) ⟨_, ⟨rfl, rfl⟩, Le.refl _⟩ ?hs ?hd
      case hs =>
        rintro i A' ρ' hi ⟨hbad, rfl⟩
        rw [List.getElem?_map] at hi
        cases e : rs[i]? with
        | none => rw [e] at hi; cases hi
        | some r =>
          rw [e] at hi
          have hi : sq c (r.map int) = A' := by simpa using hi
          subst hi
          have hr1 := hok.r r (List.mem_of_getElem? e)
          have tk1 : rs.take (i + 1) = rs.take i ++ [r] := by rw [List.take_add_one, e]; rfl
          have hs : rs = rs.take i ++ r :: rs.drop (i + 1) := by
            obtain ⟨hl, hx⟩ := List.getElem?_eq_some_iff.mp e
            rw [← hx, ← List.drop_eq_getElem_cons hl, List.take_append_drop]
          refine ba_one (sa_exprX (o1 := ocPl CP rs.length r) (ex_call DR hr tk (c, r, rs.length) hr1.2 (eas_cons (ea_var 2 rfl) (eas_cons (ea_is (ea_lenSq (ea_var 1 rfl) mL) (by rw [List.length_map])) eas_nil))) (fun F cls d he => ?_) fun ⟨F, v, hv⟩ => ?_)
          · show (ocRel C CP rs).E F cls d
            unfold ocPl at he
            cases hb : badOf rs.length r with
            | none => rw [hb] at he; exact he.elim
            | some x =>
              rw [hb] at he
              have z : firstBad rs.length rs = some x := by
                have z2 : firstBad rs.length (rs.take i ++ r :: rs.drop (i + 1)) = some x := by
                  unfold firstBad at hbad ⊢
                  rw [List.findSome?_append, hbad, List.findSome?_cons, hb]
                  rfl
                rw [← hs] at z2
                exact z2
              unfold ocRel
              rw [z]
              exact he
          · have hb : badOf rs.length r = none := by
              cases hb : badOf rs.length r with
              | none => rfl
              | some x =>
                unfold ocPl at hv
                rw [hb] at hv
                exact hv.elim
            refine ⟨ρ0, ⟨?_, rfl⟩, .same (.same (.no .nil))⟩
            rw [tk1]
            unfold firstBad at hbad ⊢
            rw [List.findSome?_append, hbad, List.findSome?_cons, hb]
            rfl
      case hd =>
        rintro ρ' ⟨hbad, rfl⟩
        rw [List.length_map, List.take_length] at hbad
        exact ⟨hbad, rfl⟩
    have x0 : Ex H1 (upd (upd H1 dx (.own p)) p (.ins C dx [])) := fun a o z => by
      rw [upd_ne (ne_of_none z hp), upd_ne (ne_of_none z hdx)]
      exact z
    have hp0 : upd (upd H1 dx (.own p)) p (.ins C dx []) p = some (.ins C dx []) := upd_same
    have f1p : F1 p = none := ex.none hp
    generalize hH : upd (upd H1 dx (.own p)) p (.ins C dx []) = H at x0 hp0 s1 tk po
    have S0 : Sat H F1 (L2.start nRelI [.ref p, av]) H ρ0 := by
      refine ⟨ex.trans x0, fun i A' e' => ?_, fun i l e' => absurd e' (noOwn i l), fun i j l m p e' => absurd e' (noOwn i l), rfl⟩
      match i, e' with
      | 0, e' =>
        have e' : sc (.ref p) = A' := by simpa [ρ0] using e'
        subst e'
        exact ⟨.ref p, rfl, rfl⟩
      | 1, e' =>
        have e' : rowsIn b c rs = A' := by simpa [ρ0] using e'
        subst e'
        exact ⟨av, rfl, hav⟩
      | 2, e' => simp [ρ0] at e'
      | n + 3, e' => simp [ρ0] at e'
    have erq : ∀ cls d ρ' σ' H' F', W.er ρ' F' cls d → Gr F1 H F' H' → Sat H F' σ' H' ρ' → W.wx cls d σ' H' := fun cls d ρ' σ' H' F' he g S => qe cls d H' F' ⟨g.f, x0.trans g.h, g.i, fun a o z1 z2 => g.n a o (x0 a o z1) z2⟩ he
    cases hbad : firstBad rs.length rs with
    | some x => exact ⟨_, pss_cons s1 (⟨fun pins s σ H D I h => h.elim⟩ : PSs _ _ (fun _ _ _ => False)), F1, H, F1, .refl (ex.trans x0), S0, fun ρ' σ' H' F' hn _ _ => (by rw [hbad] at hn; cases hn.1), fun v H' F' g z => z.elim, fun _ _ _ _ z => z.elim, fun _ _ _ _ z => z.elim, erq⟩
    | none =>
    have hin : ∀ r ∈ rs, InR rs.length r := fun r hrm => by
      have z := hbad
      unfold firstBad at z
      rw [List.findSome?_eq_none_iff] at z
      exact badOf_none.mp (z r hrm)
    refine ⟨_, pss_cons s1 (pss_cons (ps_fld (pv 0) (ea_is (B := nat rs.length) (ea_lenSq (ρ := ρ0) (ea_var 1 rfl) mL) (by rw [List.length_map])) rfl)
      (pss_one (ps_fld (pv 0) (ea_tupleL (ρ := ρ0) (l := rs.map fun r => natsT (asc rs.length (hasI r))) ?lc mT) rfl))), F1, H, F1, .refl (ex.trans x0), S0, ?nx, ?rt, ?bk, ?ct, ?er⟩
    case rt => exact fun v H' F' g z => z.elim
    case bk => exact fun _ _ _ _ z => z.elim
    case ct => exact fun _ _ _ _ z => z.elim
    case er => exact erq
    case lc => exact en_l (en_lcSA (own := [("row", 2)]) (enc := fun r => sq c (r.map int)) 2 rfl nd (es_sq (ea_var 1 rfl)) n1 (blkOk_by (N := nRelI) (sc := defScope sRelI) (by decide +kernel)) (fun _ _ _ _ _ => pg_name nd rfl (Or.inl rfl)) fun _ _ _ _ _ r hrm => by
      have hl : r.length < 1000000 := by have := (hok.r r hrm).1; omega
      exact ea_callB DA (hr.mono (show 1 ≤ 3 by decide)) (c, r, rs.length) ⟨hin r hrm, hl⟩ rfl (eas_cons (ea_var 2 rfl) eas_nil))
    case nx =>
      rintro ρ' σ' H' F' ⟨hgood, rfl⟩ g' S'
      obtain ⟨v0, hv0, e0⟩ := S'.fr 0 (sc (.ref p)) rfl
      have e0 : v0 = .ref p := e0
      subst e0
      refine ⟨H, F', S', fun v Ha Fa ga hv => ⟨_, hv0, p, C, dx, [], rfl, ga.h p _ (g'.h p _ hp0), T.cl, T.nS, (by show 0 < 1000; decide), ?_⟩⟩
      have hv : v = .int (rs.length : Int) := hv
      subst hv
      have ha := ga.h p _ (g'.h p _ hp0)
      have fap : Fa p = none := ga.n p _ (g'.h p _ hp0) (g'.n p _ hp0 f1p)
      have hb : upd Ha p (.ins C dx (putF "size" (.int (rs.length : Int)) [])) p = some (.ins C dx [("size", .int (rs.length : Int))]) := upd_same
      have xb : Ex Fa (upd Ha p (.ins C dx (putF "size" (.int (rs.length : Int)) []))) := fun a o z => by
        rw [upd_ne (ne_of_none z fap)]
        exact ga.i a o z
      have hne2 : ∀ b o, b ≠ p → Ha b = some o → upd Ha p (.ins C dx (putF "size" (.int (rs.length : Int)) [])) b = some o := fun b o z h => by
        rw [upd_ne z]
        exact h
      generalize upd Ha p (.ins C dx (putF "size" (.int (rs.length : Int)) [])) = Hb at hb xb hne2
      have Sb : Sat Hb Fa σ' Hb ρ0 := sat_re (S'.gr ga) noOwn xb
      refine ⟨Hb, Fa, Sb, fun v Hc Fc gc hv2 => ⟨_, hv0, p, C, dx, _, rfl, gc.h p _ hb, T.cl, T.nR, (by show 1 < 1000; decide), ?_⟩⟩
      have fcp : Fc p = none := gc.n p _ hb fap
      have x1 : ∀ b o, H1 b = some o → b ≠ p := fun b o z => ne_of_none z hp
      refine q _ (upd Fc p (.ins C dx [("size", .int (rs.length : Int)), ("rows", v)])) ⟨fun b o z => ?_, fun b o z => ?_, fun b o z => ?_, fun b o z1 z2 => ?_⟩ ?_
      · rw [upd_ne (ne_of_none z f1p)]
        exact gc.f b o (ga.f b o (g'.f b o z))
      · rw [upd_ne (x1 b o z)]
        exact gc.h b o (hne2 b o (x1 b o z) (ga.h b o (g'.h b o (x0 b o z))))
      · by_cases hbp : b = p
        · subst hbp
          rw [upd_same] at z ⊢
          exact z
        · rw [upd_ne hbp] at z ⊢
          exact gc.i b o z
      · have y := x1 b o z1
        rw [upd_ne y]
        exact gc.n b o (hne2 b o y (ga.h b o (g'.h b o (x0 b o z1)))) (ga.n b o (g'.h b o (x0 b o z1)) (g'.n b o (x0 b o z1) z2))
      · show (ocRel C CP rs).R.p _ _
        unfold ocRel
        rw [hgood]
        refine ⟨p, dx, [.int (rs.length : Int), v], rfl, upd_same, rfl, ?_, trivial⟩
        have e2 : tupA (rs.map fun r => natsT (asc rs.length (hasI r))) = rowsA rs.length fun p q => hasI (rs.getD p []) q := by
          unfold rowsA
          rw [rows_are rs.length rs rfl]
        rw [e2] at hv2
        exact (rowsA rs.length fun p q => hasI (rs.getD p []) q).mono (Ex.new fcp) hv2
end
end Kv

set_option Elab.async false
set_option linter.all false
set_option maxRecDepth 100000
set_option maxHeartbeats 4000000
namespace Kv
open PySem PySem.Calls L2 Lk
/-! ### what the rows given make -/
theorem firstBad_none {n : Nat} {rs : List (List Int)} (h : ∀ r ∈ rs, InR n r) : firstBad n rs = none := by
  unfold firstBad
  rw [List.findSome?_eq_none_iff]
  exact fun r hr => badOf_none.mpr (h r hr)
theorem ocRel_ok {C CP : Addr} {rs : List (List Int)} {n : Nat} {R : Nat → Nat → Bool} (hn : rs.length = n) (h : ∀ r ∈ rs, InR n r) (hR : ∀ p q, p < n → q < n → hasI (rs.getD p []) q = R p q) : ocRel C CP rs = .ret (relA C n R) := by
  subst hn
  unfold ocRel
  rw [firstBad_none h]
  show Oc.ret _ = Oc.ret _
  rw [relA_congr hR]
theorem big_nat {q : Nat} (h : q < 100000) : okBig (q : Int) := by
  show Nat.log2 ((q : Int).natAbs) < 1000
  rw [Int.natAbs_natCast]
  rcases Nat.eq_zero_or_pos q with z | z
  · subst z; decide
  · exact (Nat.log2_lt (by omega)).mpr (Nat.lt_of_lt_of_le h (Nat.le_trans (by decide : 100000 ≤ 2 ^ 17) (Nat.pow_le_pow_right (by decide) (by decide))))
/-- rows of numbers below n -/
def intsOf (ls : List (List Nat)) : List (List Int) := ls.map fun l => l.map fun q : Nat => (q : Int)
theorem intsOf_ok {n : Nat} {ls : List (List Nat)} (hn : n < 10000) (hl : ls.length = n) (h : ∀ l ∈ ls, l.length ≤ 20000 ∧ ∀ q ∈ l, q < n) : RelOk (intsOf ls) ∧ ∀ r ∈ intsOf ls, InR n r := by
  unfold intsOf
  refine ⟨⟨by rw [List.length_map]; omega, fun r hr => ?_⟩, fun r hr x hx => ?_⟩
  · obtain ⟨l, hl1, rfl⟩ := List.mem_map.mp hr
    obtain ⟨a, b⟩ := h l hl1
    refine ⟨by rw [List.length_map]; omega, fun x hx => ?_⟩
    obtain ⟨q, hq, rfl⟩ := List.mem_map.mp hx
    exact big_nat (by have := b q hq; omega)
  · obtain ⟨l, hl1, rfl⟩ := List.mem_map.mp hr
    obtain ⟨a, b⟩ := h l hl1
    obtain ⟨q, hq, rfl⟩ := List.mem_map.mp hx
    have := b q hq
    omega
theorem intsOf_get (ls : List (List Nat)) (p q : Nat) : hasI ((intsOf ls).getD p []) q = decide (q ∈ ls.getD p []) := by
  unfold hasI intsOf
  rw [List.getD_eq_getElem?_getD, List.getElem?_map, List.getD_eq_getElem?_getD]
  cases ls[p]? with
  | none => simp
  | some l =>
    show decide ((q : Int) ∈ l.map fun q : Nat => (q : Int)) = decide (q ∈ l)
    rw [decide_eq_decide, List.mem_map]
    refine ⟨fun ⟨a, ha, e⟩ => ?_, fun h => ⟨q, h, rfl⟩⟩
    have : a = q := by omega
    rw [← this]
    exact ha
theorem intsOf_as (ls : List (List Nat)) (c : Bool) : ((intsOf ls).map fun r => sq c (r.map int)) = ls.map fun l => sq c (l.map nat) := by
  unfold intsOf
  rw [List.map_map]
  refine List.map_congr_left fun l _ => ?_
  show sq c ((l.map fun q : Nat => (q : Int)).map int) = _
  rw [List.map_map]
  rfl
/-- such rows, as an index of the constructor -/
theorem mk_ok {C CP : Addr} {n : Nat} {ls : List (List Nat)} {R : Nat → Nat → Bool} (hn : n < 10000) (hl : ls.length = n) (h : ∀ l ∈ ls, l.length ≤ 20000 ∧ ∀ q ∈ l, q < n) (hR : ∀ p q, p < n → q < n → decide (q ∈ ls.getD p []) = R p q) : RelOk (intsOf ls) ∧ ocRel C CP (intsOf ls) = .ret (relA C n R) := by
  obtain ⟨h1, h2⟩ := intsOf_ok hn hl h
  exact ⟨h1, ocRel_ok (by unfold intsOf; rw [List.length_map]; exact hl) h2 fun p q hp hq => by rw [intsOf_get]; exact hR p q hp hq⟩
section
variable {P : Program} {w : World} {K : PySem.W.Frag} {mg : Str → Option Value} {base : Heap} {C CP CM : Addr}
/-! ### require_same_size -/
abbrev sRqs : Stmt := (topS 8)
theorem sc_rqs : FnScope ["first", "second"] ["first", "second"] (defScope sRqs) := ⟨rfl, rfl, rfl, by decide +kernel, rfl, by decide +kernel, by decide +kernel⟩
abbrev erSm (CM : Addr) : ErP := erX CM []
structure R2I where
  n : Nat
  R : Nat → Nat → Bool
  m : Nat
  S : Nat → Nat → Bool
def ocSm (CM : Addr) (n m : Nat) (A : As) : Oc := if n = m then .ret A else .exc (erSm CM)
abbrev spRqs (C CM : Addr) : Sp := spO (fun _ : R2I => True) (fun i => [relA C i.n i.R, relA C i.m i.S]) (fun i => ocSm CM i.n i.m non)
theorem ok_rqs {f : Addr} {fd : FuncData} (F : Fun K "require_same_size" "require_same_size" sRqs f fd) (T : RTx K C) (E0 : Er0 K mg "SizeMismatch" CM) : FnOk P w K mg base (L2.CX P w) 1 f fd ["first", "second"] (spRqs C CM) := by
  refine fn_okX F sc_rqs (fun _ _ => rfl) fun ⟨n, R, m, S⟩ cdv B outer s H E _ hr tk po => ?_
  refine ba_one (sa_if (et_cm (ea_w (ea_fld (A := nat n) (ea_var 0 rfl) T.cl T.nS rfl)) (ea_w (ea_fld (A := nat m) (ea_var 1 rfl) T.cl T.nS rfl)) cm_neI rfl) (fun h => ?_) (fun h => ?_))
  · have hne : n ≠ m := fun z => by
      subst z
      simp at h
    refine ba_one (sa_raise0s E0 rfl tk fun F => ?_)
    show (ocSm CM n m non).E F _ _
    unfold ocSm
    rw [if_neg hne]
    exact ⟨rfl, rfl⟩
  · have he : n = m := by
      have z : ((n : Int) = (m : Int)) := by simpa using h
      omega
    refine ba_nil fun F => ?_
    show (ocSm CM n m non).R.p F .non
    unfold ocSm
    rw [if_pos he]
    rfl
/-! ### reached -/
abbrev sRea : Stmt := (topS 9)
abbrev nRea : List Str := ["rows", "places", "place", "end"]
theorem sc_rea : FnScope nRea ["rows", "places"] (defScope sRea) := ⟨rfl, rfl, rfl, by decide +kernel, rfl, by decide +kernel, by decide +kernel⟩
abbrev spRea : Sp := spX (fun i : Nat × (Nat → Nat → Bool) × Bool × List Nat => i.1 ≤ 300 ∧ i.2.2.2.length ≤ 1000 ∧ ∀ p ∈ i.2.2.2, p < i.1) (fun i => [rowsA i.1 i.2.1, sq i.2.2.1 (i.2.2.2.map nat)]) (fun i => natsT (asc i.1 fun q => i.2.2.2.any fun p => i.2.1 p q))
theorem flat_len {α : Type} (g : α → List Nat) (k : Nat) (h : ∀ a, (g a).length ≤ k) : ∀ l : List α, (l.flatMap g).length ≤ l.length * k
  | [] => by simp
  | a :: l => by
    rw [List.flatMap_cons, List.length_append, List.length_cons, Nat.succ_mul]
    have := flat_len g k h l
    have := h a
    omega
theorem ok_rea {f : Addr} {fd : FuncData} (F : Fun K "reached" "reached" sRea f fd) (DA : Df P w K mg base 1 "ascending" ["places"] spAsc) : FnOk P w K mg base CX0 2 f fd ["rows", "places"] spRea := by
  refine fn_ok F sc_rea (fun _ _ => rfl) fun ⟨n, R, b, ps⟩ cdv B outer s H E ⟨hn, hl, hp⟩ hr => ?_
  have nd := sc_rea.nd
  have hn : n ≤ 300 := hn
  have hl : ps.length ≤ 1000 := hl
  have hp : ∀ p ∈ ps, p < n := hp
  let ns : List Int := ps.flatMap fun p => (asc n (R p)).map fun q : Nat => (q : Int)
  have len : (ps.flatMap fun p => asc n (R p)).length ≤ 300000 := by
    have z := flat_len (fun p => asc n (R p)) 300 (fun p => Nat.le_trans (asc_len n _) hn) ps
    omega
  have e1 : ns = (ps.flatMap fun p => asc n (R p)).map fun q : Nat => (q : Int) := by rw [List.map_flatMap]
  have e2 : (ps.flatMap fun p => (asc n (R p)).map fun q => nat q) = ns.map int := by
    rw [e1, List.map_map, List.map_flatMap]
    rfl
  have e3 : asc n (hasI ns) = asc n fun q => ps.any fun p => R p q := by
    refine asc_congr fun k hk => ?_
    rw [Bool.eq_iff_iff, List.any_eq_true]
    unfold hasI
    rw [decide_eq_true_eq, e1, List.mem_map]
    constructor
    · rintro ⟨q, hq, e⟩
      have : q = k := by omega
      subst this
      obtain ⟨p, h1, h2⟩ := List.mem_flatMap.mp hq
      exact ⟨p, h1, (asc_mem.mp h2).2⟩
    · rintro ⟨p, h1, h2⟩
      exact ⟨k, List.mem_flatMap.mpr ⟨p, h1, asc_mem.mpr ⟨hk, h2⟩⟩, rfl⟩
  have hin : InR n ns := fun x hx => by
    rw [e1] at hx
    obtain ⟨q, hq, rfl⟩ := List.mem_map.mp hx
    obtain ⟨p, h1, h2⟩ := List.mem_flatMap.mp hq
    have := (asc_mem.mp h2).1
    omega
  have hz : (ps.flatMap fun p => (asc n (R p)).map fun q => nat q).length < sizeLine := by
    rw [e2, List.length_map, e1, List.length_map, sizeLine_eq]
    omega
  have hns : ns.length < 1000000 := by
    rw [e1, List.length_map]
    omega
  refine ba_one (sa_ret (ea_is (ea_callB DA (hr.mono (show 1 ≤ 1 by decide)) (true, ns, n) ⟨hin, hns⟩ rfl (eas_cons (en_a (en_is (en_lc2 (own := [("place", 2), ("end", 3)]) (l := ps) (enc := nat) (m := fun p => asc n (R p)) (enc1 := fun _ q => nat q) (g := fun _ q => nat q) 2 3 rfl nd (es_sq (ea_var 1 rfl)) hz (blkOk_by (N := nRea) (sc := defScope sRea) (by decide +kernel)) (fun _ _ _ _ _ => pg_name nd rfl (Or.inl rfl)) (fun _ _ _ _ _ p hpm => ?src) (fun _ _ _ _ _ => pg_name nd rfl (Or.inl rfl)) (fun _ _ _ _ _ p _ q _ => ea_var 3 rfl)) e2)) eas_nil)) (by show natsT _ = natsT _; rw [e3])))
  have hpn := hp p hpm
  refine es_t (ea_ixT (j := p) (ea_var 0 rfl) (ea_w (ea_var 2 rfl)) rfl ?_)
  rw [List.getElem?_map, List.getElem?_range hpn]
  rfl
end
end Kv

set_option Elab.async false
set_option linter.all false
set_option maxRecDepth 100000
set_option maxHeartbeats 4000000
namespace Kv
open PySem PySem.Calls L2 Lk
abbrev okSz (i : R2I) : Prop := i.n ≤ 300 ∧ i.m ≤ 300
abbrev andR (R S : Nat → Nat → Bool) : Nat → Nat → Bool := fun p q => R p q && S p q
abbrev orR (R S : Nat → Nat → Bool) : Nat → Nat → Bool := fun p q => R p q || S p q
/-- over all middle places -/
abbrev mulR (n : Nat) (R S : Nat → Nat → Bool) : Nat → Nat → Bool := fun p q => (asc n (R p)).any fun r => S r q
abbrev idR : Nat → Nat → Bool := fun p q => p == q
section
variable {P : Program} {w : World} {K : PySem.W.Frag} {mg : Str → Option Value} {base : Heap} {C CP CM : Addr}
/-- the first statement of an operator: the sizes are the same -/
theorem ba_rqs {X : Cx} {i : R2I} {ρ : List En} {W : Wn} {sts : List Stmt} {Nx : List En → Prop} {p1 p2 p3 p4 p5 : Pos} {A : As} (DQ : DfX X.prog X.w X.K X.mg X.base 1 "require_same_size" ["first", "second"] (spRqs C CM)) (hr : Room 1 X.A) (tk : Takes X W.wx) (h1 : EA X (.Name "self" p2) ρ (relA C i.n i.R)) (h2 : EA X (.Name "other" p3) ρ (relA C i.m i.S))
    (he : ∀ F cls d, (ocSm CM i.n i.m A).E F cls d → W.er ρ F cls d) (hg : Gl X "require_same_size") (hs : starEach [.Name "self" p2, .Name "other" p3] X.env = (false, eval (.Name "self" p2) X.env) :: starEach [.Name "other" p3] X.env) (hs2 : starEach [.Name "other" p3] X.env = (false, eval (.Name "other" p3) X.env) :: starEach [] X.env) (hpl : (backTo p4 (starEach [.Name "other" p3] X.env)).any (·.1) = false)
    (hsw : swapsWith (.Call (.Name "require_same_size" p1) [.Name "self" p2, .Name "other" p3] [] p4) none p5.line X.env = pure false) (k : i.n = i.m → BA X sts ρ Nx W) :
    BA X (.Expr (.Call (.Name "require_same_size" p1) [.Name "self" p2, .Name "other" p3] [] p4) p5 :: sts) ρ Nx W := by
  refine ba_cons (sa_exprX (o1 := ocSm CM i.n i.m non) (ex_call DQ hr tk i trivial (eas_cons h1 (eas_cons h2 eas_nil hs2) hs) hg (by decide) hs hpl) (fun F cls d z => he F cls d ?_) (fun ⟨F, v, hv⟩ => k ?_) hsw)
  · unfold ocSm at z ⊢
    by_cases e : i.n = i.m
    · rw [if_pos e] at z; exact z.elim
    · rw [if_neg e] at z ⊢; exact z
  · by_cases e : i.n = i.m
    · exact e
    · unfold ocSm at hv
      rw [if_neg e] at hv
      exact hv.elim
theorem ocSm_eq {CM : Addr} {n : Nat} {A : As} : ocSm CM n n A = .ret A := if_pos rfl
theorem getD_range {α : Type} {n p : Nat} {f : Nat → α} {d : α} (h : p < n) : ((List.range n).map f).getD p d = f p := by
  rw [List.getD_eq_getElem?_getD, List.getElem?_map, List.getElem?_range h]
  rfl
/-- rows made for all places -/
theorem mk_rows {n : Nat} {T : Nat → Nat → Bool} (hn : n ≤ 300) : RelOk (intsOf ((List.range n).map fun p => asc n (T p))) ∧ ocRel C CP (intsOf ((List.range n).map fun p => asc n (T p))) = .ret (relA C n T) := by
  refine mk_ok (C := C) (CP := CP) (n := n) (by omega) (by rw [List.length_map, List.length_range]) (fun l hl => ?_) fun p q hp hq => ?_
  · obtain ⟨p, _, rfl⟩ := List.mem_map.mp hl
    have := asc_len n (T p)
    exact ⟨by omega, fun q hq => (asc_mem.mp hq).1⟩
  · rw [getD_range hp, Bool.eq_iff_iff, decide_eq_true_eq, asc_mem]
    exact ⟨fun h => h.2, fun h => ⟨hq, h⟩⟩
end
end Kv

set_option Elab.async false
set_option linter.all false
set_option maxRecDepth 100000
set_option maxHeartbeats 4000000
namespace Kv
open PySem PySem.Calls L2 Lk
section
variable {P : Program} {w : World} {K : PySem.W.Frag} {mg : Str → Option Value} {base : Heap} {C CP CM : Addr}
/-! ### a * b -/
abbrev sMul : Stmt := (inClass (topS 11) 4)
abbrev nMul : List Str := ["self", "other", "row"]
theorem sc_mul : FnScope nMul ["self", "other"] (defScope sMul) := ⟨rfl, rfl, rfl, by decide +kernel, rfl, by decide +kernel, by decide +kernel⟩
abbrev spMul (C CM : Addr) : Sp := spO okSz (fun i : R2I => [relA C i.n i.R, relA C i.m i.S]) (fun i => ocSm CM i.n i.m (relA C i.n (mulR i.n i.R i.S)))
theorem ok_mul {f : Addr} {fd : FuncData} (F : Fun K "__mul__" "Relation.__mul__" sMul f fd) (T : RTx K C) (DE : Df P w K mg base 2 "reached" ["rows", "places"] spRea) (DQ : DfX P w K mg base 1 "require_same_size" ["first", "second"] (spRqs C CM)) (DK : MkX P w K mg base 4 C "Relation" ["self", "rows"] (spRelI C CP)) : FnOk P w K mg base (L2.CX P w) 6 f fd ["self", "other"] (spMul C CM) := by
  refine fn_okX F sc_mul (fun _ _ => rfl) fun ⟨n, R, m, S⟩ cdv B outer s H E ⟨hn, hm⟩ hr tk po => ?_
  have nd := sc_mul.nd
  have hn : n ≤ 300 := hn
  refine ba_rqs (i := ⟨n, R, m, S⟩) (A := relA C n (mulR n R S)) DQ (hr.mono (show 1 ≤ 5 by decide)) tk (ea_var 0 rfl) (ea_var 1 rfl) (fun F cls d z => z) rfl rfl rfl rfl rfl fun e => ?_
  have e : n = m := e
  subst e
  let ls : List (List Nat) := (List.range n).map fun p => asc n (mulR n R S p)
  obtain ⟨h1, h2⟩ := mk_rows (C := C) (CP := CP) (n := n) (T := mulR n R S) hn
  refine ba_one (sa_retX (o1 := .ret (relA C n (mulR n R S))) (ex_is (ex_make DK hr tk (true, false, intsOf ls) h1 (eas_cons (en_a (en_is (en_lcSA (own := [("row", 2)]) (l := List.range n) (enc := fun p => natsT (asc n (R p))) (g := fun p => natsT (asc n (mulR n R S p))) 2 rfl nd
      (es_t (ea_fld (A := rowsA n R) (ea_var 0 rfl) T.cl T.nR rfl)) (by rw [List.length_range, sizeLine_eq]; omega) (blkOk_by (N := nMul) (sc := defScope sMul) (by decide +kernel))
      (fun _ _ _ _ _ => pg_name nd rfl (Or.inl rfl)) (fun _ _ _ _ _ p _ => ?el)) ?eq)) eas_nil)) h2) (fun F cls d z => z.elim) (fun F v hv => ?fin))
  case el =>
    have a1 := asc_len n (R p)
    exact ea_is (ea_callB DE (hr.mono (show 2 ≤ 5 by decide)) (n, S, false, asc n (R p)) ⟨hn, by show (asc n (R p)).length ≤ 1000; omega, fun r hr => (asc_mem.mp hr).1⟩ rfl (eas_cons (ea_fld (A := rowsA n S) (ea_var 1 rfl) T.cl T.nR rfl) (eas_cons (ea_var 2 rfl) eas_nil))) rfl
  case eq =>
    rw [intsOf_as, List.map_map]
    rfl
  case fin =>
    show (ocSm CM n n (relA C n (mulR n R S))).R.p F v
    rw [ocSm_eq]
    exact hv
end
section
variable {X : Cx} {a b e : Expr} {ρ : List En} {pos p1 p2 : Pos} {n : Nat} {R S : Nat → Nat → Bool} {C CP CM : Addr}
theorem ea_mulX (D : MfX X.prog X.w X.K X.mg X.base 6 C "__mul__" ["self", "other"] (spMul C CM)) (sf : PySem.W.selfFirst X.K C = true) (hr : Room 6 X.A) (hn : n ≤ 300) (ha : EA X a ρ (relA C n R)) (hb : EA X b ρ (relA C n S)) : EA X (.BinOp a .Mult b pos) ρ (relA C n (mulR n R S)) :=
  ea_binX D (by decide) sf hr ⟨n, R, n, S⟩ ⟨hn, hn⟩ ocSm_eq ha hb rfl
end
end Kv

set_option Elab.async false
set_option linter.all false
set_option maxRecDepth 100000
set_option maxHeartbeats 4000000
namespace Kv
open PySem PySem.Calls L2 Lk
/-! ### rows as the law has them -/
abbrev natsL (l : List Nat) : As := lstA (l.map nat)
/-- lists of ascending rows, and the same as a tuple of tuples -/
abbrev listsA (ls : List (List Nat)) : As := lstA (ls.map natsL)
abbrev tupsA (ls : List (List Nat)) : As := tupA (ls.map natsT)
abbrev rowsOf (n : Nat) (R : Nat → Nat → Bool) : List (List Nat) := (List.range n).map fun p => asc n (R p)
theorem rowsA_of (n : Nat) (R : Nat → Nat → Bool) : rowsA n R = tupsA (rowsOf n R) := by
  show tupA _ = tupA _
  rw [List.map_map]
  rfl
abbrev smallL (ls : List (List Nat)) : Prop := ls.length ≤ 1000 ∧ ∀ l ∈ ls, l.length ≤ 1000
theorem smallL_rows {n : Nat} (R : Nat → Nat → Bool) (h : n ≤ 300) : smallL (rowsOf n R) := by
  refine ⟨by rw [List.length_map, List.length_range]; omega, fun l hl => ?_⟩
  obtain ⟨p, _, rfl⟩ := List.mem_map.mp hl
  have := asc_len n (R p)
  omega
theorem enc_nat {K : PySem.W.Frag} : Enc K 0 nat (fun _ => True) := enc_of enc_int (fun n : Nat => (n : Int)) fun x y h => by omega
theorem okL_all {α : Type} {l : List α} : okL (fun _ => True) l := fun _ _ => trivial
theorem asc_succ {n : Nat} {p : Nat → Bool} : asc (n + 1) p = asc n p ++ if p n then [n] else [] := by
  unfold asc
  rw [List.range_succ, List.filter_append]
  congr 1
  cases h : p n with
  | true => simp [h]
  | false => simp [h]
theorem true_mem {α : Type} {l : List α} {p : α → Bool} : decide (true ∈ l.map p) = l.any p := by
  rw [Bool.eq_iff_iff, decide_eq_true_eq, List.mem_map, List.any_eq_true]
section
variable {P : Program} {w : World} {K : PySem.W.Frag} {mg : Str → Option Value} {base : Heap} {C CP CM : Addr}
/-! ### _law_is_number -/
abbrev sIsn : Stmt := (topS 15)
theorem sc_isn : FnScope ["_law_told"] ["_law_told"] (defScope sIsn) := ⟨rfl, rfl, rfl, by decide +kernel, rfl, by decide +kernel, by decide +kernel⟩
abbrev spIsn : Sp := spX (fun _ : Int => True) (fun i => [int i]) (fun _ => bl true)
theorem ok_isn {f : Addr} {fd : FuncData} (F : Fun K "_law_is_number" "_law_is_number" sIsn f fd) (mIs : mg "isinstance" = none) (mI : mg "int" = none) (mB : mg "bool" = none) : FnA P w K mg base 1 f fd ["_law_told"] spIsn := by
  refine fn_okA F sc_isn (fun _ _ => rfl) fun i cdv B outer s H E _ hr => ?_
  exact ba_one (sa_ret (ea_is (ea_and (ea_w (ea_isT (ea_var 0 rfl) ty_int mI bo_int2 kit_int_int mIs)) fun _ => ea_one (ea_not (ea_w (ea_isT (ea_var 0 rfl) ty_int mB bo_bool kit_int_bool mIs)))) rfl))
/-! ### _law_same_rows -/
abbrev sSam : Stmt := (topS 17)
abbrev nSam : List Str := ["_law_rows", "_law_due", "_law_p", "_law_j"]
theorem sc_sam : FnScope nSam ["_law_rows", "_law_due"] (defScope sSam) := ⟨rfl, rfl, rfl, by decide +kernel, rfl, by decide +kernel, by decide +kernel⟩
abbrev spSam : Sp := spX smallL (fun ls => [tupsA ls, listsA ls]) (fun _ => bl true)
theorem bo_tup : bootBuiltins ("tuple" : Str) = some (.type "tuple") := by decide +kernel
theorem ok_sam {f : Addr} {fd : FuncData} (F : Fun K "_law_same_rows" "_law_same_rows" sSam f fd) (mIs : mg "isinstance" = none) (mT : mg "tuple" = none) (mL : mg "len" = none) (mR : mg "range" = none) (DN : Df P w K mg base 1 "_law_is_number" ["_law_told"] spIsn) : FnOk P w K mg base CX0 2 f fd ["_law_rows", "_law_due"] spSam := by
  refine fn_ok F sc_sam (fun _ _ => rfl) fun ls cdv B outer s H E ⟨h1, h2⟩ hr => ?_
  have nd := sc_sam.nd
  let ρ0 : List En := [.fr (tupsA ls), .fr (listsA ls), .no, .no]
  refine ba_cons (sa_if (k := false) (et_w (ewt_or (j := false) (k := false) (et_is (et_not (et_v (ea_w (ea_isT (ea_var 0 rfl) ty_tup mT bo_tup kit_tup_tup mIs)))) rfl) fun _ => ewt_or1 (et_is (et_cm (ea_w (ea_lenTp (ea_var 0 rfl) mL)) (ea_w (ea_lenL (ea_l (ea_var 1 rfl)) mL)) cm_neI rfl) ?_))) (fun h => by cases h) (fun _ => ba_nil ?_))
  · simp
  refine ba_cons (sa_forR 2 (fun i ρ' => ρ' = ρ0) PassesOwn.never rfl nd mR (ea_w (ea_lenL (ea_l (ea_var 1 rfl)) mL)) ⟨by rw [List.length_map]; omega, by rw [List.length_map]; omega⟩ ⟨_, rfl, .same (.same (.no (.no .nil)))⟩ ?hs ?hd)
  case hs =>
    rintro i ρ' hi rfl
    have hi : i < ls.length := by simpa using hi
    obtain ⟨l, hl⟩ : ∃ l, ls[i]? = some l := ⟨_, List.getElem?_eq_getElem hi⟩
    have gT : (ls.map natsT)[i]? = some (natsT l) := by rw [List.getElem?_map, hl]; rfl
    have gL : (ls.map natsL)[i]? = some (natsL l) := by rw [List.getElem?_map, hl]; rfl
    have l2 := h2 l (List.mem_of_getElem? hl)
    refine ba_cons (sa_if (k := false) (et_w (ewt_or (j := false) (k := false) (et_is (et_not (et_v (ea_w (ea_isT (ea_ixT (j := i) (ea_var 0 rfl) (ea_w (ea_var 2 rfl)) rfl gT) ty_tup mT bo_tup kit_tup_tup mIs)))) rfl) fun _ => ewt_or1 (et_is (et_cm (ea_w (ea_lenTp (ea_ixT (j := i) (ea_var 0 rfl) (ea_w (ea_var 2 rfl)) rfl gT) mL)) (ea_w (ea_lenL (ea_l (ea_ixL (j := i) (ea_l (ea_var 1 rfl)) (ea_w (ea_var 2 rfl)) rfl gL)) mL)) cm_neI rfl) ?_))) (fun h => by cases h) (fun _ => ba_nil ?_))
    · simp
    refine ba_one (sa_forR 3 (fun j ρ' => ρ' = ρ0.set 2 (.fr (int (i : Int)))) PassesOwn.never rfl nd mR (ea_w (ea_lenL (ea_l (ea_ixL (j := i) (ea_l (ea_var 1 rfl)) (ea_w (ea_var 2 rfl)) rfl gL)) mL)) ⟨by rw [List.length_map]; omega, by rw [List.length_map]; omega⟩ ⟨_, rfl, .same (.same (.same (.no .nil)))⟩ ?hs2 ?hd2)
    case hs2 =>
      rintro j ρ' hj rfl
      have hj : j < l.length := by simpa using hj
      have aT : (l.map nat)[j]? = some (nat (l[j])) := by rw [List.getElem?_map, List.getElem?_eq_getElem hj]; rfl
      refine ba_one (sa_if (k := false) (et_w (ewt_or (j := false) (k := false) (et_is (et_not (et_v (ea_w (ea_callB DN hr ((l[j] : Nat) : Int) trivial rfl (eas_cons (ea_ixT (j := j) (ea_ixT (j := i) (ea_var 0 rfl) (ea_w (ea_var 2 rfl)) rfl gT) (ea_w (ea_var 3 rfl)) rfl aT) eas_nil))))) rfl) fun _ => ewt_or1 (et_is (et_cm (ea_w (ea_ixT (j := j) (ea_ixT (j := i) (ea_var 0 rfl) (ea_w (ea_var 2 rfl)) rfl gT) (ea_w (ea_var 3 rfl)) rfl aT)) (ea_w (ea_ixL (j := j) (ea_l (ea_ixL (j := i) (ea_l (ea_var 1 rfl)) (ea_w (ea_var 2 rfl)) rfl gL)) (ea_w (ea_var 3 rfl)) rfl aT)) cm_neI rfl) ?_))) (fun h => by cases h) (fun _ => ba_nil ?_))
      · simp
      · exact ⟨_, rfl, .same (.same (.same (.no .nil)))⟩
    case hd2 =>
      rintro ρ' rfl
      exact ⟨_, rfl, .same (.same (.no (.no .nil)))⟩
  case hd =>
    rintro ρ' rfl
    exact ba_one (sa_ret ea_bl)
end
end Kv

set_option Elab.async false
set_option linter.all false
set_option maxRecDepth 100000
set_option maxHeartbeats 4000000
namespace Kv
open PySem PySem.Calls L2 Lk
/-- the scope of a comprehension, as one within it sees it -/
def relab (sc sc0 : Scope) : Scope := relabel sc { (default : Env) with scope := sc0 }
theorem blk_rel {N : List Str} {sc sc0 scope : Scope} {own : List (Str × Nat)} {cl : List (Str × Addr)} {C : Addr} {env : Env} (e : env.scope = sc0) (h : BlkOk N (relab sc sc0) scope own) : BlkOk N (compEnvC sc cl C env).scope scope own := by
  subst e
  exact h
section
variable {P : Program} {w : World} {K : PySem.W.Frag} {mg : Str → Option Value} {base : Heap} {C CP CM : Addr}
/-! ### _law_relation -/
abbrev sLre : Stmt := (topS 16)
abbrev nLre : List Str := ["_law_script", "_law_k", "_law_size", "_law_digits_here", "_law_bound", "_law_p", "_law_q"]
theorem sc_lre : FnScope nLre ["_law_script", "_law_k", "_law_size"] (defScope sLre) := ⟨rfl, rfl, rfl, by decide +kernel, rfl, by decide +kernel, by decide +kernel⟩
abbrev scOfE : Expr → Scope
  | .ListComp _ _ sc _ => sc
  | _ => defScope sLre
abbrev scOfR : Stmt → Scope
  | .Return (some e) _ => scOfE e
  | _ => defScope sLre
abbrev scLre1 : Scope := scOfR ((defBody sLre).getD 2 (.Pass ⟨0, 0, 0, 0⟩))
abbrev eltOfR : Stmt → Expr
  | .Return (some (.ListComp e _ _ _)) _ => e
  | _ => .Name "" ⟨0, 0, 0, 0⟩
abbrev scLre2 : Scope := scOfE (eltOfR ((defBody sLre).getD 2 (.Pass ⟨0, 0, 0, 0⟩)))
abbrev relsA (n : Nat) : As := exA (fun _ : Nat → Nat → Bool => True) (fun R => listsA (rowsOf n R))
abbrev spLre (K : PySem.W.Frag) : Sp := spX (fun i : List Int × Nat × Nat => i.2.1 ≤ 1000 ∧ i.2.2 ≤ 7) (fun i => [scr K i.1, int (i.2.1 : Int), int (i.2.2 : Int)]) (fun i => relsA i.2.2)
theorem ok_lre {f : Addr} {fd : FuncData} (F : Fun K "_law_relation" "_law_relation" sLre f fd) (mR : mg "range" = none) (DD : Df P w K mg base 2 "_law_digits" ["_law_script", "_law_k", "_law_count"] (spDigits K)) : FnOk P w K mg base CX0 3 f fd ["_law_script", "_law_k", "_law_size"] (spLre K) := by
  refine fn_ok F sc_lre (fun _ _ => rfl) fun ⟨ns, k, n⟩ cdv B outer s H E ⟨hk, hn⟩ hr => ?_
  have nd := sc_lre.nd
  have hk : k ≤ 1000 := hk
  have hn : n ≤ 7 := hn
  refine ba_cons (sa_set 3 nd (ea_call DD hr (ns, k, 50) ⟨hk, show (50 : Nat) ≤ 1000 by decide⟩ (eas_cons (ea_var 0 rfl) (eas_cons (ea_var 1 rfl) (eas_cons ea_int eas_nil)))) ?_)
  refine ba_ex (i := 3) rfl fun ds hD => ?_
  have hD : Digs 50 ds := hD
  refine ba_cons (sa_set 4 nd (ea_tbl (tb := [6, 3, 9, 12, 1, 4, 6, 2, 6, 5, 0, 8]) ?_ (ea_w (ea_ixL (ea_l (ea_var 3 rfl)) (ea_w ea_int) rfl (dig hD (i := 0) (by decide)))) (digb hD 0).1 (digb hD 0).2 (by rw [sizeLine_eq]; decide)) ?_)
  · exact eas_cons ea_int (eas_cons ea_int (eas_cons ea_int (eas_cons ea_int (eas_cons ea_int (eas_cons ea_int (eas_cons ea_int (eas_cons ea_int (eas_cons ea_int (eas_cons ea_int (eas_cons ea_int (eas_cons ea_int eas_nil)))))))))))
  let b : Int := [6, 3, 9, 12, 1, 4, 6, 2, 6, 5, 0, 8].getD (ds.getD 0 0).toNat 0
  let R : Nat → Nat → Bool := fun p q => decide (ds.getD (1 + p * n + q) 0 < b)
  refine ba_one (sa_ret (ea_imp (A := listsA (rowsOf n R)) (ea_is (en_a (en_lcR (own := [("_law_p", 5)]) (z := (n : Int)) (p := fun _ => true) (g := fun p => natsL (asc n (R p))) 5 rfl nd mR (ea_w (ea_var 2 rfl)) (by omega) (blkOk_by (N := nLre) (sc := defScope sLre) (by decide +kernel)) (fun _ _ _ _ _ => pg_name nd rfl (Or.inr rfl)) (fun _ _ _ _ _ _ _ => pts_yes) (fun _ _ _ _ _ p hp _ => ?el))) ?eq) fun F v hv => ⟨R, trivial, hv⟩))
  case eq =>
    rw [flt_all, Int.toNat_natCast]
    show lstA _ = lstA _
    rw [List.map_map]
    rfl
  case el =>
    have hp : p < n := by simpa using hp
    have pn : p * n ≤ 42 := Nat.le_trans (Nat.mul_le_mul (show p ≤ 6 by omega) hn) (by decide)
    refine ea_is (en_a (en_lcR (own := [("_law_q", 6)]) (z := (n : Int)) (p := R p) (g := nat) 6 rfl nd mR (ea_w (ea_var 2 rfl)) (by omega) ?blk (fun _ _ _ _ _ => pg_name nd rfl (Or.inl rfl)) (fun _ _ _ _ _ q hq => ?ts) (fun _ _ _ _ _ q _ _ => ea_var 6 rfl))) (by rw [Int.toNat_natCast]; rfl)
    case blk => exact blk_rel (sc := scLre1) (sc0 := defScope sLre) rfl (blkOk_by (N := nLre) (sc := relab scLre1 (defScope sLre)) (by decide +kernel))
    case ts =>
      have hq : q < n := by simpa using hq
      exact pts_one (et_cm (ea_w (ea_ixL (j := 1 + p * n + q) (ea_l (ea_var 3 rfl)) (ea_w (ea_add (ea_w (ea_add (ea_w ea_int) (ea_w (ea_mul (ea_w (ea_var 5 rfl)) (ea_w (ea_var 2 rfl)) (.inl ⟨by omega, by omega⟩))))) (ea_w (ea_var 6 rfl)))) (by push_cast; rfl) (dig hD (by omega)))) (ea_w (ea_var 4 rfl)) cm_lt rfl)
end
end Kv

set_option Elab.async false
set_option linter.all false
set_option maxRecDepth 100000
set_option maxHeartbeats 4000000
namespace Kv
open PySem PySem.Calls L2 Lk
section
variable {P : Program} {w : World} {K : PySem.W.Frag} {mg : Str → Option Value} {base : Heap} {C CP CM : Addr}
/-! ### _law_product -/
abbrev sPro : Stmt := (topS 18)
abbrev nPro : List Str := ["_law_one", "_law_two", "_law_rows", "_law_row", "_law_found", "_law_r", "_law_q"]
theorem sc_pro : FnScope nPro ["_law_one", "_law_two"] (defScope sPro) := ⟨rfl, rfl, rfl, by decide +kernel, rfl, by decide +kernel, by decide +kernel⟩
abbrev spPro : Sp := spX (fun i : Nat × (Nat → Nat → Bool) × (Nat → Nat → Bool) => i.1 ≤ 300) (fun i => [listsA (rowsOf i.1 i.2.1), listsA (rowsOf i.1 i.2.2)]) (fun i => listsA (rowsOf i.1 (mulR i.1 i.2.1 i.2.2)))
theorem ok_pro {f : Addr} {fd : FuncData} (F : Fun K "_law_product" "_law_product" sPro f fd) (mR : mg "range" = none) (mL : mg "len" = none) : FnOk P w K mg base CX0 1 f fd ["_law_one", "_law_two"] spPro := by
  refine fn_ok F sc_pro (fun _ _ => rfl) fun ⟨n, R, S⟩ cdv B outer s H E hn hr => ?_
  have nd := sc_pro.nd
  have hn : n ≤ 300 := hn
  let T : Nat → Nat → Bool := mulR n R S
  refine ba_cons (sa_setN 2 nd (en_lst eas_nil (Nat.zero_le _)) ?_)
  let ρ0 (i : Nat) : List En := [.fr (listsA (rowsOf n R)), .fr (listsA (rowsOf n S)), .own (((List.range i).map fun p => asc n (T p)).map natsL), .no, .no, .no, .no]
  refine ba_cons (sa_for 3 (fun i ρ' => ρ' = ρ0 i) PassesOwn.never rfl nd (ea_var 0 rfl) ⟨_, rfl, .same (.same (.same (.same (.same (.same (.same .nil))))))⟩ ?hs ?hd)
  case hs =>
    rintro i A ρ' hi rfl
    have hin : i < n := by
      obtain ⟨h, _⟩ := List.getElem?_eq_some_iff.mp hi
      rwa [List.length_map, List.length_map, List.length_range] at h
    have hA : A = natsL (asc n (R i)) := by
      rw [List.getElem?_map, List.getElem?_map, List.getElem?_range hin] at hi
      simpa using hi.symm
    subst hA
    refine ba_cons (sa_setN 4 nd (en_lst eas_nil (Nat.zero_le _)) ?_)
    let ρ1 (j : Nat) : List En := [.fr (listsA (rowsOf n R)), .fr (listsA (rowsOf n S)), .own (((List.range i).map fun p => asc n (T p)).map natsL), .fr (natsL (asc n (R i))), .own ((asc j (T i)).map nat), .no, .no]
    refine ba_cons (sa_forR (z := (n : Int)) 5 (fun j ρ' => ρ' = ρ1 j) PassesOwn.never rfl nd mR (ea_w (ea_is (ea_lenL (ea_l (ea_var 1 rfl)) mL) (by rw [List.length_map, List.length_map, List.length_range]))) ⟨by omega, by omega⟩ ⟨_, rfl, .same (.same (.same (.same (.same (.same (.same .nil))))))⟩ ?hs2 ?hd2)
    case hs2 =>
      rintro j ρ' hj rfl
      have hj : j < n := by simpa using hj
      have hlen : ((asc j (T i)).map nat).length < sizeLine := by
        rw [List.length_map, sizeLine_eq]
        have := asc_len j (T i)
        omega
      refine ba_one (sa_if (k := T i j) (et_is (et_cm (ea_w ea_bl) (en_w (en_is (en_lcA (own := [("_law_q", 6)]) (l := asc n (R i)) (enc := nat) (g := fun q => bl (S q j)) 6 rfl nd (ea_l (ea_var 3 rfl)) ?len (blkOk_by (N := nPro) (sc := defScope sPro) (by decide +kernel)) (fun _ _ _ _ _ => pg_name nd rfl (Or.inl rfl)) (fun _ _ _ _ _ q hq => ?el)) ?eq)) (cm_in (f := bl) (k := 0) (a := true) (l := (asc n (R i)).map fun q => S q j) hr enc_bl trivial okL_all) rfl) true_mem) (fun h => ?_) (fun h => ?_))
      case len =>
        rw [sizeLine_eq]
        have := asc_len n (R i)
        omega
      case eq =>
        rw [List.map_map]
        rfl
      case el =>
        have hq := (asc_mem.mp hq).1
        refine ea_is (ea_cm (ea_w (ea_var 5 rfl)) (ea_w (ea_ixL (j := q) (A := natsL (asc n (S q))) (ea_l (ea_var 1 rfl)) (ea_w (ea_var 6 rfl)) rfl (by rw [List.getElem?_map, List.getElem?_map, List.getElem?_range hq]; rfl))) (cm_in (f := nat) (k := 0) (a := j) (l := asc n (S q)) hr enc_nat trivial okL_all) rfl) ?_
        congr 1
        rw [Bool.eq_iff_iff, decide_eq_true_eq, asc_mem]
        exact ⟨fun h => h.2, fun h => ⟨hj, h⟩⟩
      · refine ba_one (sa_app 4 rfl (pe_app 4 (ea_var 5 rfl)) hlen ?_)
        refine ⟨_, rfl, ?_⟩
        show Le [_, _, _, _, .own ((asc (j + 1) (T i)).map nat), _, _] _
        rw [asc_succ, if_pos h, List.map_append]
        exact .same (.same (.same (.same (.same (.no (.same .nil))))))
      · refine ba_nil ⟨_, rfl, ?_⟩
        show Le [_, _, _, _, .own ((asc (j + 1) (T i)).map nat), _, _] _
        rw [asc_succ, h]
        show Le [_, _, _, _, .own ((asc j (T i) ++ []).map nat), _, _] _
        rw [List.append_nil]
        exact .same (.same (.same (.same (.same (.no (.same .nil))))))
    case hd2 =>
      rintro ρ' rfl
      refine ba_free (i := 4) rfl (ba_one (sa_app 2 rfl (pe_app 2 (ea_var 4 rfl)) ?_ ?_))
      · rw [List.length_map, List.length_map, List.length_range, sizeLine_eq]
        omega
      · refine ⟨_, rfl, ?_⟩
        show Le [_, _, .own (((List.range (i + 1)).map fun p => asc n (T p)).map natsL), _, _, _, _] _
        rw [List.range_succ, List.map_append, List.map_append]
        exact .same (.same (.same (.no (.no (.same (.same .nil))))))
  case hd =>
    rintro ρ' rfl
    refine ba_free (i := 2) rfl (ba_one (sa_ret (ea_is (ea_var 2 rfl) ?_)))
    show lstA _ = lstA _
    rw [List.length_map, List.length_map, List.length_range]
end
end Kv

set_option Elab.async false
set_option linter.all false
set_option maxRecDepth 100000
set_option maxHeartbeats 4000000
namespace Kv
open PySem PySem.Calls L2 Lk NdefX
/-! ### error classes with one field -/
/-- what is written of one -/
structure ExAt (P : Program) (K : PySem.W.Frag) (C : Addr) (x qual fld : Str) (st : Stmt) : Prop where
  nm : PySem.W.nsIn K mainGlobals x = some (some (.ref C))
  O : OexC K C
  no : PySem.W.findIn K (.ref C) fld = some none
  su : PySem.W.nsIn K mainGlobals "super" = some none
  ex : ∃ f cc cda fd, PySem.W.findIn K (.ref C) "__init__" = some (some (.ref f)) ∧ PySem.W.typeIn K (.ref f) = some (.type "function") ∧ ∀ mg : Str → Option Value, mg "super" = none → SupAt P K mg f cc cda C "__init__" qual (defArgs st) (defBody st) (defScope st) fd
section
variable {P : Program} {w : World} {K : PySem.W.Frag} {mg : Str → Option Value} {base h : Heap} {C CP : Addr}
theorem ex_at {x qual fld nm2 q2 fl : Str} {st : Stmt} {f cc cda N : Addr} {oc kV doc pm ct cdc ccc : Value} {od an dd cdd ccd : Option Addr} {osl cdsl ccsl : Array (Option Value)} {bs bm sub : List Value} {sn : List Str} {ab : Bool} {col : Option Bool} {k0 k1 k2 k3 k5 : Option Value} {vs : Array Value} {tf : Tok}
    (nm : PySem.W.nsIn K mainGlobals x = some (some (.ref C))) (cl : K.lookup C = some (excClassObj nm2 q2 C N bs bm true sn sub ab col dd k0 k1 k2 k3 k5 "ValueError.__new__")) (rv : PySem.HandSPX.refsVE bm = true)
    (sa : PySem.W.findIn K (.ref C) "__setattr__" = some (some (.builtin "object.__setattr__"))) (exC : PySem.W.subIn K (.ref C) (.type "BaseException") = some true) (tyC : PySem.W.typeIn K (.ref C) = some (.type "type")) (kC : PySem.W.keepIn K (.ref C) = true)
    (no : PySem.W.findIn K (.ref C) fld = some none) (su : PySem.W.nsIn K mainGlobals "super" = some none) (a : PySem.W.findIn K (.ref C) "__init__" = some (some (.ref f))) (ty : PySem.W.typeIn K (.ref f) = some (.type "function"))
    (lk : K.lookup f = some ⟨oc, od, .func (PySem.W.fnX "__init__" qual (defArgs st) (defBody st) (defScope st) [("__class__", cc)] .none kV doc pm an (.ref cda) ct), osl⟩) (cd : PySem.W.codeIn K (.ref cda) qual = true)
    (lc : K.lookup cda = some ⟨cdc, cdd, .fields vs, cdsl⟩) (v2 : vs[2]? = some (.str fl tf)) (fe : ((P.main.file : Str) == fl) = true) (ce : K.lookup cc = some ⟨ccc, ccd, .cell (some (.ref C)), ccsl⟩)
    (sub2 : PySem.W.mroIn K C (.ref C) = some true) (op : PySem.W.nsIn K cStatics "thirdparty.any" = some none) (ini : PySem.W.ks_superIn K C C "__init__" = some (some (.builtin "ValueError.__init__"))) (sve : PySem.W.subIn K (.ref C) (.type "ValueError") = some true)
    (top : (P.main.scope.names.lookup ("super" : Str)).isSome = false) : ExAt P K C x qual fld st :=
  ⟨nm, ⟨⟨_, _, _, _, _, _, _, _, _, _, _, _, _, _, _, cl, rv⟩, sa, exC, tyC, kC⟩, no, su, f, cc, cda, _, a, ty, fun mg hm =>
    ⟨⟨oc, od, kV, doc, pm, an, ct, osl, rfl, lk⟩, cd, ⟨_, _, _, _, _, _, lc, v2, fe⟩, ⟨_, _, _, ce⟩, sub2, op, ini, sve, hm, top⟩⟩
/-! ### BadPlace -/
abbrev sBpl : Stmt := (inClass (topS 3) 0)
theorem sc_bpl : NScope ["self", "place", "__class__"] ["self", "place"] ["__class__"] (defScope sBpl) := ⟨rfl, rfl, rfl, by decide +kernel, rfl, by decide +kernel, by decide +kernel, by decide +kernel, by decide +kernel⟩
theorem er_bpl (E : ExAt P K CP "BadPlace" "BadPlace.__init__" "place" sBpl) (X : K.In h) (G : h.Ns mainGlobals mg) : EPl P w K mg base CP := by
  obtain ⟨f, cc, cda, fd, a, ty, T⟩ := E.ex
  have T := T mg (PySem.W.mg_none_of X G E.su)
  refine ⟨PySem.W.mg_of X G E.nm, E.O, f, fd, "self", "place", a, ty, ?_, ?_⟩
  · refine ok_excI (nf := ⟨"__init__", "BadPlace.__init__", defArgs sBpl, defBody sBpl, defScope sBpl, [("__class__", cc)], cda⟩) rfl T E.O E.no sc_bpl (by decide +kernel) rfl rfl rfl (fun _ => rfl) (fun _ => rfl) (fun _ => ⟨_, rfl⟩) (fun _ => rfl) (fun _ => rfl) rfl rfl ?_ ?_
    · intro i a A outer s H E hi hr
      exact ea_fsI (ea_w (ea_var 1 rfl)) (by have : i.natAbs.log2 < 1000 := hi; omega) (by decide)
    · intro i a A outer s H E hi hr
      exact ea_var 1 rfl
  · obtain ⟨oc, od, kV, doc, pm, an, ct, osl, rfl, lk⟩ := T.lk
    intro s us I hl
    match us, hl with
    | [_, _], _ => exact .of_eq rfl
end
end Kv

set_option Elab.async false
set_option linter.all false
set_option maxRecDepth 100000
set_option maxHeartbeats 4000000
namespace Kv
open PySem PySem.Calls L2 Lk
/-! ### what holds of relations -/
theorem mulR_iff {n : Nat} {R S : Nat → Nat → Bool} {p q : Nat} : mulR n R S p q = true ↔ ∃ r, r < n ∧ R p r = true ∧ S r q = true := by
  show ((asc n (R p)).any fun r => S r q) = true ↔ _
  rw [List.any_eq_true]
  constructor
  · rintro ⟨r, h1, h2⟩
    exact ⟨r, (asc_mem.mp h1).1, (asc_mem.mp h1).2, h2⟩
  · rintro ⟨r, h0, h1, h2⟩
    exact ⟨r, asc_mem.mpr ⟨h0, h1⟩, h2⟩
theorem rowsOf_congr {n : Nat} {R S : Nat → Nat → Bool} (h : ∀ p q, p < n → q < n → R p q = S p q) : rowsOf n R = rowsOf n S := List.map_congr_left fun p hp => asc_congr fun k hk => h p k (List.mem_range.mp hp) hk
theorem mul_assoc {n : Nat} (R S T : Nat → Nat → Bool) : rowsOf n (mulR n R (mulR n S T)) = rowsOf n (mulR n (mulR n R S) T) := rowsOf_congr fun p q hp hq => by
  rw [Bool.eq_iff_iff, mulR_iff, mulR_iff]
  constructor
  · rintro ⟨r, h1, h2, h3⟩
    obtain ⟨s, h4, h5, h6⟩ := mulR_iff.mp h3
    exact ⟨s, h4, mulR_iff.mpr ⟨r, h1, h2, h5⟩, h6⟩
  · rintro ⟨s, h1, h2, h3⟩
    obtain ⟨r, h4, h5, h6⟩ := mulR_iff.mp h2
    exact ⟨r, h4, h5, mulR_iff.mpr ⟨s, h1, h6, h3⟩⟩
theorem mul_or {n : Nat} (R S T : Nat → Nat → Bool) : rowsOf n (mulR n R (orR S T)) = rowsOf n (orR (mulR n R S) (mulR n R T)) := rowsOf_congr fun p q hp hq => by
  rw [Bool.eq_iff_iff, mulR_iff]
  show _ ↔ (mulR n R S p q || mulR n R T p q) = true
  rw [Bool.or_eq_true, mulR_iff, mulR_iff]
  constructor
  · rintro ⟨r, h1, h2, h3⟩
    rcases Bool.or_eq_true _ _ ▸ h3 with h | h
    · exact .inl ⟨r, h1, h2, h⟩
    · exact .inr ⟨r, h1, h2, h⟩
  · rintro (⟨r, h1, h2, h⟩ | ⟨r, h1, h2, h⟩)
    · exact ⟨r, h1, h2, by show (S r q || T r q) = true; rw [h]; rfl⟩
    · exact ⟨r, h1, h2, by show (S r q || T r q) = true; rw [h, Bool.or_true]⟩
theorem or_mul {n : Nat} (R S T : Nat → Nat → Bool) : rowsOf n (mulR n (orR R S) T) = rowsOf n (orR (mulR n R T) (mulR n S T)) := rowsOf_congr fun p q hp hq => by
  rw [Bool.eq_iff_iff, mulR_iff]
  show _ ↔ (mulR n R T p q || mulR n S T p q) = true
  rw [Bool.or_eq_true, mulR_iff, mulR_iff]
  constructor
  · rintro ⟨r, h1, h2, h3⟩
    rcases Bool.or_eq_true _ _ ▸ h2 with h | h
    · exact .inl ⟨r, h1, h, h3⟩
    · exact .inr ⟨r, h1, h, h3⟩
  · rintro (⟨r, h1, h, h3⟩ | ⟨r, h1, h, h3⟩)
    · exact ⟨r, h1, by show (R p r || S p r) = true; rw [h]; rfl, h3⟩
    · exact ⟨r, h1, by show (R p r || S p r) = true; rw [h, Bool.or_true], h3⟩
theorem and_or {n : Nat} (R S : Nat → Nat → Bool) : rowsOf n (orR (andR R S) R) = rowsOf n R := rowsOf_congr fun p q _ _ => by
  show ((R p q && S p q) || R p q) = R p q
  cases R p q <;> cases S p q <;> rfl
theorem or_and {n : Nat} (R S : Nat → Nat → Bool) : rowsOf n (andR (orR R S) R) = rowsOf n R := rowsOf_congr fun p q _ _ => by
  show ((R p q || S p q) && R p q) = R p q
  cases R p q <;> cases S p q <;> rfl
theorem mul_id {n : Nat} (R : Nat → Nat → Bool) : rowsOf n (mulR n R idR) = rowsOf n R := rowsOf_congr fun p q hp hq => by
  rw [Bool.eq_iff_iff, mulR_iff]
  constructor
  · rintro ⟨r, _, h2, h3⟩
    have h3 : r = q := by simpa [idR] using h3
    rw [← h3]; exact h2
  · intro h
    exact ⟨q, hq, h, by simp [idR]⟩
theorem id_mul {n : Nat} (R : Nat → Nat → Bool) : rowsOf n (mulR n idR R) = rowsOf n R := rowsOf_congr fun p q hp hq => by
  rw [Bool.eq_iff_iff, mulR_iff]
  constructor
  · rintro ⟨r, _, h2, h3⟩
    have h2 : p = r := by simpa [idR] using h2
    rw [h2]; exact h3
  · intro h
    exact ⟨p, hp, by simp [idR], h⟩
theorem lists_in (ls : List (List Nat)) : listsA ls = rowsIn true true (intsOf ls) := by
  show lstA _ = lstA _
  rw [intsOf_as]
  rfl
theorem enc_rows {K : PySem.W.Frag} : Enc K 2 tupsA (okL (okL fun _ => True)) := enc_tup (enc_tup enc_nat)
theorem enc_lists {K : PySem.W.Frag} : Enc K 2 listsA (okL (okL fun _ => True)) := enc_lst (enc_lst enc_nat)
/-- the class, and its constructor -/
structure RelK (P : Program) (w : World) (K : PySem.W.Frag) (mg : Str → Option Value) (base : Heap) (C CP : Addr) : Prop where
  T : RTx K C
  sf : PySem.W.selfFirst K C = true
  kk : MkX P w K mg base 4 C "Relation" ["self", "rows"] (spRelI C CP)
section
variable {X : Cx} {a b e : Expr} {ρ : List En} {pos p1 p2 : Pos} {n : Nat} {R S : Nat → Nat → Bool} {C CP CM : Addr}
theorem ea_rel (D : RelK X.prog X.w X.K X.mg X.base C CP) (hr : Room 6 X.A) (hn : n ≤ 300) (h : EA X e ρ (listsA (rowsOf n R))) (hg : Gl X "Relation" := by rfl) (he : starEach [e] X.env = (false, eval e X.env) :: starEach [] X.env := by rfl) (hpl : (backTo pos (starEach [] X.env)).any (·.1) = false := by rfl) : EA X (.Call (.Name "Relation" p1) [e] [] pos) ρ (relA C n R) := by
  obtain ⟨h1, h2⟩ := mk_rows (C := C) (CP := CP) (n := n) (T := R) hn
  exact ea_makeX D.kk (hr.mono (show 5 ≤ 6 by decide)) (true, true, intsOf (rowsOf n R)) h1 h2 (eas_cons (ea_is h (lists_in _)) eas_nil he) hg (by decide) he hpl
theorem ea_rows (D : RelK X.prog X.w X.K X.mg X.base C CP) (ha : EA X a ρ (relA C n R)) (hb : attributeBase a "rows" X.env (eval a X.env) = eval a X.env := by rfl) : EA X (.Attribute a "rows" p1) ρ (tupsA (rowsOf n R)) :=
  ea_is (ea_fld (A := rowsA n R) ha D.T.cl D.T.nR rfl hb) (rowsA_of n R)
theorem ea_size (D : RelK X.prog X.w X.K X.mg X.base C CP) (ha : EA X a ρ (relA C n R)) (hb : attributeBase a "size" X.env (eval a X.env) = eval a X.env := by rfl) : EA X (.Attribute a "size" p1) ρ (nat n) :=
  ea_fld (A := nat n) ha D.T.cl D.T.nS rfl hb
theorem cm_rows {k : Nat} {ls ms : List (List Nat)} (hr : Room k X.A) (h : ls = ms) : Cm X .NotEq (tupsA ls) (tupsA ms) false := by
  have z := cm_ne (a := ls) (b := ms) hr (enc_rows (K := X.K)) (fun _ _ _ _ => trivial) (fun _ _ _ _ => trivial)
  rwa [decide_eq_true h] at z
theorem ea_sameX {ls : List (List Nat)} {x1 x2 : Expr} (D : Df X.prog X.w X.K X.mg X.base 2 "_law_same_rows" ["_law_rows", "_law_due"] spSam) (hr : Room 2 X.A) (hs : smallL ls) (h1 : EA X x1 ρ (tupsA ls)) (h2 : EA X x2 ρ (listsA ls)) (hg : Gl X "_law_same_rows" := by rfl)
    (he : starEach [x1, x2] X.env = (false, eval x1 X.env) :: starEach [x2] X.env := by rfl) (he2 : starEach [x2] X.env = (false, eval x2 X.env) :: starEach [] X.env := by rfl) (hpl : (backTo pos (starEach [x2] X.env)).any (·.1) = false := by rfl) : EA X (.Call (.Name "_law_same_rows" p1) [x1, x2] [] pos) ρ (bl true) :=
  ea_callB D hr ls hs rfl (eas_cons h1 (eas_cons h2 eas_nil he2) he) hg (by decide) he hpl
end
end Kv

set_option Elab.async false
set_option linter.all false
set_option maxRecDepth 100000
set_option maxHeartbeats 4000000
namespace Kv
open PySem PySem.Calls L2 Lk
/-- what a caught error of the program is asked -/
structure ErI (K : PySem.W.Frag) (mg : Str → Option Value) (CM CP CV : Addr) : Prop where
  C : ExcC K CM
  nm : mg "SizeMismatch" = some (.ref CM)
  ex : PySem.W.exmOne K (.ref CM) (.ref CM) = some true
  gV : mg "VoiceError" = some (.ref CV)
  kV : PySem.W.kitOne K (.ref CM) (.ref CV) = some true
  mE : mg "ValueError" = none
  kE : PySem.W.kitOne K (.ref CM) (.type "ValueError") = some true
  gP : mg "BadPlace" = some (.ref CP)
  kP : PySem.W.kitOne K (.ref CM) (.ref CP) = some false
  mI : mg "isinstance" = none
theorem bo_ve : bootBuiltins ("ValueError" : Str) = some (.type "ValueError") := by decide +kernel
theorem ocSm_ne {CM : Addr} {n m : Nat} {A : As} (h : n ≠ m) : ocSm CM n m A = .exc (erSm CM) := if_neg h
section
variable {P : Program} {w : World} {K : PySem.W.Frag} {mg : Str → Option Value} {base : Heap} {C CP CM CV : Addr}
/-! ### _law_refused -/
abbrev sRef : Stmt := (topS 19)
abbrev nRef : List Str := ["_law_one", "_law_two", "e"]
theorem sc_ref : FnScope nRef ["_law_one", "_law_two"] (defScope sRef) := ⟨rfl, rfl, rfl, by decide +kernel, rfl, by decide +kernel, by decide +kernel⟩
abbrev spRef (C : Addr) : Sp := spX (fun i : R2I => okSz i ∧ i.n ≠ i.m) (fun i => [relA C i.n i.R, relA C i.m i.S]) (fun _ => bl true)
theorem ok_ref {f : Addr} {fd : FuncData} (F : Fun K "_law_refused" "_law_refused" sRef f fd) (T : ErI K mg CM CP CV) (sf : PySem.W.selfFirst K C = true) (MM : MfX P w K mg base 6 C "__mul__" ["self", "other"] (spMul C CM)) : FnOk P w K mg base CX0 7 f fd ["_law_one", "_law_two"] (spRef C) := by
  refine fn_ok F sc_ref (fun _ _ => rfl) fun ⟨n, R, m, S⟩ cdv B outer s H E ⟨hz, hne⟩ hr => ?_
  have nd := sc_ref.nd
  have hne : n ≠ m := hne
  refine ba_cons (sa_try_as (C := CM) (fs := []) 2 rfl rfl nd rfl rfl ⟨rfl, rfl, .inl T.nm⟩ takes0 T.ex (fun wx pn xe tk po => ?hb) (fun a oe d pn hzc hf => ?hs))
  case hb =>
    refine ba_one (sa_exprX (o1 := ocSm CM n m (relA C n (mulR n R S))) (ex_bin MM (by decide) sf hr tk ⟨n, R, m, S⟩ hz (ea_var 0 rfl) (ea_var 1 rfl) rfl (fun F v hv => ?_)) (fun F cls d he => ?_) (fun ⟨F, v, hv⟩ => ?_))
    · have hv : (ocSm CM n m (relA C n (mulR n R S))).R.p F v := hv
      rw [ocSm_ne hne] at hv
      exact hv.elim
    · rw [ocSm_ne hne] at he
      exact ⟨rfl, he⟩
    · rw [ocSm_ne hne] at hv
      exact hv.elim
  case hs =>
    exact ba_one (sa_ret (ea_is (ea_and (ea_w (ea_isXo T.C hzc hf (ea_var 2 rfl) T.gV T.kV T.mI)) fun _ => ea_and (ea_w (ea_isXb T.C hzc hf (ea_var 2 rfl) T.mE bo_ve T.kE T.mI)) fun _ => ea_one (ea_not (ea_w (ea_isXo T.C hzc hf (ea_var 2 rfl) T.gP T.kP T.mI)))) rfl))
end
end Kv

set_option Elab.async false
set_option linter.all false
set_option maxRecDepth 100000
set_option maxHeartbeats 4000000
namespace Kv
open PySem PySem.Calls L2 Lk
section
variable {P : Program} {w : World} {K : PySem.W.Frag} {mg : Str → Option Value} {base : Heap} {C CP CM : Addr}
abbrev sLaw : Stmt := (topS 20)
abbrev nLaw : List Str := ["_law_script", "_law_size", "_law_one", "_law_two", "_law_first", "_law_second", "_law_found", "_law_other", "_law_j"]
theorem sc_law : FnScope nLaw ["_law_script"] (defScope sLaw) := ⟨rfl, rfl, rfl, by decide +kernel, rfl, by decide +kernel, by decide +kernel⟩
abbrev spLaw (K : PySem.W.Frag) : Sp := spX (fun _ : List Int => True) (fun ns => [scr K ns]) (fun _ => bl true)
abbrev noR : Nat → Nat → Bool := fun _ _ => false
theorem asc_no {n : Nat} : asc n (fun _ => false) = [] := List.filter_eq_nil_iff.mpr fun _ _ => by simp
theorem ok_law {f : Addr} {fd : FuncData} (F : Fun K "law" "law" sLaw f fd) (D : RelK P w K mg base C CP) (O : IsO K C) (gR : mg "Relation" = some (.ref C)) (mI : mg "int" = none) (mR : mg "range" = none) (mIs : mg "isinstance" = none)
    (DC : Df P w K mg base 1 "_law_cell" ["_law_script", "_law_k"] (spCl K)) (DL : Df P w K mg base 3 "_law_relation" ["_law_script", "_law_k", "_law_size"] (spLre K)) (DS : Df P w K mg base 2 "_law_same_rows" ["_law_rows", "_law_due"] spSam) (DP : Df P w K mg base 1 "_law_product" ["_law_one", "_law_two"] spPro)
    (DF : Df P w K mg base 7 "_law_refused" ["_law_one", "_law_two"] (spRef C)) (MM : MfX P w K mg base 6 C "__mul__" ["self", "other"] (spMul C CM)) :
    FnOk P w K mg base CX0 8 f fd ["_law_script"] (spLaw K) := by
  refine fn_ok F sc_law (fun _ _ => rfl) fun ns cdv B0 outer s H E _ hr => ?_
  have nd := sc_law.nd
  have r6 := hr.mono (show 6 ≤ 7 by decide)
  have r3 := hr.mono (show 3 ≤ 7 by decide)
  have r2 := hr.mono (show 2 ≤ 7 by decide)
  have r1 := hr.mono (show 1 ≤ 7 by decide)
  refine ba_cons (sa_set 1 nd (ea_nat 7 (ea_mod (ea_w (ea_int1 (ea_w (ea_callB DC r1 (ns, 0) trivial (rfl : _ = int (cellA ns 0)) (eas_cons (ea_var 0 rfl) (eas_cons (ea_is (A := int 0) ea_int rfl) eas_nil)))) mI)) (ea_w ea_int) (by decide)) (Int.emod_nonneg _ (by decide)) (by have := Int.emod_lt_of_pos (cellA ns 0) (show (0 : Int) < 8 by decide); show cellA ns 0 % 8 ≤ 7; omega)) ?_)
  refine ba_ex (i := 1) rfl fun n hn => ?_
  have hn : n ≤ 7 := hn
  have n3 : n ≤ 300 := by omega
  refine ba_cons (sa_set 2 nd (ea_callB DL r3 (ns, 1, n) ⟨show (1 : Nat) ≤ 1000 by decide, hn⟩ (rfl : _ = relsA n) (eas_cons (ea_var 0 rfl) (eas_cons (ea_is (A := int 1) ea_int rfl) (eas_cons (ea_var 1 rfl) eas_nil)))) ?_)
  refine ba_ex (i := 2) rfl fun R _ => ?_
  refine ba_cons (sa_set 3 nd (ea_callB DL r3 (ns, 2, n) ⟨show (2 : Nat) ≤ 1000 by decide, hn⟩ (rfl : _ = relsA n) (eas_cons (ea_var 0 rfl) (eas_cons (ea_is (A := int 2) ea_int rfl) (eas_cons (ea_var 1 rfl) eas_nil)))) ?_)
  refine ba_ex (i := 3) rfl fun S _ => ?_
  have sm : ∀ U : Nat → Nat → Bool, smallL (rowsOf n U) := fun U => smallL_rows U n3
  refine ba_cons (sa_set 4 nd (ea_rel D r6 n3 (ea_var 2 rfl)) ?_)
  refine ba_cons (sa_set 5 nd (ea_rel D r6 n3 (ea_var 3 rfl)) ?_)
  let ρ0 : List En := [.fr (scr K ns), .fr (nat n), .fr (listsA (rowsOf n R)), .fr (listsA (rowsOf n S)), .fr (relA C n R), .fr (relA C n S), .no, .no, .no]
  have z2 : (2 : Nat) ≤ sizeLine := by rw [sizeLine_eq]; decide
  refine ba_cons (sa_for (l := [relA C n (mulR n R S), relA C n (mulR n R S)]) 6 (fun _ ρ' => ρ' = ρ0) PassesOwn.never rfl nd (en_a (en_lst (eas_cons (ea_mulX MM D.sf r6 n3 (ea_var 4 rfl) (ea_var 5 rfl)) (eas_cons (ea_mulX MM D.sf r6 n3 (ea_var 4 rfl) (ea_var 5 rfl)) eas_nil)) z2)) ⟨_, rfl, .refl _⟩ ?hs ?hd)
  case hs =>
    rintro i A ρ' hi rfl
    have hA : A = relA C n (mulR n R S) := by
      match i, hi with
      | 0, hi => simpa using hi.symm
      | 1, hi => simpa using hi.symm
      | _ + 2, hi => simp at hi
    subst hA
    refine ba_cons (sa_if (k := false) (et_w (ewt_or (j := false) (k := false) (et_is (et_not (et_v (ea_w (ea_isO O (ea_var 6 rfl) gR mIs)))) rfl) fun _ => ewt_or1 (et_is (et_cm (ea_w (ea_size D (ea_var 6 rfl))) (ea_w (ea_var 1 rfl)) cm_neI rfl) ?_))) (fun h => by cases h) (fun _ => ba_nil ?_))
    · simp
    refine ba_one (sa_if (k := false) (et_is (et_not (et_v (ea_w (ea_sameX DS r2 (sm _) (ea_rows D (ea_var 6 rfl)) (ea_callB DP r1 (n, R, S) n3 rfl (eas_cons (ea_var 2 rfl) (eas_cons (ea_var 3 rfl) eas_nil))))))) rfl) (fun h => by cases h) (fun _ => ba_nil ⟨ρ0, rfl, .same (.same (.same (.same (.same (.same (.no (.same (.same .nil))))))))⟩))
  case hd =>
    rintro ρ' rfl
    refine ba_cons (sa_if (k := false) (et_is (et_not (et_v (ea_w (ea_sameX DS r2 (sm _) (ea_rows D (ea_mulX MM D.sf r6 n3 (ea_var 5 rfl) (ea_var 4 rfl))) (ea_callB DP r1 (n, S, R) n3 rfl (eas_cons (ea_var 3 rfl) (eas_cons (ea_var 2 rfl) eas_nil))))))) rfl) (fun h => by cases h) (fun _ => ba_nil ?_))
    refine ba_cons (sa_if (k := false) (et_is (et_not (et_v (ea_w (ea_sameX DS r2 (sm _) (ea_rows D (ea_mulX MM D.sf r6 n3 (ea_var 4 rfl) (ea_var 4 rfl))) (ea_callB DP r1 (n, R, R) n3 rfl (eas_cons (ea_var 2 rfl) (eas_cons (ea_var 2 rfl) eas_nil))))))) rfl) (fun h => by cases h) (fun _ => ba_nil ?_))
    refine ba_cons (sa_if (k := false) (et_w (ewt_or (j := false) (k := false) (et_is (et_not (et_v (ea_w (ea_sameX DS r2 (sm _) (ea_rows D (ea_var 4 rfl)) (ea_var 2 rfl))))) rfl) fun _ => ewt_or1 (et_is (et_not (et_v (ea_w (ea_sameX DS r2 (sm _) (ea_rows D (ea_var 5 rfl)) (ea_var 3 rfl))))) rfl))) (fun h => by cases h) (fun _ => ba_nil ?_))
    obtain ⟨c, hc, hc2⟩ : ∃ c : Nat, cellA ns 3 % 3 = (c : Int) ∧ c ≤ 2 := ⟨(cellA ns 3 % 3).toNat, (Int.toNat_of_nonneg (Int.emod_nonneg _ (by decide))).symm, by have := Int.emod_lt_of_pos (cellA ns 3) (show (0 : Int) < 3 by decide); omega⟩
    have m3 : n + 1 + c ≤ 300 := by omega
    refine ba_cons (sa_set 7 nd (A := relA C (n + 1 + c) noR) (ea_rel D r6 m3 (en_a (en_is (en_lcR (own := [("_law_j", 8)]) (z := ((n + 1 + c : Nat) : Int)) (p := fun _ => true) (g := fun _ => natsL []) 8 rfl nd mR
      (ea_w (ea_is (ea_add (ea_w (ea_add (ea_w (ea_var 1 rfl)) (ea_w ea_int))) (ea_w (ea_mod (ea_w (ea_int1 (ea_w (ea_callB DC r1 (ns, 3) trivial (rfl : _ = int (cellA ns 3)) (eas_cons (ea_var 0 rfl) (eas_cons (ea_is (A := int 3) ea_int rfl) eas_nil)))) mI)) (ea_w ea_int) (by decide)))) ?zz))
      (by omega) (blkOk_by (N := nLaw) (sc := defScope sLaw) (by decide +kernel)) (fun _ _ _ _ _ => pg_name nd rfl (Or.inl rfl)) (fun _ _ _ _ _ _ _ => pts_yes) (fun _ _ _ _ _ j hj _ => ?el)) ?eq))) ?_)
    case zz =>
      rw [hc]
      push_cast
      rfl
    case el => exact en_a (en_lst eas_nil (Nat.zero_le _))
    case eq =>
      rw [flt_all, Int.toNat_natCast, List.map_map]
      refine List.map_congr_left fun p hp => ?_
      show natsL [] = natsL (asc (n + 1 + c) fun _ => false)
      rw [asc_no]
    exact ba_one (sa_ret (ea_is (ea_and (ea_w (ea_callB DF hr ⟨n, R, n + 1 + c, noR⟩ ⟨⟨n3, m3⟩, by show n ≠ n + 1 + c; omega⟩ rfl (eas_cons (ea_var 4 rfl) (eas_cons (ea_var 7 rfl) eas_nil)))) fun _ => ea_one (ea_callB DF hr ⟨n + 1 + c, noR, n, R⟩ ⟨⟨m3, n3⟩, by show n + 1 + c ≠ n; omega⟩ rfl (eas_cons (ea_var 7 rfl) (eas_cons (ea_var 4 rfl) eas_nil)))) rfl))
end
end Kv

set_option Elab.async false
set_option linter.all false
set_option maxRecDepth 100000
set_option maxHeartbeats 4000000
namespace Kv
open PySem PySem.Calls L2 Lk
/-! ### what the top has written -/
section
variable {P : Program} {w : World} {K : PySem.W.Frag} {mg : Str → Option Value} {base h : Heap} {C CM : Addr}
/-- a def of the module -/
structure FnAt (K : PySem.W.Frag) (x : Str) (st : Stmt) : Prop where
  ex : ∃ f fd, PySem.W.nsIn K mainGlobals x = some (some (.ref f)) ∧ Fun K x x st f fd
theorem fn_at {x : Str} {st : Stmt} {f : Addr} {oc : Value} {od an : Option Addr} {osl : Array (Option Value)} {kV doc pm cdv ct : Value} (a : PySem.W.nsIn K mainGlobals x = some (some (.ref f))) (l : K.lookup f = some ⟨oc, od, .func (PySem.W.fnOf x x (defArgs st) (defBody st) (defScope st) .none kV doc pm an cdv ct), osl⟩)
    (c : PySem.W.codeIn K cdv x = true) (k : PySem.W.keepIn K (.ref f) = true) : FnAt K x st := ⟨f, _, a, fun_mk l c k⟩
/-- a method -/
structure MtAt (K : PySem.W.Frag) (C : Addr) (m qual : Str) (st : Stmt) : Prop where
  ex : ∃ f fd, Meth K C m f ∧ Fun K m qual st f fd
theorem mt_at {m qual : Str} {st : Stmt} {f : Addr} {oc : Value} {od an : Option Addr} {osl : Array (Option Value)} {kV doc pm cdv ct : Value} (a : PySem.W.findIn K (.ref C) m = some (some (.ref f))) (i : PySem.W.isFn K (.ref f) = true) (l : K.lookup f = some ⟨oc, od, .func (PySem.W.fnOf m qual (defArgs st) (defBody st) (defScope st) .none kV doc pm an cdv ct), osl⟩)
    (c : PySem.W.codeIn K cdv qual = true) (k : PySem.W.keepIn K (.ref f) = true) : MtAt K C m qual st := ⟨f, _, ⟨a, i, k⟩, fun_mk l c k⟩
/-- a property -/
structure PrAt (K : PySem.W.Frag) (C : Addr) (m qual : Str) (st : Stmt) : Prop where
  ex : ∃ p g fd, PropOf K C m p g ∧ Fun K m qual st g fd
theorem pr_at {m qual : Str} {st : Stmt} {p g : Addr} {rest : List Value} {oc : Value} {od an : Option Addr} {osl : Array (Option Value)} {kV doc pm cdv ct : Value} (a : PySem.W.findIn K (.ref C) m = some (some (.ref p))) (gt : PySem.W.specialIn K (.ref p) "__get__" = some (some (.builtin "property.__get__"))) (tk : PySem.W.takesIn K (.ref p) = some true) (rc : PySem.W.recIn K p "property" = some (.ref g :: rest))
    (l : K.lookup g = some ⟨oc, od, .func (PySem.W.fnOf m qual (defArgs st) (defBody st) (defScope st) .none kV doc pm an cdv ct), osl⟩) (c : PySem.W.codeIn K cdv qual = true) (k : PySem.W.keepIn K (.ref g) = true) : PrAt K C m qual st := ⟨p, g, _, ⟨a, gt, tk, ⟨rest, rc⟩⟩, fun_mk l c k⟩
/-- the constructor of a class -/
structure MkAt (K : PySem.W.Frag) (C : Addr) (x qual : Str) (st : Stmt) (dvs : List V) : Prop where
  nm : PySem.W.nsIn K mainGlobals x = some (some (.ref C))
  ex : ∃ f fd, Mk K C f ∧ FunD K "__init__" qual (defArgs st) (defBody st) (defScope st) dvs [] f fd
theorem mk_at0 {x qual : Str} {st : Stmt} {f : Addr} {oc : Value} {od an : Option Addr} {osl : Array (Option Value)} {kV doc pm cdv ct : Value} (n : PySem.W.nsIn K mainGlobals x = some (some (.ref C))) (m : PySem.W.makesIn K C = true) (kc : PySem.W.keepIn K (.ref C) = true) (a : PySem.W.findIn K (.ref C) "__init__" = some (some (.ref f))) (i : PySem.W.isFn K (.ref f) = true)
    (l : K.lookup f = some ⟨oc, od, .func (PySem.W.fnOf "__init__" qual (defArgs st) (defBody st) (defScope st) .none kV doc pm an cdv ct), osl⟩) (c : PySem.W.codeIn K cdv qual = true) (k : PySem.W.keepIn K (.ref f) = true) : MkAt K C x qual st [] := ⟨n, f, _, ⟨m, a, i, kc⟩, ⟨⟨oc, od, .none, kV, doc, pm, an, cdv, ct, osl, rfl, l, c, .inl ⟨rfl, rfl⟩, .inl rfl⟩, k⟩⟩
theorem mk_at1 {x qual : Str} {st : Stmt} {f tt ea : Addr} {oc tc : Value} {od an td : Option Addr} {osl tsl : Array (Option Value)} {kV doc pm cdv ct : Value} {tn : Nat} (n : PySem.W.nsIn K mainGlobals x = some (some (.ref C))) (m : PySem.W.makesIn K C = true) (kc : PySem.W.keepIn K (.ref C) = true) (a : PySem.W.findIn K (.ref C) "__init__" = some (some (.ref f))) (i : PySem.W.isFn K (.ref f) = true)
    (l : K.lookup f = some ⟨oc, od, .func (PySem.W.fnOf "__init__" qual (defArgs st) (defBody st) (defScope st) (.ref tt) kV doc pm an cdv ct), osl⟩) (lt : K.lookup tt = some ⟨tc, td, .seq #[.ref ea] tn, tsl⟩) (c : PySem.W.codeIn K cdv qual = true) (k : PySem.W.keepIn K (.ref f) = true) : MkAt K C x qual st [.ref ea] :=
  ⟨n, f, _, ⟨m, a, i, kc⟩, ⟨⟨oc, od, .ref tt, kV, doc, pm, an, cdv, ct, osl, rfl, l, c, .inr ⟨by simp, tt, _, [.ref ea], tn, rfl, lt, rfl, .cons rfl .nil⟩, .inl rfl⟩, k⟩⟩
end
end Kv

set_option Elab.async false
set_option linter.all false
set_option maxRecDepth 100000
set_option maxHeartbeats 4000000
namespace Kv
open PySem PySem.Calls L2 Lk
/-- a def that may raise, named -/
theorem mDX {P : Program} {w : World} {K : PySem.W.Frag} {mg : Str → Option Value} {base : Heap} {k : Nat} {x qual : Str} {st : Stmt} {f : Addr} {fd : FuncData} {ps : List Str} {sp : Sp} (F : Fun K x qual st f fd) (hm : mg x = some (.ref f)) (hb : Binds K fd ps []) (ok : FnOk P w K mg base (L2.CX P w) k f fd ps sp) : DfX P w K mg base k x ps sp := ⟨f, fd, ok, hm, F.kp, hb⟩
theorem exm_self {K : PySem.W.Frag} {S : Addr} (h1 : PySem.W.subIn K (.ref S) (.type "BaseException") = some true) (h2 : PySem.W.isClsIn K S = true) (h3 : PySem.W.typeIn K (.ref S) = some (.type "type")) (h4 : PySem.W.subIn K (.ref S) (.ref S) = some true) : PySem.W.exmOne K (.ref S) (.ref S) = some true := by
  have e1 : (PySem.W.subIn K (.ref S) (.type "BaseException") == some true) = true := by rw [h1] <;> rfl
  have e2 : ((PySem.W.clsIn K S).isSome && PySem.W.typeIn K (.ref S) == some (.type "type")) = true := by
    have h2' : (PySem.W.clsIn K S).isSome = true := h2
    rw [h2', h3] <;> rfl
  show (if (PySem.W.subIn K (.ref S) (.type "BaseException") == some true) = true then (if ((PySem.W.clsIn K S).isSome && PySem.W.typeIn K (.ref S) == some (.type "type")) = true then PySem.W.subIn K (.ref S) (.ref S) else none) else none) = some true
  rw [if_pos e1, if_pos e2]
  exact h4
section
variable {w : World} {K : PySem.W.Frag} {mg : Str → Option Value} {h : Heap} {C CP CM CV : Addr}
local macro_rules | `(tactic| walk_at "b1") => `(tactic| exact fun _ _ _ _ _ _ us hl => match us, hl with | [_], _ => rfl)
local macro_rules | `(tactic| walk_at "b2") => `(tactic| exact fun _ _ _ _ _ _ us hl => match us, hl with | [_, _], _ => rfl)
local macro_rules | `(tactic| walk_at "b3") => `(tactic| exact fun _ _ _ _ _ _ us hl => match us, hl with | [_, _, _], _ => rfl)
theorem all_mk {l : PySem.W.OpenLaw} {fa : Addr} (X : K.In h) (G : h.Ns mainGlobals mg) (hfa : mg "law" = some (.ref fa))
    (a_ascending : FnAt K "ascending" sAsc)
    (a_requireuplaces : FnAt K "require_places" sRqp)
    (a_requireusameusize : FnAt K "require_same_size" sRqs)
    (a_reached : FnAt K "reached" sRea)
    (a_ulawucell : FnAt K "_law_cell" sCell)
    (a_ulawudigits : FnAt K "_law_digits" sDigits)
    (a_ulawuisunumber : FnAt K "_law_is_number" sIsn)
    (a_ulawurelation : FnAt K "_law_relation" sLre)
    (a_ulawusameurows : FnAt K "_law_same_rows" sSam)
    (a_ulawuproduct : FnAt K "_law_product" sPro)
    (a_ulawurefused : FnAt K "_law_refused" sRef)
    (a_law : FnAt K "law" sLaw)
    (T : RTx K C)
    (sf : PySem.W.selfFirst K C = true)
    (kR : MkAt K C "Relation" "Relation.__init__" sRelI [])
    (m_uumuluu : MtAt K C "__mul__" "Relation.__mul__" sMul)
    (eB : ExAt l.prog K CP "BadPlace" "BadPlace.__init__" "place" sBpl)
    (s1 : PySem.W.nsIn K mainGlobals "SizeMismatch" = some (some (.ref CM)))
    (s2 : PySem.W.keepIn K (.ref CM) = true)
    (s3 : PySem.W.excIn K CM [.type "ValueError", .type "Exception", .type "BaseException", .type "object"] "ValueError.__new__" = true)
    (s4 : PySem.W.subIn K (.ref CM) (.type "BaseException") = some true)
    (s5 : PySem.W.typeIn K (.ref CM) = some (.type "type"))
    (e0 : ExcC K CM)
    (e1 : PySem.W.isClsIn K CM = true)
    (e2 : PySem.W.subIn K (.ref CM) (.ref CM) = some true)
    (e3 : PySem.W.nsIn K mainGlobals "VoiceError" = some (some (.ref CV)))
    (e4 : PySem.W.kitOne K (.ref CM) (.ref CV) = some true)
    (e5 : PySem.W.kitOne K (.ref CM) (.type "ValueError") = some true)
    (e6 : PySem.W.kitOne K (.ref CM) (.ref CP) = some false)
    (i1 : PySem.W.findIn K (.ref C) "__class__" = some (some (.builtin "object.__class__")))
    (i2 : PySem.W.specialIn K (.builtin "object.__class__") "__get__" = some (some (.builtin "getset_descriptor.__get__")))
    (i3 : PySem.W.takesIn K (.builtin "object.__class__") = some true)
    (i4 : PySem.W.mroIn K C (.type "object") = some true)
    (z1 : PySem.W.nsIn K mainGlobals "len" = some none)
    (z2 : PySem.W.nsIn K mainGlobals "int" = some none)
    (z3 : PySem.W.nsIn K mainGlobals "range" = some none)
    (z4 : PySem.W.nsIn K mainGlobals "sorted" = some none)
    (z5 : PySem.W.nsIn K mainGlobals "tuple" = some none)
    (z7 : PySem.W.nsIn K mainGlobals "isinstance" = some none)
    (z8 : PySem.W.nsIn K mainGlobals "bool" = some none)
    (z9 : PySem.W.nsIn K mainGlobals "ValueError" = some none) :
    ∃ fd : FuncData, (∀ (s : Shared) (v : Value), BindsTo s fd ⟨[v], []⟩ [("_law_script", v)]) ∧ ∀ base : Heap, K.In base → base.Ns mainGlobals mg → FnOk l.prog w K mg base CX0 8 fa fd ["_law_script"] (spLaw K) := by
  have q1 := PySem.W.mg_none_of X G z1
  have q2 := PySem.W.mg_none_of X G z2
  have q3 := PySem.W.mg_none_of X G z3
  have q4 := PySem.W.mg_none_of X G z4
  have q5 := PySem.W.mg_none_of X G z5
  have q7 := PySem.W.mg_none_of X G z7
  have q8 := PySem.W.mg_none_of X G z8
  have q9 := PySem.W.mg_none_of X G z9
  obtain ⟨fl, fdl, al, Fl⟩ := a_law.ex
  have e := hfa.symm.trans (PySem.W.mg_of X G al)
  cases e
  obtain ⟨f_ascending, fd_ascending, u_ascending, F_ascending⟩ := a_ascending.ex
  obtain ⟨f_requireuplaces, fd_requireuplaces, u_requireuplaces, F_requireuplaces⟩ := a_requireuplaces.ex
  obtain ⟨f_requireusameusize, fd_requireusameusize, u_requireusameusize, F_requireusameusize⟩ := a_requireusameusize.ex
  obtain ⟨f_reached, fd_reached, u_reached, F_reached⟩ := a_reached.ex
  obtain ⟨f_ulawucell, fd_ulawucell, u_ulawucell, F_ulawucell⟩ := a_ulawucell.ex
  obtain ⟨f_ulawudigits, fd_ulawudigits, u_ulawudigits, F_ulawudigits⟩ := a_ulawudigits.ex
  obtain ⟨f_ulawuisunumber, fd_ulawuisunumber, u_ulawuisunumber, F_ulawuisunumber⟩ := a_ulawuisunumber.ex
  obtain ⟨f_ulawurelation, fd_ulawurelation, u_ulawurelation, F_ulawurelation⟩ := a_ulawurelation.ex
  obtain ⟨f_ulawusameurows, fd_ulawusameurows, u_ulawusameurows, F_ulawusameurows⟩ := a_ulawusameurows.ex
  obtain ⟨f_ulawuproduct, fd_ulawuproduct, u_ulawuproduct, F_ulawuproduct⟩ := a_ulawuproduct.ex
  obtain ⟨f_ulawurefused, fd_ulawurefused, u_ulawurefused, F_ulawurefused⟩ := a_ulawurefused.ex
  obtain ⟨gR, gdR, MR, FR⟩ := kR.ex
  obtain ⟨g_uumuluu, gd_uumuluu, M_uumuluu, G_uumuluu⟩ := m_uumuluu.ex
  have bl : ∀ (s : Shared) (v : Value), BindsTo s fdl ⟨[v], []⟩ [("_law_script", v)] := fun s v => by
    obtain ⟨oc, od, kV, doc, pm, an, cdv, ct, osl, rfl, lk, hcd⟩ := Fl.ex
    exact .of_eq rfl
  refine ⟨fdl, bl, fun base _ _ => ?_⟩
  have EP : EPl l.prog w K mg base CP := er_bpl eB X G
  have E0 : Er0 K mg "SizeMismatch" CM := ⟨PySem.W.mg_of X G s1, s2, s3, s4, s5⟩
  have TE : ErI K mg CM CP CV := ⟨e0, PySem.W.mg_of X G s1, exm_self s4 e1 s5 e2, PySem.W.mg_of X G e3, e4, q9, e5, PySem.W.mg_of X G eB.nm, e6, q7⟩
  have O : IsO K C := ⟨T.cl, i1, i2, i3, i4⟩
  have gRel := PySem.W.mg_of X G kR.nm
  have D_ascending : Df l.prog w K mg base 1 "ascending" ["places"] spAsc := mD F_ascending (PySem.W.mg_of X G u_ascending) (F_ascending.binds (ps := ["places"]) (by walk_at "b1")) (ok_asc F_ascending q2 q5 q4)
  have D_require_places : DfX l.prog w K mg base 3 "require_places" ["places", "size"] (spRqp CP) := mDX F_requireuplaces (PySem.W.mg_of X G u_requireuplaces) (F_requireuplaces.binds (ps := ["places", "size"]) (by walk_at "b2")) (ok_rqp F_requireuplaces EP)
  have D_require_same_size : DfX l.prog w K mg base 1 "require_same_size" ["first", "second"] (spRqs C CM) := mDX F_requireusameusize (PySem.W.mg_of X G u_requireusameusize) (F_requireusameusize.binds (ps := ["first", "second"]) (by walk_at "b2")) (ok_rqs F_requireusameusize T E0)
  have D_reached : Df l.prog w K mg base 2 "reached" ["rows", "places"] spRea := mD F_reached (PySem.W.mg_of X G u_reached) (F_reached.binds (ps := ["rows", "places"]) (by walk_at "b2")) (ok_rea F_reached D_ascending)
  have D__law_cell : Df l.prog w K mg base 1 "_law_cell" ["_law_script", "_law_k"] (spCl K) := mD F_ulawucell (PySem.W.mg_of X G u_ulawucell) (F_ulawucell.binds (ps := ["_law_script", "_law_k"]) (by walk_at "b2")) (ok_cell F_ulawucell q1)
  have D__law_digits : Df l.prog w K mg base 2 "_law_digits" ["_law_script", "_law_k", "_law_count"] (spDigits K) := mD F_ulawudigits (PySem.W.mg_of X G u_ulawudigits) (F_ulawudigits.binds (ps := ["_law_script", "_law_k", "_law_count"]) (by walk_at "b3")) (ok_digits F_ulawudigits q2 q3 D__law_cell)
  have D__law_is_number : DfA l.prog w K mg base 1 "_law_is_number" ["_law_told"] spIsn := ⟨f_ulawuisunumber, fd_ulawuisunumber, ok_isn F_ulawuisunumber q7 q2 q8, PySem.W.mg_of X G u_ulawuisunumber, F_ulawuisunumber.kp, F_ulawuisunumber.binds (ps := ["_law_told"]) (by walk_at "b1")⟩
  have D__law_relation : Df l.prog w K mg base 3 "_law_relation" ["_law_script", "_law_k", "_law_size"] (spLre K) := mD F_ulawurelation (PySem.W.mg_of X G u_ulawurelation) (F_ulawurelation.binds (ps := ["_law_script", "_law_k", "_law_size"]) (by walk_at "b3")) (ok_lre F_ulawurelation q3 D__law_digits)
  have D__law_same_rows : Df l.prog w K mg base 2 "_law_same_rows" ["_law_rows", "_law_due"] spSam := mD F_ulawusameurows (PySem.W.mg_of X G u_ulawusameurows) (F_ulawusameurows.binds (ps := ["_law_rows", "_law_due"]) (by walk_at "b2")) (ok_sam F_ulawusameurows q7 q5 q1 q3 D__law_is_number.df)
  have D__law_product : Df l.prog w K mg base 1 "_law_product" ["_law_one", "_law_two"] spPro := mD F_ulawuproduct (PySem.W.mg_of X G u_ulawuproduct) (F_ulawuproduct.binds (ps := ["_law_one", "_law_two"]) (by walk_at "b2")) (ok_pro F_ulawuproduct q3 q1)
  have FR2 : Fun K "__init__" "Relation.__init__" sRelI gR gdR := by
    obtain ⟨oc, od, dV, kV, doc, pm, an, cdv, ct, osl, rfl, lk, hcd, hD, _⟩ := FR.ex
    rcases hD with ⟨_, rfl⟩ | ⟨e, _⟩
    · exact ⟨⟨oc, od, kV, doc, pm, an, cdv, ct, osl, rfl, lk, hcd⟩, FR.kp⟩
    · exact absurd rfl e
  have DK : MkX l.prog w K mg base 4 C "Relation" ["self", "rows"] (spRelI C CP) := ⟨_, _, ok_relI FR2 T q1 q5 D_ascending D_require_places, MR, FR2.binds (ps := ["self", "rows"]) (by walk_at "b2"), PySem.W.mg_of X G kR.nm⟩
  have M___mul__ : MfX l.prog w K mg base 6 C "__mul__" ["self", "other"] (spMul C CM) := ⟨g_uumuluu, gd_uumuluu, ok_mul G_uumuluu T D_reached D_require_same_size DK, M_uumuluu, G_uumuluu.binds (ps := ["self", "other"]) (by walk_at "b2")⟩
  have D__law_refused : Df l.prog w K mg base 7 "_law_refused" ["_law_one", "_law_two"] (spRef C) := mD F_ulawurefused (PySem.W.mg_of X G u_ulawurefused) (F_ulawurefused.binds (ps := ["_law_one", "_law_two"]) (by walk_at "b2")) (ok_ref F_ulawurefused TE sf M___mul__)
  exact ok_law Fl ⟨T, sf, DK⟩ O gRel q2 q3 q7 D__law_cell D__law_relation D__law_same_rows D__law_product D__law_refused M___mul__
end
theorem walk {l : PySem.W.OpenLaw} {q : Program} {loose : List Str} {XP : (Str → Option Value) → Heap → Prop} {YP : World → Heap → Prop} {d : DefRec} {K : Params → PySem.W.Frag} (hn : l.most = some 63) (hdf : d.params.defaults = [])
    (hY : ∀ (w : World) (h : Heap), YP w h → (K w.params).In h)
    (F : ∀ (w : World) (mg : Str → Option Value) (fa : Addr) (h : Heap), (K w.params).In h → h.Ns mainGlobals mg → mg d.name = some (.ref fa) →
      ∃ fd : FuncData, (∀ (s : Shared) (u : Value), BindsTo s fd ⟨[u], []⟩ [("_law_script", u)]) ∧ ∀ base : Heap, (K w.params).In base → base.Ns mainGlobals mg → FnOk l.prog w (K w.params) mg base CX0 8 fa fd ["_law_script"] (spLaw (K w.params))) :
    PySem.W.WalkO q loose XP YP l.row.toRowW d [] (fun f vs => PySem.call f vs) :=
  L2.walk_of (n := 63) (k := 8) (x := "_law_script") (CX := fun _ => CX0) (sp := fun w => spLaw (K w.params)) hn (by decide) hdf ⟨rfl, by decide, by decide⟩ hY F (fun _ H a ns hl _ hS => ⟨ns, trivial, H, Ex.refl H, ⟨⟨a, rfl, hS⟩, trivial⟩, fun v H' F' g hv => hv⟩) fun _ _ _ _ _ z => z
end Kv

set_option Elab.async false
set_option linter.all false
set_option maxRecDepth 100000
open PySem PySem.W PyProof.Rows
local macro_rules | `(tactic| walk_at "def") => `(tactic| (refine' Kv.fn_at ?a ?l ?c ?k; (case a => k_is); (case l => k_is); (case c => k_is); (case k => k_is)))
local macro_rules | `(tactic| walk_at "met") => `(tactic| (refine' Kv.mt_at ?a ?i ?l ?c ?k; (case a => k_is); (case i => k_is); (case l => k_is); (case c => k_is); (case k => k_is)))
local macro_rules | `(tactic| walk_at "mk0") => `(tactic| (refine' Kv.mk_at0 ?n ?m ?kc ?a ?i ?l ?c ?k; (case n => k_is); (case m => k_is); (case kc => k_is); (case a => k_is); (case i => k_is); (case l => k_is); (case c => k_is); (case k => k_is)))
local macro_rules | `(tactic| walk_at "cls") => `(tactic| (refine' ⟨?pg, ?hd, ?po, ?sa⟩; (case pg => k_is); (case hd => k_is); (case po => k_is); (case sa => k_is)))
local macro_rules | `(tactic| walk_at "exa") => `(tactic| (refine' Kv.ex_at ?nm ?cl ?rv ?sa ?exC ?tyC ?kC ?no ?su ?a ?ty ?lk ?cd ?lc ?v2 ?fe ?ce ?sub2 ?op ?ini ?sve ?top; (case nm => k_is); (case cl => k_is); (case rv => rfl); (case sa => k_is); (case exC => k_is); (case tyC => k_is); (case kC => k_is); (case no => k_is); (case su => k_is); (case a => k_is); (case ty => k_is); (case lk => k_is); (case cd => k_is); (case lc => k_is); (case v2 => rfl); (case fe => decide +kernel); (case ce => k_is); (case sub2 => k_is); (case op => k_is); (case ini => ks_is); (case sve => k_is); (case top => decide +kernel)))
set_option maxHeartbeats 0 in
theorem PySem.Challenge.cw_lookvoice_k03_relation_product_holds : PySem.Challenge.rw_lookvoice_k03_relation_product.Holds := by
  w_on; o_law; k_head; (case hw => w_witness2)
  k_fill
  refine Kv.walk (l := PySem.Challenge.rw_lookvoice_k03_relation_product) rfl rfl (fun w h Y => PySem.W.kIn_of Y) ?F
  case F =>
    intro w mg fa h KX G hmg
    refine' Kv.all_mk KX G hmg ?a_ascending ?a_requireuplaces ?a_requireusameusize ?a_reached ?a_ulawucell ?a_ulawudigits ?a_ulawuisunumber ?a_ulawurelation ?a_ulawusameurows ?a_ulawuproduct ?a_ulawurefused ?a_law ?T ?sf ?kR ?m_uumuluu ?eB ?s1 ?s2 ?s3 ?s4 ?s5 ?e0 ?e1 ?e2 ?e3 ?e4 ?e5 ?e6 ?i1 ?i2 ?i3 ?i4 ?z1 ?z2 ?z3 ?z4 ?z5 ?z7 ?z8 ?z9
    (case kR => walk_at "mk0")
    (case eB => walk_at "exa")
    (case s1 => k_is)
    (case e3 => k_is)
    (case a_ascending => walk_at "def")
    (case a_requireuplaces => walk_at "def")
    (case a_requireusameusize => walk_at "def")
    (case a_reached => walk_at "def")
    (case a_ulawucell => walk_at "def")
    (case a_ulawudigits => walk_at "def")
    (case a_ulawuisunumber => walk_at "def")
    (case a_ulawurelation => walk_at "def")
    (case a_ulawusameurows => walk_at "def")
    (case a_ulawuproduct => walk_at "def")
    (case a_ulawurefused => walk_at "def")
    (case a_law => walk_at "def")
    (case T => (refine' ⟨?cl, ?nS, ?nR⟩; (case cl => walk_at "cls"); (case nS => (unfold L2.NoAttr; k_is)); (case nR => (unfold L2.NoAttr; k_is))))
    (case sf => k_is)
    (case m_uumuluu => walk_at "met")
    (case s2 => k_is)
    (case s3 => k_exc)
    (case s4 => k_is)
    (case s5 => k_is)
    (case e0 => (refine' ⟨?hg, ?hk, ?hs, ?hd, ?ha, ?hn, ?ht, ?hm⟩; (case hg => k_is); (case hk => k_is); (case hs => k_is); (case hd => k_is); (case ha => k_is); (case hn => k_is); (case ht => k_is); (case hm => k_is)))
    (case e1 => k_is)
    (case e2 => first | rfl | k_is)
    (case e4 => first | k_is | rfl | decide +kernel)
    (case e5 => first | k_is | rfl | decide +kernel)
    (case e6 => first | k_is | rfl | decide +kernel)
    (case i1 => k_is)
    (case i2 => k_is)
    (case i3 => k_is)
    (case i4 => k_is)
    (case z1 => k_is)
    (case z2 => k_is)
    (case z3 => k_is)
    (case z4 => k_is)
    (case z5 => k_is)
    (case z7 => k_is)
    (case z8 => k_is)
    (case z9 => k_is)
#print axioms PySem.Challenge.cw_lookvoice_k03_relation_product_holds
