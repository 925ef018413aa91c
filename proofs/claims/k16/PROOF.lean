import PyProof.Rows.All
import Wide.All
import OpenK.AllK
import Wide.FinOn
import HandS.ForMost
import HandS.Codes
import HandS.Deep
import HandS.Property
import HandS.Walk
import HandS.ClsMeth
import HandS.Conv
import HandS.Small
import HandS.IsInst
import KE.GoesMore
import KE.GoesEnumKw
import PyProof.Draws
import PyProof.Rows.CallKwBuiltin
import HandS.Sort
import HandS.Strs
import HandS.SetTxt0
import PyProof.CollectStr
import PyProof.StrWalks
import PyProof.Rows.SetFrom
import PyProof.Rows.SortShellAny
import HandS.SortRule
import HandS.Zip
import HandS.Exc
import HandS.ExcInit
import HandS.ExcField
import HandS.ExcIs
import HandS.TryMany
import HandS.WordsExc
import HandS.ExcValue
import KE.KExcIs
import HandS.ExcOwn
import HandS.More
import HandS.Text
import HandS.TupSets
import PyProof.SetRoads
import HandS.Style
import PyProof.Rows.StrRev
import KE.KSuper
import HandS.Nested
import HandS.StrMore
import PyProof.StrLawsAffix
import PyProof.StrLaws
import HandS.FStr
import HandS.TryOnly
import KE.KUnpackStar
import HandS.Base
import HandS.Call
import HandS.Comp
import HandS.ExcInitHot
import HandS.ExcCtx
import HandS.HotCalls
import HandS.StrSplit
import KE.KStateDown
import HandS.Defaults
import HandS.Head0
import HandS.Head1
import HandS.Head2
import HandS.HeadEnd
import HandS.HeadHook1
import HandS.HeadHook2
import HandS.HeadNt
import PySem.Challenge.RW_smalti_k16_book_refused
set_option Elab.async false
set_option linter.all false
set_option maxRecDepth 100000
set_option maxHeartbeats 16000000
/-! ### values as trees: what an expression comes to, without a word of the heap -/
namespace Tr
open PySem PySem.Spec PyProof.Rows L2
inductive D where
  | non
  | bl (b : Bool)
  | int (i : Int)
  | str (s : Str)
  | tup (xs : List D)
  | lst (xs : List D)
  | obj (C : Addr) (fs : List (Str × D))
  | val (v : V)
/-- what a def alone holds and may still change: a list; an object at x that is being made -/
inductive Ow where
  | l (xs : List D)
  | o (x dx C : Addr) (fs : List (Str × D))
/-- a slot of a def: not known, a tree, a thing of its own -/
inductive Sl where
  | no
  | d (x : D)
  | own (c : Ow)
abbrev Env := List Sl
mutual
inductive Rep (K : PySem.W.Frag) (F : Hp) : V → D → Prop
  | non : Rep K F .non .non
  | bl (b : Bool) : Rep K F (.bl b) (.bl b)
  | int (i : Int) : Rep K F (.int i) (.int i)
  | str (s : Str) : Rep K F (.str s) (.str s)
  | tup {a : Addr} {vs : List V} {xs : List D} (h : F a = some (.tup vs)) (r : Reps K F vs xs) : Rep K F (.ref a) (.tup xs)
  | lst {a : Addr} {vs : List V} {xs : List D} (h : F a = some (.lst vs)) (r : Reps K F vs xs) : Rep K F (.ref a) (.lst xs)
  | obj {a C dx : Addr} {fv : List (Str × V)} {fs : List (Str × D)} (h : F a = some (.ins C dx fv)) (r : FReps K F fv fs) : Rep K F (.ref a) (.obj C fs)
  | val (v : V) : Rep K F v (.val v)
inductive Reps (K : PySem.W.Frag) (F : Hp) : List V → List D → Prop
  | nil : Reps K F [] []
  | cons {v : V} {d : D} {vs : List V} {ds : List D} (h : Rep K F v d) (r : Reps K F vs ds) : Reps K F (v :: vs) (d :: ds)
inductive FReps (K : PySem.W.Frag) (F : Hp) : List (Str × V) → List (Str × D) → Prop
  | nil : FReps K F [] []
  | cons {n : Str} {v : V} {d : D} {vs : List (Str × V)} {ds : List (Str × D)} (h : Rep K F v d) (r : FReps K F vs ds) : FReps K F ((n, v) :: vs) ((n, d) :: ds)
end
inductive OwR (K : PySem.W.Frag) (F : Hp) : Addr → HO → Ow → Prop
  | l {p : Addr} {vs : List V} {xs : List D} (r : Reps K F vs xs) : OwR K F p (.lst vs) (.l xs)
  | o {x dx C : Addr} {fv : List (Str × V)} {fs : List (Str × D)} (r : FReps K F fv fs) : OwR K F x (.ins C dx fv) (.o x dx C fs)
section
variable {K : PySem.W.Frag} {F F' H H' : Hp}
theorem sq_l {a : Addr} {xs : List V} (s : Same F F') (h : SqL K F a xs) : SqL K F' a xs := s.seq h
theorem sq_t {a : Addr} {xs : List V} (s : Same F F') (h : SqT K F a xs) : SqT K F' a xs := by
  rcases h with (h | ⟨o, h⟩) | h
  · exact .inl (.inl (s _ _ h))
  · exact .inl (.inr ⟨o, s _ _ h⟩)
  · exact .inr h
theorem tofl {a : Addr} {xs : List V} (h : F a = some (.lst xs)) : SqL K F a xs := .inl (.inl h)
theorem toft {a : Addr} {xs : List V} (h : F a = some (.tup xs)) : SqT K F a xs := .inl (.inl h)
mutual
theorem Rep.mono (s : Same F F') : ∀ {v : V} {d : D}, Rep K F v d → Rep K F' v d
  | _, _, .non => .non
  | _, _, .bl b => .bl b
  | _, _, .int i => .int i
  | _, _, .str z => .str z
  | _, _, .tup h r => .tup (s _ _ h) (Reps.mono s r)
  | _, _, .lst h r => .lst (s _ _ h) (Reps.mono s r)
  | _, _, .obj h r => .obj (s _ _ h) (FReps.mono s r)
  | _, _, .val v => .val v
theorem Reps.mono (s : Same F F') : ∀ {v : List V} {d : List D}, Reps K F v d → Reps K F' v d
  | _, _, .nil => .nil
  | _, _, .cons h r => .cons (Rep.mono s h) (Reps.mono s r)
theorem FReps.mono (s : Same F F') : ∀ {v : List (Str × V)} {d : List (Str × D)}, FReps K F v d → FReps K F' v d
  | _, _, .nil => .nil
  | _, _, .cons h r => .cons (Rep.mono s h) (FReps.mono s r)
end
theorem OwR.mono (s : Same F F') {p : Addr} {ho : HO} {c : Ow} : OwR K F p ho c → OwR K F' p ho c
  | .l r => .l (Reps.mono s r)
  | .o r => .o (FReps.mono s r)
theorem OwR.lst {p : Addr} {ho : HO} {ds : List D} (h : OwR K F p ho (.l ds)) : ∃ vs, ho = .lst vs ∧ Reps K F vs ds := by
  cases h with
  | l r => exact ⟨_, rfl, r⟩
theorem OwR.obj {p x dx C : Addr} {ho : HO} {fs : List (Str × D)} (h : OwR K F p ho (.o x dx C fs)) : p = x ∧ ∃ fv, ho = .ins C dx fv ∧ FReps K F fv fs := by
  cases h with
  | o r => exact ⟨rfl, _, rfl, r⟩
theorem Reps.length : ∀ {vs : List V} {ds : List D}, Reps K F vs ds → vs.length = ds.length
  | _, _, .nil => rfl
  | _, _, .cons _ r => congrArg (· + 1) (Reps.length r)
theorem Reps.at {ds : List D} : ∀ {vs : List V} {i : Nat} {d : D}, Reps K F vs ds → ds[i]? = some d → ∃ v, vs[i]? = some v ∧ Rep K F v d := by
  induction ds with
  | nil => intro vs i d r h; cases h
  | cons e ds ih =>
    intro vs i d r h
    cases r with
    | cons h0 r =>
      cases i with
      | zero => cases h; exact ⟨_, rfl, h0⟩
      | succ i =>
        obtain ⟨v, e, q⟩ := ih r h
        exact ⟨v, e, q⟩
theorem Reps.atV {vs : List V} : ∀ {ds : List D} {i : Nat} {v : V}, Reps K F vs ds → vs[i]? = some v → ∃ d, ds[i]? = some d ∧ Rep K F v d := by
  induction vs with
  | nil => intro ds i v r h; cases h
  | cons e vs ih =>
    intro ds i v r h
    cases r with
    | cons h0 r =>
      cases i with
      | zero => cases h; exact ⟨_, rfl, h0⟩
      | succ i =>
        obtain ⟨v, e, q⟩ := ih r h
        exact ⟨v, e, q⟩
theorem Reps.append : ∀ {vs ws : List V} {ds es : List D}, Reps K F vs ds → Reps K F ws es → Reps K F (vs ++ ws) (ds ++ es)
  | _, _, _, _, .nil, q => q
  | _, _, _, _, .cons h r, q => .cons h (Reps.append r q)
theorem Reps.take : ∀ {vs : List V} {ds : List D} (n : Nat), Reps K F vs ds → Reps K F (vs.take n) (ds.take n)
  | _, _, 0, _ => by rw [List.take_zero, List.take_zero]; exact .nil
  | _, _, n + 1, .nil => .nil
  | _, _, n + 1, .cons h r => .cons h (Reps.take n r)
theorem Reps.drop : ∀ {vs : List V} {ds : List D} (n : Nat), Reps K F vs ds → Reps K F (vs.drop n) (ds.drop n)
  | _, _, 0, r => by rw [List.drop_zero, List.drop_zero]; exact r
  | _, _, n + 1, .nil => .nil
  | _, _, n + 1, .cons h r => Reps.drop n r
theorem Reps.rev : ∀ {vs : List V} {ds : List D}, Reps K F vs ds → Reps K F vs.reverse ds.reverse
  | _, _, .nil => .nil
  | _, _, .cons h r => by rw [List.reverse_cons, List.reverse_cons]; exact (Reps.rev r).append (.cons h .nil)
theorem Reps.strs : ∀ {ss : List Str} {vs : List V}, Reps K F vs (ss.map D.str) → vs = ss.map V.str
  | [], _, .nil => rfl
  | s :: ss, _, .cons (.str _) r => by rw [Reps.strs r]; rfl
theorem Reps.ints : ∀ {ss : List Int} {vs : List V}, Reps K F vs (ss.map D.int) → vs = ss.map V.int
  | [], _, .nil => rfl
  | s :: ss, _, .cons (.int _) r => by rw [Reps.ints r]; rfl
theorem Reps.bls : ∀ {ss : List Bool} {vs : List V}, Reps K F vs (ss.map D.bl) → vs = ss.map V.bl
  | [], _, .nil => rfl
  | s :: ss, _, .cons (.bl _) r => by rw [Reps.bls r]; rfl
theorem FReps.look {f : Str} {d : D} : ∀ {fv : List (Str × V)} {fs : List (Str × D)}, FReps K F fv fs → fs.lookup f = some d → ∃ v, fv.lookup f = some v ∧ Rep K F v d
  | _, _, .nil, h => by cases h
  | _, _, .cons (n := n) h0 r, h => by
    rw [List.lookup_cons] at h ⊢
    by_cases e : (f == n) = true
    · rw [e] at h ⊢
      cases h
      exact ⟨_, rfl, h0⟩
    · have e : (f == n) = false := by simpa using e
      rw [e] at h ⊢
      exact r.look h
theorem FReps.none {f : Str} : ∀ {fv : List (Str × V)} {fs : List (Str × D)}, FReps K F fv fs → fs.lookup f = none → fv.lookup f = none
  | _, _, .nil, _ => rfl
  | _, _, .cons (n := n) h0 r, h => by
    rw [List.lookup_cons] at h ⊢
    by_cases e : (f == n) = true
    · rw [e] at h
      cases h
    · have e : (f == n) = false := by simpa using e
      rw [e] at h ⊢
      exact r.none h
/-! ### what stands while a def runs -/
/-- the heap grows; what stands outside of the frozen part stays outside -/
structure Gr (F H F' H' : Hp) : Prop where
  f : Same F F'
  h : Same H H'
  x : ∀ a o, H a = some o → F a = none → F' a = none
theorem Gr.refl (F H : Hp) : Gr F H F H := ⟨Same.refl _, Same.refl _, fun _ _ _ e => e⟩
theorem Gr.trans {F1 H1 F2 H2 : Hp} (a : Gr F H F1 H1) (b : Gr F1 H1 F2 H2) : Gr F H F2 H2 := ⟨a.f.trans b.f, a.h.trans b.h, fun p o e n => b.x p o (a.h _ _ e) (a.x p o e n)⟩
def SlR (K : PySem.W.Frag) (H0 F H : Hp) (o : Option V) : Sl → Prop
  | .no => True
  | .d x => ∃ v, o = some v ∧ Rep K F v x
  | .own c => ∃ p ho, o = some (.ref p) ∧ H0 p = none ∧ F p = none ∧ H p = some ho ∧ OwR K F p ho c
structure Wd (K : PySem.W.Frag) (B : Hp × Hp) (F H : Hp) (σ : L2.St) (Γ : Env) : Prop where
  ff : Same B.1 F
  hh : Same B.2 H
  fh : Same F H
  ex : ∀ a o, B.2 a = some o → B.1 a = none → F a = none
  len : σ.length = Γ.length
  sl : ∀ (i : Nat) (o : Option V) (s : Sl), σ[i]? = some o → Γ[i]? = some s → SlR K B.2 F H o s
  dj : ∀ (i j : Nat) (p : Addr) (xs ys : Ow), i ≠ j → σ[i]? = some (some (.ref p)) → σ[j]? = some (some (.ref p)) → Γ[i]? = some (.own xs) → Γ[j]? = some (.own ys) → False
theorem sup {p : Addr} {o : HO} (h : H p = none) : Same H (upd H p o) := fun b x e => by
  rw [upd_ne (ne_of_none e h)]
  exact e
theorem SlR.gr {H0 : Hp} {o : Option V} {s : Sl} (h : SlR K H0 F H o s) (g : Gr F H F' H') : SlR K H0 F' H' o s := by
  cases s with
  | no => trivial
  | d x =>
    obtain ⟨v, e, r⟩ := h
    exact ⟨v, e, r.mono g.f⟩
  | own xs =>
    obtain ⟨p, vs, e, n0, nf, hp, r⟩ := h
    exact ⟨p, vs, e, n0, g.x _ _ hp nf, g.h _ _ hp, r.mono g.f⟩
theorem Wd.gr {B : Hp × Hp} {σ : L2.St} {Γ : Env} (w : Wd K B F H σ Γ) (g : Gr F H F' H') (fh : Same F' H') : Wd K B F' H' σ Γ :=
  ⟨w.ff.trans g.f, w.hh.trans g.h, fh, fun a o e n => g.x a o (w.hh _ _ e) (w.ex a o e n), w.len, fun i o s a b => (w.sl i o s a b).gr g, w.dj⟩
theorem Gr.new {p : Addr} {o : HO} (fh : Same F H) (n : H p = none) : Gr F H (upd F p o) (upd H p o) :=
  ⟨sup (fh.free n), sup n, fun a u e f => by rw [upd_ne (ne_of_none e n)]; exact f⟩
theorem same_both {p : Addr} {o : HO} (s : Same F H) : Same (upd F p o) (upd H p o) := fun a x e => by
  by_cases h : a = p
  · subst h
    rw [upd_same] at e ⊢
    exact e
  · rw [upd_ne h] at e ⊢
    exact s _ _ e
theorem Wd.slot {B : Hp × Hp} {σ : L2.St} {Γ : Env} {i : Nat} {x : D} (w : Wd K B F H σ Γ) (g : Γ[i]? = some (.d x)) : ∃ v, σ[i]? = some (some v) ∧ Rep K F v x := by
  have li : i < Γ.length := (List.getElem?_eq_some_iff.mp g).1
  have ls : i < σ.length := by rw [w.len]; exact li
  obtain ⟨v, e, r⟩ := w.sl i _ _ (List.getElem?_eq_getElem ls) g
  exact ⟨v, by rw [List.getElem?_eq_getElem ls, e], r⟩
/-! ### readings -/
def tEv (K : PySem.W.Frag) (B : Hp × Hp) (Γ : Env) (d : D) : TE := fun σ H Q => ∃ F, Wd K B F H σ Γ ∧ ∀ v F' H', Wd K B F' H' σ Γ → Gr F H F' H' → Rep K F' v d → Q v H'
def tEvT (K : PySem.W.Frag) (B : Hp × Hp) (Γ : Env) (b : Bool) : TT := fun σ H Q => ∃ F, Wd K B F H σ Γ ∧ ∀ F' H', Wd K B F' H' σ Γ → Gr F H F' H' → Q b H'
def tEvA (K : PySem.W.Frag) (B : Hp × Hp) (Γ : Env) (ds : List D) : TA := fun σ H Q => ∃ F, Wd K B F H σ Γ ∧ ∀ vs F' H', Wd K B F' H' σ Γ → Gr F H F' H' → Reps K F' vs ds → Q vs H'
end
abbrev Ok (X : Cx) (B : Hp × Hp) (e : Expr) (Γ : Env) (d : D) : Prop := PE X e (tEv X.K B Γ d)
abbrev OkT (X : Cx) (B : Hp × Hp) (e : Expr) (Γ : Env) (b : Bool) : Prop := PT X e (tEvT X.K B Γ b)
abbrev OkA (X : Cx) (B : Hp × Hp) (es : List Expr) (Γ : Env) (ds : List D) : Prop := PA X es (tEvA X.K B Γ ds)
section
variable {X : Cx} {B : Hp × Hp} {Γ : Env} {e a b c : Expr} {es rest : List Expr} {x y z : D} {pos apos : Pos}
theorem PE.weak {t t' : TE} (h : PE X e t) (w : ∀ σ H Q, t' σ H Q → t σ H Q) : PE X e t' := ⟨fun pins s σ H Q I q => h.run pins s σ H Q I (w _ _ _ q)⟩
theorem PT.weak {t t' : TT} (h : PT X e t) (w : ∀ σ H Q, t' σ H Q → t σ H Q) : PT X e t' := ⟨fun pins s σ H Q I q => h.run pins s σ H Q I (w _ _ _ q)⟩
theorem PA.weak {t t' : TA} (h : PA X es t) (w : ∀ σ H Q, t' σ H Q → t σ H Q) : PA X es t' := ⟨fun k pins s σ H Q I q => h.run k pins s σ H Q I (w _ _ _ q)⟩
theorem PS.weak {s : Stmt} {t t' : TS} (h : PS X s t) (w : ∀ D σ H, t' D σ H → t D σ H) : PS X s t' := ⟨fun pins s σ H D I q => h.run pins s σ H D I (w _ _ _ q)⟩
theorem PSs.weak {s : List Stmt} {t t' : TS} (h : PSs X s t) (w : ∀ D σ H, t' D σ H → t D σ H) : PSs X s t' := ⟨fun pins s σ H D I q => h.run pins s σ H D I (w _ _ _ q)⟩
/-- a reading that only asks where p holds -/
theorem PE.when {p : Prop} {t : TE} (h : p → PE X e t) : PE X e (fun σ H Q => p ∧ t σ H Q) := ⟨fun pins s σ H Q I q => (h q.1).run pins s σ H Q I q.2⟩
theorem PT.when {p : Prop} {t : TT} (h : p → PT X e t) : PT X e (fun σ H Q => p ∧ t σ H Q) := ⟨fun pins s σ H Q I q => (h q.1).run pins s σ H Q I q.2⟩
theorem PW.when {p : Prop} {t : TT} (h : p → PW X e t) : PW X e (fun σ H Q => p ∧ t σ H Q) := ⟨fun k pins s σ H Q I q => (h q.1).run k pins s σ H Q I q.2⟩
theorem PSs.when {s : List Stmt} {p : Prop} {t : TS} (h : p → PSs X s t) : PSs X s (fun D σ H => p ∧ t D σ H) := ⟨fun pins s σ H D I q => (h q.1).run pins s σ H D I q.2⟩
theorem PSs.exi {ι : Sort _} {s : List Stmt} {t : ι → TS} (h : ∀ i, PSs X s (t i)) : PSs X s (fun D σ H => ∃ i, t i D σ H) := ⟨fun pins s σ H D I ⟨i, q⟩ => (h i).run pins s σ H D I q⟩
theorem PE.exi {ι : Sort _} {t : ι → TE} (h : ∀ i, PE X e (t i)) : PE X e (fun σ H Q => ∃ i, t i σ H Q) := ⟨fun pins s σ H Q I ⟨i, q⟩ => (h i).run pins s σ H Q I q⟩
theorem PT.exi {ι : Sort _} {t : ι → TT} (h : ∀ i, PT X e (t i)) : PT X e (fun σ H Q => ∃ i, t i σ H Q) := ⟨fun pins s σ H Q I ⟨i, q⟩ => (h i).run pins s σ H Q I q⟩
theorem ok_var {i : Nat} (h : PE X e (tVar i)) (g : Γ[i]? = some (.d x)) : Ok X B e Γ x := PE.weak h fun σ H Q ⟨F, w, k⟩ => by
  obtain ⟨v, e, r⟩ := w.slot g
  exact ⟨v, e, k v F H w (Gr.refl _ _) r⟩
theorem ok_c {v : V} (h : PE X e (tC v)) (r : ∀ K F, Rep K F v x) : Ok X B e Γ x := PE.weak h fun σ H Q ⟨F, w, k⟩ => k v F H w (Gr.refl _ _) (r _ _)
theorem ok_int {i : Int} {j : Nat} : Ok X B (.Constant (.int i) j pos) Γ (.int i) := ok_c pe_int fun _ _ => .int i
theorem ok_str {s : Str} {j : Nat} : Ok X B (.Constant (.str s) j pos) Γ (.str s) := ok_c pe_str fun _ _ => .str s
theorem ok_bl {s : Bool} {j : Nat} : Ok X B (.Constant (.bool s) j pos) Γ (.bl s) := ok_c pe_bl fun _ _ => .bl s
theorem ok_non {j : Nat} : Ok X B (.Constant .none j pos) Γ .non := ok_c pe_non fun _ _ => .non
/-- what a two-place rule gives -/
def R2T (K : PySem.W.Frag) (r : R2) (x y z : D) : Prop := ∀ F H, Same F H → ∀ v w, Rep K F v x → Rep K F w y → ∀ Q : VK, (∀ u F' H', Gr F H F' H' → Same F' H' → Rep K F' u z → Q u H') → r v w H Q
theorem ev_op {r : R2} (ho : ∀ {ta tb : TE}, PE X a ta → PE X b tb → PE X e (tOp r ta tb)) (ha : Ok X B a Γ x) (hb : Ok X B b Γ y) (h : R2T X.K r x y z) : Ok X B e Γ z := PE.weak (ho ha hb) fun σ H Q ⟨F, w, k⟩ =>
  ⟨F, w, fun v F1 H1 w1 g1 r1 => ⟨F1, w1, fun u F2 H2 w2 g2 r2 => h F2 H2 w2.fh v u (r1.mono g2.f) r2 Q fun q F3 H3 g3 fh r3 => k q F3 H3 (w2.gr g3 fh) ((g1.trans g2).trans g3) r3⟩⟩
theorem r2_val {K : PySem.W.Frag} {r : R2} (h : ∀ F H, Same F H → ∀ v w, Rep K F v x → Rep K F w y → ∀ Q : VK, (∀ u, (∀ F, Rep K F u z) → Q u H) → r v w H Q) : R2T K r x y z := fun F H fh v w rv rw Q q => h F H fh v w rv rw Q fun u ru => q u F H (Gr.refl _ _) fh (ru F)
end
end Tr
/-! ### the rules for expressions -/
namespace Tr
open PySem PySem.Spec PyProof.Rows L2 SX
abbrev D.tx (z : List Nat) : D := .str (S z)
theorem sz5 {n : Nat} (h : n ≤ 100000) : n ≤ sizeLine := Nat.le_trans h (by decide)
theorem sz5' {n : Nat} (h : n < 100000) : n < sizeLine := Nat.lt_of_lt_of_le h (by decide)
theorem lenS (a : List Nat) : (S a).length = a.length := S_len a
theorem cpsS (z : List Nat) : (S z).cps.toList = z := by
  show z.toArray.toList = z
  simp
section
variable {K : PySem.W.Frag} {F H : Hp}
theorem r2_i {g : Int → Int → V} {z : D} {i j : Int} (h : ∀ F, Rep K F (g i j) z) : R2T K (rI0 g) (.int i) (.int j) z := r2_val fun F H fh v w rv rw Q q => by
  cases rv; cases rw
  exact ⟨i, j, rfl, rfl, q _ h⟩
theorem r2_iC {C : Int → Int → Prop} {g : Int → Int → V} {z : D} {i j : Int} (c : C i j) (h : ∀ F, Rep K F (g i j) z) : R2T K (rI C g) (.int i) (.int j) z := r2_val fun F H fh v w rv rw Q q => by
  cases rv; cases rw
  exact ⟨i, j, rfl, rfl, c, q _ h⟩
theorem dec_tx {y z : List Nat} : decide (V.str (S y) = V.str (S z)) = decide (y = z) := decide_eq_decide.mpr ⟨fun h => S_inj (V.str.inj h), fun h => by rw [h]⟩
theorem dec_i {i j : Int} : decide (V.int i = V.int j) = decide (i = j) := decide_eq_decide.mpr ⟨fun h => V.int.inj h, fun h => by rw [h]⟩
theorem dec_b {i j : Bool} : decide (V.bl i = V.bl j) = decide (i = j) := decide_eq_decide.mpr ⟨fun h => V.bl.inj h, fun h => by rw [h]⟩
end
section
variable {X : Cx} {B : Hp × Hp} {Γ : Env} {e a b c : Expr} {es rest : List Expr} {x y z : D} {pos apos : Pos} {i j : Int} {p q : Bool} {u w : List Nat}
theorem ok_tx {s : Str} {j : Nat} {z : List Nat} (h : s = S z) : Ok X B (.Constant (.str s) j pos) Γ (.tx z) := by
  subst h
  exact ok_str
theorem ok_glob {x : Str} {v : V} {d : D} {g : Value} (hg : Gl X x) (hm : X.mg x = some g) (r : RelV v g) (h : ∀ K F, Rep K F v d) (hd : (x == ("__debug__" : Str)) = false := by decide) : Ok X B (.Name x pos) Γ d := ok_c (pe_glob hg hm r hd) h
/-! numbers -/
theorem t_add (ha : Ok X B a Γ (.int i)) (hb : Ok X B b Γ (.int j)) : Ok X B (.BinOp a .Add b pos) Γ (.int (i + j)) := ev_op (fun p q => pe_op op_add p q) ha hb (r2_i fun _ => .int _)
theorem t_sub (ha : Ok X B a Γ (.int i)) (hb : Ok X B b Γ (.int j)) : Ok X B (.BinOp a .Sub b pos) Γ (.int (i - j)) := ev_op (fun p q => pe_op op_sub p q) ha hb (r2_i fun _ => .int _)
theorem t_mul (ha : Ok X B a Γ (.int i)) (hb : Ok X B b Γ (.int j)) (c : CMul i j) : Ok X B (.BinOp a .Mult b pos) Γ (.int (i * j)) := ev_op (fun p q => pe_op op_mul p q) ha hb (r2_iC c fun _ => .int _)
theorem t_mod (ha : Ok X B a Γ (.int i)) (hb : Ok X B b Γ (.int j)) (c : 0 < j) : Ok X B (.BinOp a .Mod b pos) Γ (.int (i % j)) := ev_op (fun p q => pe_op op_mod p q) ha hb (r2_iC c fun _ => .int _)
theorem t_fdiv (ha : Ok X B a Γ (.int i)) (hb : Ok X B b Γ (.int j)) (c : CDiv i j) : Ok X B (.BinOp a .FloorDiv b pos) Γ (.int (i / j)) := ev_op (fun p q => pe_op op_fdiv p q) ha hb (r2_iC c fun _ => .int _)
theorem t_lt (ha : Ok X B a Γ (.int i)) (hb : Ok X B b Γ (.int j)) : Ok X B (.Compare a [.Lt] [b] pos) Γ (.bl (decide (i < j))) := ev_op (fun p q => pe_cmpR op_lt p q (nomark _)) ha hb (r2_i fun _ => .bl _)
theorem t_le (ha : Ok X B a Γ (.int i)) (hb : Ok X B b Γ (.int j)) : Ok X B (.Compare a [.LtE] [b] pos) Γ (.bl (decide (i ≤ j))) := ev_op (fun p q => pe_cmpR op_le p q (nomark _)) ha hb (r2_i fun _ => .bl _)
theorem t_gt (ha : Ok X B a Γ (.int i)) (hb : Ok X B b Γ (.int j)) : Ok X B (.Compare a [.Gt] [b] pos) Γ (.bl (decide (j < i))) := ev_op (fun p q => pe_cmpR op_gt p q (nomark _)) ha hb (r2_i fun _ => .bl _)
theorem t_ge (ha : Ok X B a Γ (.int i)) (hb : Ok X B b Γ (.int j)) : Ok X B (.Compare a [.GtE] [b] pos) Γ (.bl (decide (j ≤ i))) := ev_op (fun p q => pe_cmpR op_ge p q (nomark _)) ha hb (r2_i fun _ => .bl _)
theorem t_neg (ha : Ok X B a Γ (.int i)) : Ok X B (.UnaryOp .USub a pos) Γ (.int (-i)) := PE.weak (pe_un un_neg ha) fun σ H Q ⟨F, w, k⟩ => ⟨F, w, fun v F1 H1 w1 g1 r1 => by
  cases r1
  exact ⟨i, rfl, k _ F1 H1 w1 g1 (.int _)⟩⟩
/-! equal: numbers, texts, bools -/
theorem r2_eqI {K : PySem.W.Frag} : R2T K rEq (.int i) (.int j) (.bl (decide (i = j))) := r2_val fun F H fh v w rv rw Q q => by
  cases rv; cases rw
  exact ⟨rfl, by rw [dec_i]; exact q _ fun _ => .bl _⟩
theorem r2_eqS {K : PySem.W.Frag} : R2T K rEq (.tx u) (.tx w) (.bl (decide (u = w))) := r2_val fun F H fh v w rv rw Q q => by
  cases rv; cases rw
  exact ⟨rfl, by rw [dec_tx]; exact q _ fun _ => .bl _⟩
theorem r2_eqB {K : PySem.W.Frag} : R2T K rEq (.bl p) (.bl q) (.bl (decide (p = q))) := r2_val fun F H fh v w rv rw Q q => by
  cases rv; cases rw
  exact ⟨rfl, by rw [dec_b]; exact q _ fun _ => .bl _⟩
theorem r2_neI {K : PySem.W.Frag} : R2T K rNe (.int i) (.int j) (.bl (!decide (i = j))) := r2_val fun F H fh v w rv rw Q q => by
  cases rv; cases rw
  exact ⟨rfl, by rw [dec_i]; exact q _ fun _ => .bl _⟩
theorem r2_neS {K : PySem.W.Frag} : R2T K rNe (.tx u) (.tx w) (.bl (!decide (u = w))) := r2_val fun F H fh v w rv rw Q q => by
  cases rv; cases rw
  exact ⟨rfl, by rw [dec_tx]; exact q _ fun _ => .bl _⟩
theorem r2_neB {K : PySem.W.Frag} : R2T K rNe (.bl p) (.bl q) (.bl (!decide (p = q))) := r2_val fun F H fh v w rv rw Q q => by
  cases rv; cases rw
  exact ⟨rfl, by rw [dec_b]; exact q _ fun _ => .bl _⟩
theorem t_eq {d : D} (ha : Ok X B a Γ x) (hb : Ok X B b Γ y) (h : R2T X.K rEq x y d) : Ok X B (.Compare a [.Eq] [b] pos) Γ d := ev_op (fun p q => pe_cmpR op_eq p q (nomark _)) ha hb h
theorem t_ne {d : D} (ha : Ok X B a Γ x) (hb : Ok X B b Γ y) (h : R2T X.K rNe x y d) : Ok X B (.Compare a [.NotEq] [b] pos) Γ d := ev_op (fun p q => pe_cmpR op_ne p q (nomark _)) ha hb h
theorem t_isN (ha : Ok X B a Γ .non) (hb : Ok X B b Γ .non) : Ok X B (.Compare a [.Is] [b] pos) Γ (.bl true) := ev_op (fun p q => pe_cmpR op_isN p q (nomark _)) ha hb (r2_val fun F H fh v w rv rw Q q => by
  cases rv; cases rw
  exact ⟨rfl, q _ fun _ => .bl _⟩)
/-! texts -/
theorem t_addS (ha : Ok X B a Γ (.tx u)) (hb : Ok X B b Γ (.tx w)) (l : u.length + w.length ≤ 100000) : Ok X B (.BinOp a .Add b pos) Γ (.tx (u ++ w)) := ev_op (fun p q => pe_op op_add_str p q) ha hb (r2_val fun F H fh v w' rv rw Q q => by
  cases rv; cases rw
  refine ⟨_, _, rfl, rfl, by rw [lenS, lenS]; exact sz5 l, ?_⟩
  rw [S_cat]
  exact q _ fun _ => .str _)
theorem t_inS {n : Nat} (ha : Ok X B a Γ (.tx [n])) (hb : Ok X B b Γ (.tx w)) (hm : behindInMarks .In b = false) : Ok X B (.Compare a [.In] [b] pos) Γ (.bl (decide (n ∈ w))) := ev_op (fun p q => pe_cmpR op_in_sign p q hm) ha hb (r2_val fun F H fh v w' rv rw Q q => by
  cases rv; cases rw
  refine ⟨n, S w, rfl, rfl, ?_⟩
  rw [cpsS]
  exact q _ fun _ => .bl _)
theorem t_notInS {n : Nat} (ha : Ok X B a Γ (.tx [n])) (hb : Ok X B b Γ (.tx w)) (hm : behindInMarks .NotIn b = false) : Ok X B (.Compare a [.NotIn] [b] pos) Γ (.bl (!decide (n ∈ w))) := ev_op (fun p q => pe_cmpR op_notIn_sign p q hm) ha hb (r2_val fun F H fh v w' rv rw Q q => by
  cases rv; cases rw
  refine ⟨n, S w, rfl, rfl, ?_⟩
  rw [cpsS]
  exact q _ fun _ => .bl _)
/-! items -/
theorem atR {K : PySem.W.Frag} {F : Hp} {vs : List V} {ds : List D} {i : Int} {d : D} (r : Reps K F vs ds) (h : atI ds i = some d) : ∃ v, atI vs i = some v ∧ Rep K F v d := by
  unfold atI at h ⊢
  rw [r.length]
  cases e : ixN ds.length i with
  | none => rw [e] at h; cases h
  | some j =>
    rw [e] at h
    exact r.at h
theorem t_ixL {ds : List D} (ha : Ok X B a Γ (.lst ds)) (hb : Ok X B b Γ (.int i)) (h : atI ds i = some x) (hs : PlainIx b) : Ok X B (.Subscript a b pos) Γ x := ev_op (fun p q => pe_ix ix_list p q hs) ha hb fun F H fh v w rv rw Q q => by
  cases rw
  cases rv with
  | lst hp r =>
    obtain ⟨v, e, rv⟩ := atR r h
    exact ⟨_, _, i, v, rfl, rfl, tofl (fh _ _ hp), e, q v F H (Gr.refl _ _) fh rv⟩
theorem t_ixT {ds : List D} (ha : Ok X B a Γ (.tup ds)) (hb : Ok X B b Γ (.int i)) (h : atI ds i = some x) (hs : PlainIx b) : Ok X B (.Subscript a b pos) Γ x := ev_op (fun p q => pe_ix ix_tup p q hs) ha hb fun F H fh v w rv rw Q q => by
  cases rw
  cases rv with
  | tup hp r =>
    obtain ⟨v, e, rv⟩ := atR r h
    exact ⟨_, _, i, v, rfl, rfl, toft (fh _ _ hp), e, q v F H (Gr.refl _ _) fh rv⟩
theorem t_ixS {n : Nat} (ha : Ok X B a Γ (.tx u)) (hb : Ok X B b Γ (.int i)) (l : u.length ≤ 100000) (h : atI u i = some n) (hs : PlainIx b) : Ok X B (.Subscript a b pos) Γ (.tx [n]) := ev_op (fun p q => pe_ix ix_str p q hs) ha hb (r2_val fun F H fh v w rv rw Q q => by
  cases rv; cases rw
  exact ⟨_, i, n, rfl, rfl, by rw [lenS]; exact sz5 l, by rw [cpsS]; exact h, q _ fun _ => .str _⟩)
/-! arguments, displays -/
theorem a_nil : OkA X B [] Γ [] := PA.weak pa_nil fun σ H Q ⟨F, w, k⟩ => k [] F H w (Gr.refl _ _) .nil
theorem a_cons {ds : List D} (ha : Ok X B e Γ x) (hr : OkA X B es Γ ds) (hs : starEach (e :: es) X.env = (false, eval e X.env) :: starEach es X.env := by rfl) : OkA X B (e :: es) Γ (x :: ds) := PA.weak (pa_cons ha hr hs) fun σ H Q ⟨F, w, k⟩ =>
  ⟨F, w, fun v F1 H1 w1 g1 r1 => ⟨F1, w1, fun vs F2 H2 w2 g2 r2 => k (v :: vs) F2 H2 w2 (g1.trans g2) (.cons (r1.mono g2.f) r2)⟩⟩
theorem t_tup {x1} {ds : List D} (h : OkA X B es Γ ds) (l : ds.length ≤ 100000) : Ok X B (.Tuple es x1 pos) Γ (.tup ds) := PE.weak (pe_tup h) fun σ H Q ⟨F, w, k⟩ => ⟨F, w, fun vs F1 H1 w1 g1 r1 =>
  ⟨by rw [r1.length]; exact sz5 l, fun p n => k _ (upd F1 p (.tup vs)) _ (w1.gr (Gr.new w1.fh n) (same_both w1.fh)) (g1.trans (Gr.new w1.fh n)) (.tup upd_same (r1.mono (Gr.new (o := .tup vs) w1.fh n).f))⟩⟩
theorem t_lst {ds : List D} (h : OkA X B es Γ ds) (l : ds.length ≤ 100000) : Ok X B (.List es pos) Γ (.lst ds) := PE.weak (pe_lst h) fun σ H Q ⟨F, w, k⟩ => ⟨F, w, fun vs F1 H1 w1 g1 r1 =>
  ⟨by rw [r1.length]; exact sz5 l, fun p n => k _ (upd F1 p (.lst vs)) _ (w1.gr (Gr.new w1.fh n) (same_both w1.fh)) (g1.trans (Gr.new w1.fh n)) (.lst upd_same (r1.mono (Gr.new (o := .lst vs) w1.fh n).f))⟩⟩
theorem t_cat {ds fs : List D} (ha : Ok X B a Γ (.lst ds)) (hb : Ok X B b Γ (.lst fs)) (l : ds.length + fs.length ≤ 100000) : Ok X B (.BinOp a .Add b pos) Γ (.lst (ds ++ fs)) := ev_op (fun p q => pe_op op_cat p q) ha hb fun F H fh v w rv rw Q q => by
  cases rv with
  | @lst _ vs1 _ h1 r1 =>
    cases rw with
    | @lst _ vs2 _ h2 r2 =>
      refine ⟨_, _, _, _, rfl, rfl, fh _ _ h1, fh _ _ h2, by rw [r1.length, r2.length]; exact sz5 l, fun p n => ?_⟩
      have g := Gr.new (o := .lst (vs1 ++ vs2)) fh n
      exact q _ _ _ g (same_both fh) (.lst upd_same ((r1.append r2).mono g.f))
/-! tests; and, or, not -/
theorem o_val (h : Ok X B e Γ (.bl p)) (he : ∀ whole, isTrue e X.env whole = (do let v ← whole; standAt e.pos; holding [v] (truthy v)) := by intro _; rfl) : OkT X B e Γ p := PT.weak (pt_val h he) fun σ H Q ⟨F, w, k⟩ => ⟨F, w, fun v F1 H1 w1 g1 r1 => by
  cases r1
  exact ⟨p, rfl, k F1 H1 w1 g1⟩⟩
theorem o_not (h : OkT X B a Γ p) : OkT X B (.UnaryOp .Not a pos) Γ (!p) := PT.weak (pt_not h) fun σ H Q ⟨F, w, k⟩ => ⟨F, w, fun F1 H1 w1 g1 => k F1 H1 w1 g1⟩
abbrev OkW (X : Cx) (B : Hp × Hp) (e : Expr) (Γ : Env) (b : Bool) : Prop := PW X e (tEvT X.K B Γ b)
theorem o_w (h : OkW X B e Γ p) : OkT X B e Γ p := h.pt
theorem w_and1 (h : OkT X B a Γ p) : OkW X B (.BoolOp .And [a] pos) Γ p := pw_and1 h
theorem w_or1 (h : OkT X B a Γ p) : OkW X B (.BoolOp .Or [a] pos) Γ p := pw_or1 h
theorem PW.weak {t t' : TT} (h : PW X e t) (w : ∀ σ H Q, t' σ H Q → t σ H Q) : PW X e t' := ⟨fun k pins s σ H Q I q => h.run k pins s σ H Q I (w _ _ _ q)⟩
theorem w_and (ha : OkT X B a Γ p) (hb : p = true → OkW X B (.BoolOp .And (b :: rest) pos) Γ q) : OkW X B (.BoolOp .And (a :: b :: rest) pos) Γ (p && q) := PW.weak (pw_and ha (PW.when hb)) fun σ H Q ⟨F, w, k⟩ => ⟨F, w, fun F1 H1 w1 g1 => by
  cases p with
  | true => exact iteT ⟨rfl, F1, w1, fun F2 H2 w2 g2 => k F2 H2 w2 (g1.trans g2)⟩
  | false => exact iteF (k F1 H1 w1 g1)⟩
theorem w_or (ha : OkT X B a Γ p) (hb : p = false → OkW X B (.BoolOp .Or (b :: rest) pos) Γ q) : OkW X B (.BoolOp .Or (a :: b :: rest) pos) Γ (p || q) := PW.weak (pw_or ha (PW.when hb)) fun σ H Q ⟨F, w, k⟩ => ⟨F, w, fun F1 H1 w1 g1 => by
  cases p with
  | true => exact iteT (k F1 H1 w1 g1)
  | false => exact iteF ⟨rfl, F1, w1, fun F2 H2 w2 g2 => k F2 H2 w2 (g1.trans g2)⟩⟩
theorem v_one {op} (h : Ok X B a Γ x) : Ok X B (.BoolOp op [a] pos) Γ x := pe_one h
theorem v_and (ha : Ok X B a Γ (.bl p)) (hb : p = true → Ok X B (.BoolOp .And (b :: rest) pos) Γ (.bl q)) : Ok X B (.BoolOp .And (a :: b :: rest) pos) Γ (.bl (p && q)) := PE.weak (pe_and ha (PE.when hb)) fun σ H Q ⟨F, w, k⟩ => ⟨F, w, fun v F1 H1 w1 g1 r1 => by
  cases r1
  refine ⟨p, rfl, ?_⟩
  cases p with
  | true => exact iteT ⟨rfl, F1, w1, fun v F2 H2 w2 g2 r2 => k v F2 H2 w2 (g1.trans g2) r2⟩
  | false => exact iteF (k _ F1 H1 w1 g1 (.bl _))⟩
theorem v_or (ha : Ok X B a Γ (.bl p)) (hb : p = false → Ok X B (.BoolOp .Or (b :: rest) pos) Γ (.bl q)) : Ok X B (.BoolOp .Or (a :: b :: rest) pos) Γ (.bl (p || q)) := PE.weak (pe_or ha (PE.when hb)) fun σ H Q ⟨F, w, k⟩ => ⟨F, w, fun v F1 H1 w1 g1 r1 => by
  cases r1
  refine ⟨p, rfl, ?_⟩
  cases p with
  | true => exact iteT (k _ F1 H1 w1 g1 (.bl _))
  | false => exact iteF ⟨rfl, F1, w1, fun v F2 H2 w2 g2 r2 => k v F2 H2 w2 (g1.trans g2) r2⟩⟩
theorem v_not (h : Ok X B a Γ (.bl p)) : Ok X B (.UnaryOp .Not a pos) Γ (.bl (!p)) := PE.weak (pe_not h) fun σ H Q ⟨F, w, k⟩ => ⟨F, w, fun v F1 H1 w1 g1 r1 => by
  cases r1
  exact ⟨p, rfl, k _ F1 H1 w1 g1 (.bl _)⟩⟩
theorem t_if {y' : D} (hc : OkT X B c Γ p) (ha : p = true → Ok X B a Γ y) (hb : p = false → Ok X B b Γ y') : Ok X B (.IfExp c a b pos) Γ (bif p then y else y') := PE.weak (pe_ifExp hc (PE.when ha) (PE.when hb)) fun σ H Q ⟨F, w, k⟩ => ⟨F, w, fun F1 H1 w1 g1 => by
  cases p with
  | true => exact iteT ⟨rfl, F1, w1, fun v F2 H2 w2 g2 r2 => k v F2 H2 w2 (g1.trans g2) r2⟩
  | false => exact iteF ⟨rfl, F1, w1, fun v F2 H2 w2 g2 r2 => k v F2 H2 w2 (g1.trans g2) r2⟩⟩
theorem ok_as {d d' : D} (h : Ok X B e Γ d) (q : d = d') : Ok X B e Γ d' := q ▸ h
theorem o_as (h : OkT X B e Γ p) (e2 : p = q) : OkT X B e Γ q := e2 ▸ h
/-! built-ins -/
def RCT (K : PySem.W.Frag) (r : List V → Hp → VK → Prop) (ds : List D) (z : D) : Prop := ∀ F H, Same F H → ∀ vs, Reps K F vs ds → ∀ Q : VK, (∀ u F' H', Gr F H F' H' → Same F' H' → Rep K F' u z → Q u H') → r vs H Q
theorem t_cb {r : List V → Hp → VK → Prop} {ds : List D} (ho : ∀ {t : TA}, PA X es t → PE X e (tCB r t)) (ha : OkA X B es Γ ds) (h : RCT X.K r ds z) : Ok X B e Γ z := PE.weak (ho ha) fun σ H Q ⟨F, w, k⟩ =>
  ⟨F, w, fun vs F1 H1 w1 g1 r1 => h F1 H1 w1.fh vs r1 Q fun u F2 H2 g2 fh r2 => k u F2 H2 (w1.gr g2 fh) (g1.trans g2) r2⟩
def RMT (K : PySem.W.Frag) (r : V → List V → Hp → VK → Prop) (x : D) (ds : List D) (z : D) : Prop := ∀ F H, Same F H → ∀ v vs, Rep K F v x → Reps K F vs ds → ∀ Q : VK, (∀ u F' H', Gr F H F' H' → Same F' H' → Rep K F' u z → Q u H') → r v vs H Q
theorem t_bm {r : V → List V → Hp → VK → Prop} {T : String} {ds : List D} {o : Expr} (ho : ∀ {to : TE} {t : TA}, PE X o to → PA X es t → PE X e (tBM X.K T r to t)) (hx : Ok X B o Γ x) (ha : OkA X B es Γ ds) (ty : ∀ F H v, Same F H → Rep X.K F v x → tyV X.K T v H) (h : RMT X.K r x ds z) : Ok X B e Γ z :=
  PE.weak (ho hx ha) fun σ H Q ⟨F, w, k⟩ => ⟨F, w, fun v F1 H1 w1 g1 r1 => ⟨ty F1 H1 v w1.fh r1, F1, w1, fun vs F2 H2 w2 g2 r2 => h F2 H2 w2.fh v vs (r1.mono g2.f) r2 Q fun u F3 H3 g3 fh r3 => k u F3 H3 (w2.gr g3 fh) ((g1.trans g2).trans g3) r3⟩⟩
theorem ty_str {K : PySem.W.Frag} {s : Str} : ∀ F H v, Same F H → Rep K F v (.str s) → tyV K "str" v H := fun F H v _ r => by
  cases r
  rfl
def rLen (K : PySem.W.Frag) : List V → Hp → VK → Prop := fun xs H Q => ∃ p ys, xs = [.ref p] ∧ (SqL K H p ys ∨ SqT K H p ys) ∧ Q (.int ys.length) H
theorem rc_len {K : PySem.W.Frag} {ds : List D} : RCT K (rLen K) [.lst ds] (.int (ds.length : Int)) := fun F H fh vs r Q q => by
  cases r with
  | cons h r =>
    cases r
    cases h with
    | lst h r => exact ⟨_, _, rfl, .inl (tofl (fh _ _ h)), by rw [r.length]; exact q _ F H (Gr.refl _ _) fh (.int _)⟩
theorem rc_lenT {K : PySem.W.Frag} {ds : List D} : RCT K (rLen K) [.tup ds] (.int (ds.length : Int)) := fun F H fh vs r Q q => by
  cases r with
  | cons h r =>
    cases r
    cases h with
    | tup h r => exact ⟨_, _, rfl, .inr (toft (fh _ _ h)), by rw [r.length]; exact q _ F H (Gr.refl _ _) fh (.int _)⟩
def rLenS : List V → Hp → VK → Prop := fun xs H Q => ∃ z, xs = [.str z] ∧ z.length ≤ sizeLine ∧ Q (.int z.length) H
theorem rc_lenS {K : PySem.W.Frag} {u : List Nat} (l : u.length ≤ 100000) : RCT K rLenS [.tx u] (.int (u.length : Int)) := fun F H fh vs r Q q => by
  cases r with
  | cons h r =>
    cases r
    cases h
    exact ⟨_, rfl, by rw [lenS]; exact sz5 l, by rw [lenS]; exact q _ F H (Gr.refl _ _) fh (.int _)⟩
def rStrI : List V → Hp → VK → Prop := fun xs H Q => ∃ i, xs = [.int i] ∧ i.natAbs.log2 < 1920 ∧ Q (.str (toString i)) H
theorem rc_strI {K : PySem.W.Frag} {i : Int} {u : List Nat} (l : i.natAbs.log2 < 1920) (e : (toString i : Str) = S u) : RCT K rStrI [.int i] (.tx u) := fun F H fh vs r Q q => by
  cases r with
  | cons h r =>
    cases r
    cases h
    exact ⟨_, rfl, l, by rw [e]; exact q _ F H (Gr.refl _ _) fh (.str _)⟩
def rJoinT (K : PySem.W.Frag) : V → List V → Hp → VK → Prop := fun x xs H Q => ∃ a p, ∃ ys : List Str, x = .str a ∧ xs = [.ref p] ∧ (SqL K H p (ys.map V.str) ∨ SqT K H p (ys.map V.str)) ∧ (ys.map (·.length)).sum + ys.length * a.length ≤ 16777216 ∧ Q (.str (Txt.join a ys)) H
theorem sum_len : ∀ (zs : List (List Nat)) (m : Nat), (∀ z ∈ zs, z.length ≤ m) → ((zs.map S).map (·.length)).sum ≤ zs.length * m
  | [], m, _ => by simp
  | z :: zs, m, h => by
    have e := sum_len zs m fun y hy => h y (List.mem_cons_of_mem _ hy)
    have l := h z List.mem_cons_self
    rw [List.map_cons, List.map_cons, List.sum_cons, List.length_cons, Nat.succ_mul, lenS]
    omega
theorem rm_join {K : PySem.W.Frag} {u : List Nat} {zs : List (List Nat)} (m : Nat) (h : ∀ z ∈ zs, z.length ≤ m) (l : zs.length * (m + u.length) ≤ 16777216) : RMT K (rJoinT K) (.tx u) [.lst (zs.map D.tx)] (.tx (TL.joinL u zs)) := fun F H fh v vs rv r Q q => by
  cases rv
  cases r with
  | cons h1 r =>
    cases r
    cases h1 with
    | @lst a vs _ h2 r2 =>
      have e : vs = (zs.map S).map V.str := by
        have := Reps.strs (ss := zs.map S) (K := K) (F := F) (vs := vs) (by rw [List.map_map]; exact r2)
        exact this
      subst e
      refine ⟨S u, a, zs.map S, rfl, rfl, .inl (tofl (fh _ _ h2)), ?_, ?_⟩
      · have := sum_len zs m h
        rw [List.length_map, lenS]
        rw [Nat.mul_add] at l
        omega
      · rw [join_S]
        exact q _ F H (Gr.refl _ _) fh (.str _)
/-! slices -/
def OkO (X : Cx) (B : Hp × Hp) (o : Option Expr) (Γ : Env) (i : Option Int) : Prop := PO X o (fun σ H Q => ∃ F, Wd X.K B F H σ Γ ∧ ∀ F' H', Wd X.K B F' H' σ Γ → Gr F H F' H' → Q i H')
theorem PO.weak {o : Option Expr} {t t' : TO} (h : PO X o t) (w : ∀ σ H Q, t' σ H Q → t σ H Q) : PO X o t' := ⟨fun pins s σ H Q I q => h.run pins s σ H Q I (w _ _ _ q)⟩
theorem so_none : OkO X B none Γ none := PO.weak po_none fun σ H Q ⟨F, w, k⟩ => k F H w (Gr.refl _ _)
theorem so_some (h : Ok X B e Γ (.int i)) : OkO X B (some e) Γ (some i) := PO.weak (po_some h) fun σ H Q ⟨F, w, k⟩ => ⟨F, w, fun v F1 H1 w1 g1 r1 => by
  cases r1
  exact ⟨i, rfl, k F1 H1 w1 g1⟩⟩
/-- xs[lo:hi] of trees -/
def cutTr (xs : List D) (lo hi : Option Int) : List D := (xs.drop (HT.sIx xs.length 0 lo)).take (HT.sIx xs.length xs.length hi - HT.sIx xs.length 0 lo)
theorem Reps.cut {K : PySem.W.Frag} {F : Hp} {vs : List V} {ds : List D} (r : Reps K F vs ds) (lo hi : Option Int) : Reps K F (cutV vs lo hi) (cutTr ds lo hi) := by
  unfold cutV cutTr
  rw [r.length]
  exact (r.drop _).take _
theorem t_slL {ds : List D} {lo hi : Option Expr} {l h : Option Int} {p2 : Pos} (he : Ok X B e Γ (.lst ds)) (hl : OkO X B lo Γ l) (hu : OkO X B hi Γ h) : Ok X B (.Subscript e (.Slice lo hi none p2) pos) Γ (.lst (cutTr ds l h)) :=
  PE.weak (pe_slice sl_list he hl hu) fun σ H Q ⟨F, w, k⟩ => ⟨F, w, fun v F1 H1 w1 g1 r1 => ⟨F1, w1, fun F2 H2 w2 g2 => ⟨F2, w2, fun F3 H3 w3 g3 => by
    cases r1 with
    | @lst a vs _ h1 r1 =>
      have h3 := w3.fh _ _ (g3.f _ _ (g2.f _ _ h1))
      refine ⟨a, vs, rfl, tofl h3, fun p n => ?_⟩
      have g := Gr.new (o := .lst (cutV vs l h)) w3.fh n
      exact k _ _ _ (w3.gr g (same_both w3.fh)) (((g1.trans g2).trans g3).trans g) (.lst upd_same (((r1.mono (g2.f.trans g3.f)).cut l h).mono g.f))⟩⟩⟩
theorem t_slS {lo hi : Option Expr} {l h : Option Int} {p2 : Pos} (he : Ok X B e Γ (.tx u)) (hl : OkO X B lo Γ l) (hu : OkO X B hi Γ h) (lu : u.length ≤ 100000) : Ok X B (.Subscript e (.Slice lo hi none p2) pos) Γ (.str (cutS (S u) l h)) :=
  PE.weak (pe_slice sl_str he hl hu) fun σ H Q ⟨F, w, k⟩ => ⟨F, w, fun v F1 H1 w1 g1 r1 => ⟨F1, w1, fun F2 H2 w2 g2 => ⟨F2, w2, fun F3 H3 w3 g3 => by
    cases r1
    exact ⟨S u, rfl, by rw [lenS]; exact sz5 lu, k _ F3 H3 w3 ((g1.trans g2).trans g3) (.str _)⟩⟩⟩⟩
end
end Tr
/-! ### calls, objects, statements -/
namespace Tr
open PySem PySem.Spec PyProof.Rows L2 SX
/-! promises of defs, by trees -/
def spT (K : PySem.W.Frag) (ds : List D) (d : D) : Sp := fun vs H Q _ => ∃ F, Same F H ∧ Reps K F vs ds ∧ ∀ v F' H', Gr F H F' H' → Same F' H' → Rep K F' v d → Q v H'
def spG (K : PySem.W.Frag) (G : List D → D → Prop) : Sp := fun vs H Q E => ∃ ds d, G ds d ∧ spT K ds d vs H Q E
section
variable {X : Cx} {B : Hp × Hp} {Γ Γ' : Env} {e a b c o : Expr} {es rest : List Expr} {x y z : D} {pos apos : Pos} {i j : Int} {p q : Bool} {u w : List Nat} {E : XK}
theorem t_call {sp : Sp} {ds : List D} (ho : ∀ {t : TA}, PA X es t → PE X e (tCall sp [] E t)) (ha : OkA X B es Γ ds) (h : ∀ vs H Q, spT X.K ds z vs H Q E → sp vs H Q E) : Ok X B e Γ z := PE.weak (ho ha) fun σ H Q ⟨F, w, k⟩ =>
  ⟨F, w, fun vs F1 H1 w1 g1 r1 => by
    show sp (vs ++ []) H1 Q E
    rw [List.append_nil]
    exact h _ _ _ ⟨F1, w1.fh, r1, fun v F2 H2 g2 fh r2 => k v F2 H2 (w1.gr g2 fh) (g1.trans g2) r2⟩⟩
theorem t_callG {G : List D → D → Prop} {ds : List D} (ho : ∀ {t : TA}, PA X es t → PE X e (tCall (spG X.K G) [] E t)) (ha : OkA X B es Γ ds) (h : G ds z) : Ok X B e Γ z := t_call ho ha fun _ _ _ q => ⟨ds, z, h, q⟩
theorem t_meth {C : Addr} {m : Str} {sp : Sp} {fs : List (Str × D)} {ds : List D} (ho : ∀ {to : TE} {t : TA}, PE X o to → PA X es t → PE X e (tMeth C m sp [] E to t)) (hx : Ok X B o Γ (.obj C fs)) (ha : OkA X B es Γ ds) (nf : fs.lookup m = none)
    (h : ∀ vs H Q, spT X.K (.obj C fs :: ds) z vs H Q E → sp vs H Q E) : Ok X B e Γ z := PE.weak (ho hx ha) fun σ H Q ⟨F, w, k⟩ => ⟨F, w, fun v F1 H1 w1 g1 r1 => by
  cases r1 with
  | obj h1 r1 =>
    refine ⟨_, _, _, rfl, w1.fh _ _ h1, r1.none nf, F1, w1, fun vs F2 H2 w2 g2 r2 => ?_⟩
    show sp (_ :: (vs ++ [])) H2 Q E
    rw [List.append_nil]
    exact h _ _ _ ⟨F2, w2.fh, .cons (.obj (g2.f _ _ h1) (r1.mono g2.f)) r2, fun v F3 H3 g3 fh r3 => k v F3 H3 (w2.gr g3 fh) ((g1.trans g2).trans g3) r3⟩⟩
theorem t_meth0 {C : Addr} {m : Str} {sp : Sp} {fs : List (Str × D)} (ho : ∀ {to : TE}, PE X o to → PE X e (tMeth C m sp [] E to tNil)) (hx : Ok X B o Γ (.obj C fs)) (nf : fs.lookup m = none)
    (h : ∀ vs H Q, spT X.K [.obj C fs] z vs H Q E → sp vs H Q E) : Ok X B e Γ z := PE.weak (ho hx) fun σ H Q ⟨F, w, k⟩ => ⟨F, w, fun v F1 H1 w1 g1 r1 => by
  cases r1 with
  | obj h1 r1 =>
    refine ⟨_, _, _, rfl, w1.fh _ _ h1, r1.none nf, ?_⟩
    exact h _ _ _ ⟨F1, w1.fh, .cons (.obj h1 r1) .nil, fun v F3 H3 g3 fh r3 => k v F3 H3 (w1.gr g3 fh) (g1.trans g3) r3⟩⟩
theorem t_fld {C : Addr} {f : Str} {fs : List (Str × D)} (hx : Ok X B o Γ (.obj C fs)) (c : Cls X.K C) (n : NoAttr X.K C f) (l : fs.lookup f = some z) (hb : attributeBase o f X.env (eval o X.env) = eval o X.env) : Ok X B (.Attribute o f pos) Γ z :=
  PE.weak (pe_fld hx hb) fun σ H Q ⟨F, w, k⟩ => ⟨F, w, fun v F1 H1 w1 g1 r1 => by
    cases r1 with
    | obj h1 r1 =>
      obtain ⟨v, e, rv⟩ := r1.look l
      exact ⟨_, _, _, _, v, rfl, w1.fh _ _ h1, c, n, e, k v F1 H1 w1 g1 rv⟩⟩
theorem t_con {C : Addr} {f : Str} {fs : List (Str × D)} {v : V} {u : Value} (hx : Ok X B o Γ (.obj C fs)) (c : Cls X.K C) (n : Con X.K C f v u) (l : fs.lookup f = none) (r : ∀ F, Rep X.K F v z) (hb : attributeBase o f X.env (eval o X.env) = eval o X.env) : Ok X B (.Attribute o f pos) Γ z :=
  PE.weak (pe_con hx hb) fun σ H Q ⟨F, w, k⟩ => ⟨F, w, fun v' F1 H1 w1 g1 r1 => by
    cases r1 with
    | obj h1 r1 => exact ⟨_, _, _, _, v, u, rfl, w1.fh _ _ h1, c, n, r1.none l, k v F1 H1 w1 g1 (r _)⟩⟩
theorem t_prop {C : Addr} {sp : Sp} {fs : List (Str × D)} (ho : ∀ {to : TE}, PE X o to → PE X e (tProp C sp [] E to)) (hx : Ok X B o Γ (.obj C fs)) (h : ∀ vs H Q, spT X.K [.obj C fs] z vs H Q E → sp vs H Q E) : Ok X B e Γ z :=
  PE.weak (ho hx) fun σ H Q ⟨F, w, k⟩ => ⟨F, w, fun v F1 H1 w1 g1 r1 => by
    cases r1 with
    | obj h1 r1 =>
      refine ⟨_, _, _, rfl, w1.fh _ _ h1, ?_⟩
      exact h _ _ _ ⟨F1, w1.fh, .cons (.obj h1 r1) .nil, fun v F3 H3 g3 fh r3 => k v F3 H3 (w1.gr g3 fh) (g1.trans g3) r3⟩⟩
end
/-! ### statements -/
inductive Out where
  | nx (Γ : Env)
  | rt (d : D)
structure Wb (B : Hp × Hp) (F H : Hp) : Prop where
  ff : Same B.1 F
  hh : Same B.2 H
  fh : Same F H
  ex : ∀ a o, B.2 a = some o → B.1 a = none → F a = none
theorem Wd.b {K : PySem.W.Frag} {B : Hp × Hp} {F H : Hp} {σ : L2.St} {Γ : Env} (w : Wd K B F H σ Γ) : Wb B F H := ⟨w.ff, w.hh, w.fh, w.ex⟩
def after (K : PySem.W.Frag) (B : Hp × Hp) (D : Ends) : Out → Prop
  | .nx Γ => ∀ σ F H, Wd K B F H σ Γ → D.nx σ H
  | .rt d => ∀ v F H, Wb B F H → Rep K F v d → D.rt v H
def tSt (K : PySem.W.Frag) (B : Hp × Hp) (Γ : Env) (o : Out) : TS := fun D σ H => ∃ F, Wd K B F H σ Γ ∧ after K B D o
abbrev OkS (X : Cx) (B : Hp × Hp) (s : Stmt) (Γ : Env) (o : Out) : Prop := PS X s (tSt X.K B Γ o)
abbrev OkSs (X : Cx) (B : Hp × Hp) (s : List Stmt) (Γ : Env) (o : Out) : Prop := PSs X s (tSt X.K B Γ o)
theorem after.imp {K : PySem.W.Frag} {B : Hp × Hp} {D D' : Ends} {o : Out} (h : after K B D o) (n : ∀ Γ, o = .nx Γ → ∀ σ F H, Wd K B F H σ Γ → D'.nx σ H) (r : D'.rt = D.rt) : after K B D' o := by
  cases o with
  | nx Γ => exact n Γ rfl
  | rt d => intro v F H w q; rw [r]; exact h v F H w q
section
variable {X : Cx} {B : Hp × Hp} {Γ Γ' Γ1 : Env} {e a b c o : Expr} {es rest : List Expr} {x y z d : D} {pos pos' apos : Pos} {p q : Bool} {s : Stmt} {r ss : List Stmt} {ou : Out} {i : Nat}
theorem s_nil : OkSs X B [] Γ (.nx Γ) := PSs.weak pss_nil fun D σ H ⟨F, w, k⟩ => k σ F H w
theorem s_cons (h : OkS X B s Γ (.nx Γ1)) (hr : OkSs X B r Γ1 ou) : OkSs X B (s :: r) Γ ou := PSs.weak (pss_cons h hr) fun D σ H ⟨F, w, k⟩ => ⟨F, w, fun σ' F' H' w' => ⟨F', w', k⟩⟩
theorem s_one (h : OkS X B s Γ ou) : OkSs X B [s] Γ ou := pss_one h
theorem s_ret (h : Ok X B e Γ d) : OkS X B (.Return (some e) pos) Γ (.rt d) := PS.weak (ps_ret h) fun D σ H ⟨F, w, k⟩ => ⟨F, w, fun v F' H' w' g r => k v F' H' w'.b r⟩
theorem Wd.set {K : PySem.W.Frag} {F H : Hp} {σ : L2.St} {v : V} (w : Wd K B F H σ Γ) (r : Rep K F v d) : Wd K B F H (σ.set i (some v)) (Γ.set i (.d d)) := by
  refine ⟨w.ff, w.hh, w.fh, w.ex, by rw [List.length_set, List.length_set, w.len], fun j o s h1 h2 => ?_, fun j k p xs ys ne h1 h2 h3 h4 => ?_⟩
  · rw [List.getElem?_set] at h1 h2
    by_cases e : i = j
    · rw [if_pos e] at h1 h2
      split at h1
      · split at h2
        · cases h1; cases h2
          exact ⟨v, rfl, r⟩
        · cases h2
      · cases h1
    · rw [if_neg e] at h1 h2
      exact w.sl j o s h1 h2
  · rw [List.getElem?_set] at h1 h2 h3 h4
    have nj : i ≠ j := fun e => by
      rw [if_pos e] at h3
      split at h3 <;> cases h3
    have nk : i ≠ k := fun e => by
      rw [if_pos e] at h4
      split at h4 <;> cases h4
    rw [if_neg nj] at h1 h3
    rw [if_neg nk] at h2 h4
    exact w.dj j k p xs ys ne h1 h2 h3 h4
theorem s_set (ho : ∀ {t : TE}, PE X e t → PS X s (tAsg t (gName i))) (h : Ok X B e Γ d) : OkS X B s Γ (.nx (Γ.set i (.d d))) := PS.weak (ho h) fun D σ H ⟨F, w, k⟩ => ⟨F, w, fun v F' H' w' g r => k _ F' H' (w'.set r)⟩
/-- a new list of the def's own -/
theorem Wd.setOwn {K : PySem.W.Frag} {F H : Hp} {σ : L2.St} {p : Addr} {ho : HO} {ds : Ow} (w : Wd K B F H σ Γ) (n : H p = none) (r : OwR K F p ho ds) : Wd K B F (upd H p ho) (σ.set i (some (.ref p))) (Γ.set i (.own ds)) := by
  have sp := sup (o := ho) n
  refine ⟨w.ff, w.hh.trans sp, w.fh.trans sp, w.ex, by rw [List.length_set, List.length_set, w.len], fun j o s h1 h2 => ?_, fun j k p' xs ys ne h1 h2 h3 h4 => ?_⟩
  · rw [List.getElem?_set] at h1 h2
    by_cases e : i = j
    · rw [if_pos e] at h1 h2
      split at h1
      · split at h2
        · cases h1; cases h2
          exact ⟨p, ho, rfl, w.hh.free n, w.fh.free n, upd_same, r⟩
        · cases h2
      · cases h1
    · rw [if_neg e] at h1 h2
      have q := w.sl j o s h1 h2
      cases s with
      | no => trivial
      | d x => exact q
      | own xs =>
        obtain ⟨p1, vs1, e1, a1, a2, a3, a4⟩ := q
        exact ⟨p1, vs1, e1, a1, a2, sp _ _ a3, a4⟩
  · rw [List.getElem?_set] at h1 h2 h3 h4
    have old : ∀ (k : Nat) (ys : Ow), σ[k]? = some (some (.ref p)) → Γ[k]? = some (.own ys) → False := fun k ys e1 e2 => by
      obtain ⟨p1, vs1, e3, a1, a2, a3, a4⟩ := w.sl k _ _ e1 e2
      cases e3
      rw [n] at a3
      cases a3
    by_cases ej : i = j
    · by_cases ek : i = k
      · exact ne (ej.symm.trans ek)
      · rw [if_pos ej] at h1 h3
        rw [if_neg ek] at h2 h4
        split at h1
        · cases h1
          exact old k ys h2 h4
        · cases h1
    · rw [if_neg ej] at h1 h3
      by_cases ek : i = k
      · rw [if_pos ek] at h2 h4
        split at h2
        · cases h2
          exact old j xs h1 h3
        · cases h2
      · rw [if_neg ek] at h2 h4
        exact w.dj j k p' xs ys ne h1 h2 h3 h4
theorem s_setOwn {ds : List D} (ho : ∀ {t : TA}, PA X es t → PS X s (tAsg (tLst t) (gName i))) (h : OkA X B es Γ ds) (l : ds.length ≤ 100000) : OkS X B s Γ (.nx (Γ.set i (.own (.l ds)))) :=
  PS.weak (ho h) fun D σ H ⟨F, w, k⟩ => ⟨F, w, fun vs F' H' w' g r => ⟨by rw [r.length]; exact sz5 l, fun p n => k _ F' _ (w'.setOwn n (.l r))⟩⟩
theorem Wd.grow {K : PySem.W.Frag} {F H : Hp} {σ : L2.St} {p : Addr} {ho hw : HO} {ds es : Ow} (w : Wd K B F H σ Γ) (hs : σ[i]? = some (some (.ref p))) (hg : Γ[i]? = some (.own ds)) (hp : H p = some ho) (h0 : B.2 p = none) (hF : F p = none) (r : OwR K F p hw es) :
    Wd K B F (upd H p hw) σ (Γ.set i (.own es)) := by
  have sb : ∀ {G : Hp}, G p = none → Same G H → Same G (upd H p hw) := fun n s a o e => by
    rw [upd_ne (ne_of_none e n)]
    exact s _ _ e
  refine ⟨w.ff, sb h0 w.hh, sb hF w.fh, w.ex, by rw [List.length_set, w.len], fun j o s h1 h2 => ?_, fun j k p' xs ys ne h1 h2 h3 h4 => ?_⟩
  · rw [List.getElem?_set] at h2
    by_cases e : i = j
    · rw [if_pos e] at h2
      subst e
      split at h2
      · cases h2
        rw [hs] at h1
        cases h1
        exact ⟨p, hw, rfl, h0, hF, upd_same, r⟩
      · cases h2
    · rw [if_neg e] at h2
      have q := w.sl j o s h1 h2
      cases s with
      | no => trivial
      | d x => exact q
      | own xs =>
        obtain ⟨p1, vs1, e1, a1, a2, a3, a4⟩ := q
        have ne : p1 ≠ p := fun y => by
          subst y
          subst e1
          exact w.dj i j p1 ds xs e hs h1 hg h2
        exact ⟨p1, vs1, e1, a1, a2, by rw [upd_ne ne]; exact a3, a4⟩
  · rw [List.getElem?_set] at h3 h4
    have back : ∀ (m : Nat) (zs : Ow), (if i = m then (if i < Γ.length then some (Sl.own es) else none) else Γ[m]?) = some (.own zs) → ∃ zs', Γ[m]? = some (.own zs') := fun m zs h => by
      by_cases e : i = m
      · subst e
        exact ⟨ds, hg⟩
      · rw [if_neg e] at h
        exact ⟨zs, h⟩
    obtain ⟨xs', h3⟩ := back j xs h3
    obtain ⟨ys', h4⟩ := back k ys h4
    exact w.dj j k p' xs' ys' ne h1 h2 h3 h4
theorem Wd.own {K : PySem.W.Frag} {F H : Hp} {σ : L2.St} {ds : Ow} (w : Wd K B F H σ Γ) (g : Γ[i]? = some (.own ds)) : ∃ p vs, σ[i]? = some (some (.ref p)) ∧ B.2 p = none ∧ F p = none ∧ H p = some vs ∧ OwR K F p vs ds := by
  have li : i < Γ.length := (List.getElem?_eq_some_iff.mp g).1
  have ls : i < σ.length := by rw [w.len]; exact li
  obtain ⟨p, vs, e, r⟩ := w.sl i _ _ (List.getElem?_eq_getElem ls) g
  exact ⟨p, vs, by rw [List.getElem?_eq_getElem ls, e], r⟩
/-- xs.append(e), xs the def's own list -/
theorem s_append {ds : List D} (ho : ∀ {t : TA}, PA X es t → PS X s (tDrop (tBM X.K "list" rAppend (tVar i) t))) (g : Γ[i]? = some (.own (.l ds))) (h : OkA X B es Γ [d]) (l : ds.length < 100000) : OkS X B s Γ (.nx (Γ.set i (.own (.l (ds ++ [d]))))) :=
  PS.weak (ho h) fun D σ H ⟨F, w, k⟩ => by
    obtain ⟨p, ho, e, h0, hF, hp, r⟩ := w.own g
    obtain ⟨vs, rfl, q⟩ := r.lst
    refine ⟨_, e, .inl ⟨rfl, _, tofl hp⟩, F, w, fun ws F1 H1 w1 g1 r1 => ?_⟩
    cases r1 with
    | @cons v _ _ _ h1 r1 =>
      cases r1
      have hp1 := g1.h _ _ hp
      have hF1 := g1.x _ _ hp hF
      refine ⟨p, vs, v, rfl, rfl, hp1, by rw [q.length]; exact sz5' l, k _ F1 _ (w1.grow e g hp1 h0 hF1 (.l ((q.mono g1.f).append (.cons h1 .nil))))⟩
/-- the def's own list will not grow any more -/
def Ow.tree : Ow → D
  | .l xs => .lst xs
  | .o _ _ C fs => .obj C fs
theorem OwR.rep {K : PySem.W.Frag} {F : Hp} {p : Addr} {ho : HO} {c : Ow} (r : OwR K F p ho c) (h : F p = some ho) : Rep K F (.ref p) c.tree := by
  cases r with
  | l r => exact .lst h r
  | o r => exact .obj h r
theorem Wd.freeze {K : PySem.W.Frag} {F H : Hp} {σ : L2.St} {ds : Ow} (w : Wd K B F H σ Γ) (g : Γ[i]? = some (.own ds)) : ∃ F', Same F F' ∧ Wd K B F' H σ (Γ.set i (.d ds.tree)) := by
  obtain ⟨p, vs, e, h0, hF, hp, r⟩ := w.own g
  have sF := sup (o := vs) hF
  refine ⟨upd F p vs, sF, w.ff.trans sF, w.hh, fun a o q => ?_, fun a o h1 h2 => ?_, by rw [List.length_set, w.len], fun j o s h1 h2 => ?_, fun j k p' xs ys ne h1 h2 h3 h4 => ?_⟩
  · by_cases y : a = p
    · subst y
      rw [upd_same] at q
      rw [← q]
      exact hp
    · rw [upd_ne y] at q
      exact w.fh _ _ q
  · rw [upd_ne (fun y => by rw [y, h0] at h1; cases h1)]
    exact w.ex a o h1 h2
  · rw [List.getElem?_set] at h2
    by_cases y : i = j
    · rw [if_pos y] at h2
      subst y
      split at h2
      · cases h2
        rw [e] at h1
        cases h1
        exact ⟨_, rfl, (r.mono sF).rep upd_same⟩
      · cases h2
    · rw [if_neg y] at h2
      have q := w.sl j o s h1 h2
      cases s with
      | no => trivial
      | d x =>
        obtain ⟨v, ev, rv⟩ := q
        exact ⟨v, ev, rv.mono sF⟩
      | own xs =>
        obtain ⟨p1, vs1, e1, a1, a2, a3, a4⟩ := q
        have ne : p1 ≠ p := fun z => by
          subst z
          subst e1
          exact w.dj i j p1 ds xs y e h1 g h2
        exact ⟨p1, vs1, e1, a1, by rw [upd_ne ne]; exact a2, a3, a4.mono sF⟩
  · rw [List.getElem?_set] at h3 h4
    have nj : i ≠ j := fun y => by
      rw [if_pos y] at h3
      split at h3 <;> cases h3
    have nk : i ≠ k := fun y => by
      rw [if_pos y] at h4
      split at h4 <;> cases h4
    rw [if_neg nj] at h3
    rw [if_neg nk] at h4
    exact w.dj j k p' xs ys ne h1 h2 h3 h4
theorem s_freeze {ds : Ow} (i : Nat) (g : Γ[i]? = some (.own ds)) (h : OkSs X B ss (Γ.set i (.d ds.tree)) ou) : OkSs X B ss Γ ou := PSs.weak h fun D σ H ⟨F, w, k⟩ => by
  obtain ⟨F', _, w'⟩ := w.freeze g
  exact ⟨F', w', k⟩
/-! if -/
theorem s_if {o1 o2 : Out} (hc : OkT X B c Γ p) (ha : p = true → OkSs X B ss Γ o1) (hb : p = false → OkSs X B r Γ o2) : OkS X B (.If c ss r pos) Γ (bif p then o1 else o2) :=
  PS.weak (ps_if hc (PSs.when ha) (PSs.when hb)) fun D σ H ⟨F, w, k⟩ => ⟨F, w, fun F1 H1 w1 g1 => by
    cases p with
    | true => exact iteT ⟨rfl, F1, w1, k⟩
    | false => exact iteF ⟨rfl, F1, w1, k⟩⟩
/-- if c: .. return; the rest -/
theorem s_ifRet (hc : OkT X B c Γ p) (ha : p = true → OkSs X B ss Γ (.rt d)) (hr : p = false → OkSs X B r Γ ou) : OkSs X B (.If c ss [] pos :: r) Γ (bif p then .rt d else ou) :=
  PSs.weak (pss_cons (ps_if hc (PSs.when ha) pss_nil) (PSs.when hr)) fun D σ H ⟨F, w, k⟩ => ⟨F, w, fun F1 H1 w1 g1 => by
    cases p with
    | true => exact iteT ⟨rfl, F1, w1, k⟩
    | false => exact iteF ⟨rfl, F1, w1, k⟩⟩
theorem s_ifRet2 (hc : OkT X B c Γ p) (ha : p = true → OkSs X B ss Γ (.rt x)) (hr : p = false → OkSs X B r Γ (.rt y)) : OkSs X B (.If c ss [] pos :: r) Γ (.rt (bif p then x else y)) := by
  have h := s_ifRet (pos := pos) hc ha hr
  cases p with
  | true => exact h
  | false => exact h
/-- both ways end in one form of the slots -/
theorem s_ifJoin {G : Bool → Env} (hc : OkT X B c Γ p) (ha : p = true → OkSs X B ss Γ (.nx (G true))) (hb : p = false → OkSs X B r Γ (.nx (G false))) : OkS X B (.If c ss r pos) Γ (.nx (G p)) := by
  have h := s_if (pos := pos) hc ha hb
  cases p with
  | true => exact h
  | false => exact h
/-- slots may be forgotten -/
def le : Env → Env → Prop := fun Γ Γ' => Γ.length = Γ'.length ∧ ∀ (i : Nat) (s : Sl), Γ'[i]? = some s → s = .no ∨ Γ[i]? = some s
theorem Wd.le {K : PySem.W.Frag} {F H : Hp} {σ : L2.St} (w : Wd K B F H σ Γ) (h : le Γ Γ') : Wd K B F H σ Γ' := by
  refine ⟨w.ff, w.hh, w.fh, w.ex, w.len.trans h.1, fun j o s h1 h2 => ?_, fun j k p xs ys ne h1 h2 h3 h4 => ?_⟩
  · rcases h.2 j s h2 with rfl | q
    · trivial
    · exact w.sl j o s h1 q
  · rcases h.2 j _ h3 with y | q3
    · cases y
    · rcases h.2 k _ h4 with y | q4
      · cases y
      · exact w.dj j k p xs ys ne h1 h2 q3 q4
theorem le.refl : le Γ Γ := ⟨rfl, fun _ _ h => .inr h⟩
theorem le.cons {s s' : Sl} (h : le Γ Γ') (e : s' = .no ∨ s = s') : le (s :: Γ) (s' :: Γ') := ⟨congrArg (· + 1) h.1, fun i t q => by
  cases i with
  | zero =>
    cases q
    rcases e with e | e
    · exact .inl e
    · exact .inr (by rw [e]; rfl)
  | succ i => exact h.2 i t q⟩
theorem s_le (h : le Γ Γ') (hs : OkSs X B ss Γ (.nx Γ)) : OkSs X B ss Γ (.nx Γ') := PSs.weak hs fun D σ H ⟨F, w, k⟩ => ⟨F, w, fun σ' F' H' w' => k σ' F' H' (w'.le h)⟩
theorem s_leO {Γ2 : Env} (hs : OkSs X B ss Γ (.nx Γ2)) (h : le Γ2 Γ') : OkSs X B ss Γ (.nx Γ') := PSs.weak hs fun D σ H ⟨F, w, k⟩ => ⟨F, w, fun σ' F' H' w' => k σ' F' H' (w'.le h)⟩
theorem s_leI {Γ2 : Env} (h : le Γ Γ2) (hs : OkSs X B ss Γ2 ou) : OkSs X B ss Γ ou := PSs.weak hs fun D σ H ⟨F, w, k⟩ => ⟨F, w.le h, k⟩
/-! targets -/
def BindG (K : PySem.W.Frag) (B : Hp × Hp) (vs : List Nat) (g : TG) (Γ : Env) (d : D) (Γ' : Env) : Prop := ∀ σ F H v, Wd K B F H σ Γ → Rep K F v d → ∀ R : L2.St → Hp → Prop, (∀ σ', Wd K B F H σ' Γ' → wipe σ' vs = wipe σ vs → R σ' H) → g v σ H R
def BindGs (K : PySem.W.Frag) (B : Hp × Hp) (vs : List Nat) (g : TGs) (Γ : Env) (ds : List D) (Γ' : Env) : Prop := ∀ σ F H us, Wd K B F H σ Γ → Reps K F us ds → ∀ R : L2.St → Hp → Prop, (∀ σ', Wd K B F H σ' Γ' → wipe σ' vs = wipe σ vs → R σ' H) → g us σ H R
theorem wipe_set {σ : L2.St} {o : Option V} : ∀ {vs : List Nat}, i ∈ vs → wipe (σ.set i o) vs = wipe σ vs
  | [], h => nomatch h
  | v :: vs, h => by
    unfold wipe
    by_cases m : i ∈ vs
    · rw [wipe_set m]
    · have e : i = v := by
        rcases List.mem_cons.mp h with h | h
        · exact h
        · exact absurd h m
      subst e
      have comm : ∀ (vs : List Nat), i ∉ vs → wipe (σ.set i o) vs = (wipe σ vs).set i o := fun vs => by
        induction vs with
        | nil => intro _; rfl
        | cons v vs ih =>
          intro n
          unfold wipe
          rw [ih (fun k => n (List.mem_cons_of_mem _ k))]
          exact List.set_comm _ _ (fun k => n (by rw [k]; exact List.mem_cons_self))
      rw [comm vs m, List.set_set]
theorem b_name {K : PySem.W.Frag} {vs : List Nat} (m : i ∈ vs) : BindG K B vs (gName i) Γ d (Γ.set i (.d d)) := fun σ F H v w r R h => h _ (w.set r) (wipe_set m)
theorem b_nil {K : PySem.W.Frag} {vs : List Nat} : BindGs K B vs gNil Γ [] Γ := fun σ F H us w r R h => by
  cases r
  exact ⟨rfl, h σ w rfl⟩
theorem b_cons {K : PySem.W.Frag} {vs : List Nat} {g : TG} {t : TGs} {ds : List D} {Γ2 : Env} (h1 : BindG K B vs g Γ d Γ1) (h2 : BindGs K B vs t Γ1 ds Γ2) : BindGs K B vs (gCons g t) Γ (d :: ds) Γ2 := fun σ F H us w r R h => by
  cases r with
  | cons r1 r2 => exact ⟨_, _, rfl, h1 σ F H _ w r1 _ fun σ1 w1 e1 => h2 σ1 F H _ w1 r2 R fun σ2 w2 e2 => h σ2 w2 (e2.trans e1)⟩
theorem b_tup {K : PySem.W.Frag} {vs : List Nat} {n : Nat} {t : TGs} {ds : List D} (h : BindGs K B vs t Γ ds Γ') (l : ds.length = n := by rfl) : BindG K B vs (gTup K n t) Γ (.tup ds) Γ' := fun σ F H v w r R q => by
  cases r with
  | tup h1 r1 => exact ⟨_, _, rfl, toft (w.fh _ _ h1), by rw [r1.length, l], h σ F H _ w r1 R q⟩
/-! what is walked: the items as trees -/
def TreeIt (K : PySem.W.Frag) (J : It) (F0 : Hp) (ds : List D) : Prop := ∃ (G : Hp → Prop) (Y : Nat → Hp → V → Hp → Prop), Walk J ds.length G Y ∧ (∀ F H, Same F0 F → Same F H → G H) ∧
  ∀ i F H v H' d, Same F0 F → Same F H → ds[i]? = some d → Y i H v H' → ∃ F', Gr F H F' H' ∧ Same F' H' ∧ Rep K F' v d
def tIt (K : PySem.W.Frag) (B : Hp × Hp) (Γ : Env) (ds : List D) : TI := fun σ H R => ∃ F, Wd K B F H σ Γ ∧ ∀ J F' H', Wd K B F' H' σ Γ → Gr F H F' H' → TreeIt K J F' ds → R J H'
theorem PI.weak {tg : Expr} {t t' : TI} (h : PI X tg e t) (w : ∀ σ H R, t' σ H R → t σ H R) : PI X tg e t' := ⟨fun pins s σ H R I q => h.run pins s σ H R I (w _ _ _ q)⟩
abbrev OkI (X : Cx) (B : Hp × Hp) (tg e : Expr) (Γ : Env) (ds : List D) : Prop := PI X tg e (tIt X.K B Γ ds)
theorem i_list {tg : Expr} {ds : List D} (h : Ok X B e Γ (.lst ds)) : OkI X B tg e Γ ds := PI.weak (pi_list h) fun σ H R ⟨F, w, k⟩ => ⟨F, w, fun v F1 H1 w1 g1 r1 => by
  cases r1 with
  | @lst a us _ h1 r1 =>
    refine ⟨a, rfl, ⟨us, tofl (w1.fh _ _ h1)⟩, k _ F1 H1 w1 g1 ⟨_, _, by rw [← r1.length]; exact walk_list (K := X.K) (a := a) (xs := us), fun F H s fh => tofl (fh _ _ (s _ _ h1)), fun i F H v H' d s fh hd y => ?_⟩⟩
    obtain ⟨rfl, hx⟩ := y
    obtain ⟨d', hd', rx⟩ := r1.atV hx
    rw [hd] at hd'
    cases hd'
    exact ⟨F, Gr.refl _ _, fh, rx.mono s⟩⟩
theorem i_tup {tg : Expr} {ds : List D} (h : Ok X B e Γ (.tup ds)) : OkI X B tg e Γ ds := PI.weak (pi_tup h) fun σ H R ⟨F, w, k⟩ => ⟨F, w, fun v F1 H1 w1 g1 r1 => by
  cases r1 with
  | @tup a us _ h1 r1 =>
    refine ⟨a, rfl, ⟨us, toft (w1.fh _ _ h1)⟩, k _ F1 H1 w1 g1 ⟨_, _, by rw [← r1.length]; exact walk_tup (K := X.K) (a := a) (xs := us), fun F H s fh => toft (fh _ _ (s _ _ h1)), fun i F H v H' d s fh hd y => ?_⟩⟩
    obtain ⟨rfl, hx⟩ := y
    obtain ⟨d', hd', rx⟩ := r1.atV hx
    rw [hd] at hd'
    cases hd'
    exact ⟨F, Gr.refl _ _, fh, rx.mono s⟩⟩
theorem i_str {tg : Expr} {u : List Nat} (h : Ok X B e Γ (.tx u)) : OkI X B tg e Γ (u.map fun c => .tx [c]) := PI.weak (pi_str h) fun σ H R ⟨F, w, k⟩ => ⟨F, w, fun v F1 H1 w1 g1 r1 => by
  cases r1
  have eu : (S u).cps.size = u.length := by rw [← Array.length_toList, cpsS]
  refine ⟨S u, rfl, k _ F1 H1 w1 g1 ⟨_, _, by rw [List.length_map, ← eu]; exact walk_str (z := S u), fun F H s fh => True.intro, fun i F H v H' d s fh hd y => ?_⟩⟩
  obtain ⟨rfl, c, hc, rfl⟩ := y
  have hc' : u[i]? = some c := by
    rw [← Array.getElem?_toList, cpsS] at hc
    exact hc
  rw [List.getElem?_map, hc'] at hd
  cases hd
  exact ⟨F, Gr.refl _ _, fh, .str _⟩⟩
theorem i_range1 {tg : Expr} {n : Nat} {i : Int} (ho : ∀ {t : TA}, PA X es t → PI X tg e (iRng1 t)) (h : OkA X B es Γ [.int i]) (hn : i.toNat = n) (l : -(2 ^ 62) ≤ i ∧ i < 2 ^ 62) : OkI X B tg e Γ ((List.range n).map fun k : Nat => .int (k : Int)) := PI.weak (ho h) fun σ H R ⟨F, w, k⟩ => ⟨F, w, fun vs F1 H1 w1 g1 r1 => by
  cases r1 with
  | cons r1 r2 =>
    cases r2
    cases r1
    refine ⟨i, rfl, l.1, l.2, k _ F1 H1 w1 g1 ⟨_, _, by rw [List.length_map, List.length_range, hn]; exact walk_range (lo := 0) (n := n), fun F H s fh => True.intro, fun j F H v H' d s fh hd y => ?_⟩⟩
    obtain ⟨rfl, rfl⟩ := y
    rw [List.getElem?_map] at hd
    cases e : (List.range n)[j]? with
    | none => rw [e] at hd; cases hd
    | some m =>
      rw [e] at hd
      cases hd
      have em : m = j := by
        obtain ⟨h1, h2⟩ := List.getElem?_eq_some_iff.mp e
        rw [List.getElem_range] at h2
        exact h2.symm
      subst em
      refine ⟨F, Gr.refl _ _, fh, ?_⟩
      show Rep X.K F (.int (0 + (m : Int))) (.int (m : Int))
      rw [Int.zero_add]
      exact .int _⟩
theorem i_range2 {tg : Expr} {n : Nat} {i j : Int} (ho : ∀ {t : TA}, PA X es t → PI X tg e (iRng2 t)) (h : OkA X B es Γ [.int i, .int j]) (hn : (j - i).toNat = n) (l : -(2 ^ 62) ≤ i ∧ i < 2 ^ 62 ∧ -(2 ^ 62) ≤ j ∧ j < 2 ^ 62) : OkI X B tg e Γ ((List.range n).map fun k : Nat => .int (i + (k : Int))) := PI.weak (ho h) fun σ H R ⟨F, w, k⟩ => ⟨F, w, fun vs F1 H1 w1 g1 r1 => by
  cases r1 with
  | cons r1 r2 =>
    cases r2 with
    | cons r2 r3 =>
      cases r3
      cases r1
      cases r2
      refine ⟨i, j, rfl, l, k _ F1 H1 w1 g1 ⟨_, _, by rw [List.length_map, List.length_range, hn]; exact walk_range (lo := i) (n := n), fun F H s fh => True.intro, fun j F H v H' d s fh hd y => ?_⟩⟩
      obtain ⟨rfl, rfl⟩ := y
      rw [List.getElem?_map] at hd
      cases e : (List.range n)[j]? with
      | none => rw [e] at hd; cases hd
      | some m =>
        rw [e] at hd
        cases hd
        have em : m = j := by
          obtain ⟨h1, h2⟩ := List.getElem?_eq_some_iff.mp e
          rw [List.getElem_range] at h2
          exact h2.symm
        subst em
        exact ⟨F, Gr.refl _ _, fh, .int _⟩⟩
/-! for over a list -/
theorem Wd.up {K : PySem.W.Frag} {F F1 H H1 : Hp} {σ σ1 : L2.St} (w : Wd K (F1, B.2) F H σ Γ) (w1 : Wd K B F1 H1 σ1 Γ1) : Wd K B F H σ Γ := ⟨w1.ff.trans w.ff, w.hh, w.fh, fun a o h1 h2 => w.ex a o h1 (w1.ex a o h1 h2), w.len, w.sl, w.dj⟩
theorem Wd.dn {K : PySem.W.Frag} {F H : Hp} {σ : L2.St} (w : Wd K B F H σ Γ) : Wd K (F, B.2) F H σ Γ := ⟨Same.refl _, w.hh, w.fh, fun _ _ _ h => h, w.len, w.sl, w.dj⟩
theorem Wb.up {K : PySem.W.Frag} {F F1 H H1 : Hp} {σ1 : L2.St} (w : Wb (F1, B.2) F H) (w1 : Wd K B F1 H1 σ1 Γ1) : Wb B F H := ⟨w1.ff.trans w.ff, w.hh, w.fh, fun a o h1 h2 => w.ex a o h1 (w1.ex a o h1 h2)⟩
def runF {α S : Type} (f : S → α → Sum D S) : S → List α → Sum D S
  | s, [] => .inr s
  | s, k :: ks => match f s k with
    | .inl d => .inl d
    | .inr s' => runF f s' ks
theorem runF_snoc {α S : Type} {f : S → α → Sum D S} {k : α} : ∀ {ks : List α} {s s' : S}, runF f s ks = .inr s' → runF f s (ks ++ [k]) = f s' k
  | [], s, s', h => by
    cases h
    show (match f s k with | .inl d => Sum.inl d | .inr s' => runF f s' []) = f s k
    cases f s k <;> rfl
  | a :: ks, s, s', h => by
    show (match f s a with | .inl d => Sum.inl d | .inr s' => runF f s' (ks ++ [k])) = f s' k
    have h : (match f s a with | .inl d => Sum.inl d | .inr s' => runF f s' ks) = .inr s' := h
    cases e : f s a with
    | inl d => rw [e] at h; cases h
    | inr t =>
      rw [e] at h
      exact runF_snoc h
theorem runF_stop {α S : Type} {f : S → α → Sum D S} {d : D} : ∀ {ks ls : List α} {s : S}, runF f s ks = .inl d → runF f s (ks ++ ls) = .inl d
  | [], _, _, h => by cases h
  | a :: ks, ls, s, h => by
    show (match f s a with | .inl d => Sum.inl d | .inr s' => runF f s' (ks ++ ls)) = .inl d
    have h : (match f s a with | .inl d => Sum.inl d | .inr s' => runF f s' ks) = .inl d := h
    cases e : f s a with
    | inl d' => rw [e] at h; exact h
    | inr t => rw [e] at h; exact runF_stop h
def outOf {S : Type} (env : S → Env) : Sum D S → Out
  | .inl d => .rt d
  | .inr s => .nx (env s)
theorem s_forR {α S : Type} {g : TG} {vs : List Nat} {body : List Stmt} {tg : Expr} (env : S → Env) (f : S → α → Sum D S) (ks : List α) (enc : α → D) (s0 : S) (bound : S → α → Env)
    (ho : ∀ {wi : TI} {tb : TS}, PI X tg e wi → PSs X body tb → PS X s (tFor wi g tb)) (hi : OkI X B tg e (env s0) (ks.map enc))
    (hg : ∀ (B : Hp × Hp) s k, k ∈ ks → BindG X.K B vs g (env s) (enc k) (bound s k)) (hb : ∀ (B : Hp × Hp) i k s, ks[i]? = some k → runF f s0 (ks.take i) = .inr s → OkSs X B body (bound s k) (outOf env (f s k))) :
    OkS X B s (env s0) (outOf env (runF f s0 ks)) := by
  have hall : PSs X body (fun D σ H => ∃ B : Hp × Hp, ∃ i : Nat, ∃ k : α, ∃ s : S, ∃ h : ks[i]? = some k ∧ runF f s0 (ks.take i) = .inr s, tSt X.K B (bound s k) (outOf env (f s k)) D σ H) :=
    PSs.exi fun B => PSs.exi fun i => PSs.exi fun k => PSs.exi fun s => PSs.exi fun h => hb B i k s h.1 h.2
  refine PS.weak (ho hi hall) fun D σ H ⟨F, w, k⟩ => ⟨F, w, fun J F1 H1 w1 g1 ⟨G, Y, wk, hG, hY⟩ => ?_⟩
  rw [List.length_map] at wk
  refine for_it wk (g := g) (tb := fun D σ H => ∃ B : Hp × Hp, ∃ i : Nat, ∃ k : α, ∃ s : S, ∃ h : ks[i]? = some k ∧ runF f s0 (ks.take i) = .inr s, tSt X.K B (bound s k) (outOf env (f s k)) D σ H) (D := D) (fun i σ H => ∃ F s, Wd X.K (F1, B.2) F H σ (env s) ∧ runF f s0 (ks.take i) = .inr s ∧ i ≤ ks.length) ⟨F1, s0, w1.dn, by rw [List.take_zero]; rfl, Nat.zero_le _⟩ (fun i σ H _ ⟨F, s, w, _⟩ => hG F H w.ff w.fh) ?_ ?_
  · rintro i x σ H H' hi ⟨F2, s, w2, hr, hl⟩ hy
    obtain ⟨k0, hk⟩ : ∃ k0, ks[i]? = some k0 := ⟨ks[i], List.getElem?_eq_getElem hi⟩
    obtain ⟨F3, g3, fh3, rx⟩ := hY i F2 H x H' (enc k0) w2.ff w2.fh (by rw [List.getElem?_map, hk]; rfl) hy
    have w3 := w2.gr g3 fh3
    have tk : ks.take (i + 1) = ks.take i ++ [k0] := by rw [List.take_add_one, hk]; rfl
    refine hg (F1, B.2) s k0 (List.mem_of_getElem? hk) σ F3 H' x w3 rx _ fun σ3 w4 _ => ⟨(F1, B.2), i, k0, s, ⟨hk, hr⟩, F3, w4, ?_⟩
    have e2 := runF_snoc (k := k0) hr
    rw [← tk] at e2
    cases e : f s k0 with
    | inl d =>
      rw [e] at e2
      have e3 : runF f s0 ks = .inl d := by
        have := runF_stop (ls := ks.drop (i + 1)) e2
        rwa [List.take_append_drop] at this
      rw [e3] at k
      intro v F' H' wb r
      exact k v F' H' (wb.up w1) r
    | inr s' =>
      rw [e] at e2
      intro σ' F' H' w'
      exact ⟨F', s', w', e2, hi⟩
  · rintro σ H ⟨F2, s, w2, hr, hl⟩
    rw [List.take_of_length_le (Nat.le_refl _)] at hr
    rw [hr] at k
    exact k σ F2 H (w2.up w1)
theorem runF_fold {α S : Type} {step : S → α → S} : ∀ {ks : List α} {s : S}, runF (fun s k => .inr (step s k)) s ks = .inr (ks.foldl step s)
  | [], _ => rfl
  | k :: ks, s => runF_fold (ks := ks) (s := step s k)
theorem s_for {α S : Type} {g : TG} {vs : List Nat} {body : List Stmt} {tg : Expr} (env : S → Env) (step : S → α → S) (ks : List α) (enc : α → D) (s0 : S) (bound : S → α → Env)
    (ho : ∀ {wi : TI} {tb : TS}, PI X tg e wi → PSs X body tb → PS X s (tFor wi g tb)) (hi : OkI X B tg e (env s0) (ks.map enc))
    (hg : ∀ (B : Hp × Hp) s k, k ∈ ks → BindG X.K B vs g (env s) (enc k) (bound s k)) (hb : ∀ (B : Hp × Hp) i k s, ks[i]? = some k → s = (ks.take i).foldl step s0 → OkSs X B body (bound s k) (.nx (env (step s k)))) :
    OkS X B s (env s0) (.nx (env (ks.foldl step s0))) := by
  have h := s_forR (vs := vs) env (fun s k => .inr (step s k)) ks enc s0 bound ho hi hg fun B i k s h1 h2 => hb B i k s h1 (by rw [runF_fold] at h2; exact (Sum.inr.inj h2).symm)
  rw [runF_fold] at h
  exact h
theorem runF_any {α : Type} {c : α → Bool} {d : D} : ∀ {ks : List α}, runF (fun (s : Unit) k => bif c k then .inl d else .inr s) () ks = bif ks.any c then .inl d else .inr ()
  | [] => rfl
  | k :: ks => by
    rw [List.any_cons]
    have ih := runF_any (c := c) (d := d) (ks := ks)
    cases h : c k with
    | true => simp only [runF, h, cond_true, Bool.true_or]
    | false =>
      simp only [runF, h, cond_false, Bool.false_or]
      exact ih
/-- for ..: if c: return d; then the rest -/
theorem s_forAny {α : Type} {g : TG} {vs : List Nat} {body : List Stmt} {tg : Expr} (c : α → Bool) (ks : List α) (enc : α → D) (bound : α → Env)
    (ho : ∀ {wi : TI} {tb : TS}, PI X tg e wi → PSs X body tb → PS X s (tFor wi g tb)) (hi : OkI X B tg e Γ (ks.map enc))
    (hg : ∀ (B : Hp × Hp) k, k ∈ ks → BindG X.K B vs g Γ (enc k) (bound k)) (hb : ∀ (B : Hp × Hp) k, k ∈ ks → OkSs X B body (bound k) (bif c k then .rt d else .nx Γ))
    (hr : ks.any c = false → OkSs X B r Γ ou) : OkSs X B (s :: r) Γ (bif ks.any c then .rt d else ou) := by
  have h := s_forR (S := Unit) (vs := vs) (fun _ => Γ) (fun s k => bif c k then .inl d else .inr s) ks enc () (fun _ k => bound k) ho hi (fun B _ k m => hg B k m) fun B i k s h1 h2 => by
    have q := hb B k (List.mem_of_getElem? h1)
    cases e : c k with
    | true => rw [e] at q; exact q
    | false => rw [e] at q; exact q
  rw [runF_any] at h
  cases e : ks.any c with
  | true =>
    rw [e] at h
    exact PSs.weak (pss_cons h (PSs.when (p := False) (t := fun _ _ _ => False) fun z => z.elim)) fun D σ H ⟨F, w, k⟩ => ⟨F, w, k⟩
  | false =>
    rw [e] at h
    exact s_cons h (hr e)
/-! comprehensions over a list -/
theorem le_of_bind {K : PySem.W.Frag} {F H : Hp} {σ : L2.St} (vs : List Nat) (w : Wd K B F H σ Γ) (hG : Γ' = vs.foldr (fun i Γ => Γ.set i .no) Γ) : Wd K B F H (wipe σ vs) Γ' := by
  subst hG
  induction vs with
  | nil => exact w
  | cons v vs ih =>
    unfold wipe
    rw [List.foldr_cons]
    generalize wipe σ vs = σ1 at ih
    generalize vs.foldr (fun i Γ => Γ.set i .no) Γ = Γ1 at ih
    refine ⟨ih.ff, ih.hh, ih.fh, ih.ex, by rw [List.length_set, List.length_set, ih.len], fun j o s h1 h2 => ?_, fun j k p xs ys ne h1 h2 h3 h4 => ?_⟩
    · rw [List.getElem?_set] at h1 h2
      by_cases e : v = j
      · rw [if_pos e] at h2
        split at h2
        · cases h2
          trivial
        · cases h2
      · rw [if_neg e] at h1 h2
        exact ih.sl j o s h1 h2
    · rw [List.getElem?_set] at h1 h2 h3 h4
      have nj : v ≠ j := fun e => by
        rw [if_pos e] at h3
        split at h3 <;> cases h3
      have nk : v ≠ k := fun e => by
        rw [if_pos e] at h4
        split at h4 <;> cases h4
      rw [if_neg nj] at h1 h3
      rw [if_neg nk] at h2 h4
      exact ih.dj j k p xs ys ne h1 h2 h3 h4
abbrev wiped (Γ : Env) (vs : List Nat) : Env := vs.foldr (fun i Γ => Γ.set i .no) Γ
def tEl (K : PySem.W.Frag) {α : Type} (ks : List α) (bound : α → Env) (f : α → D) : TE := fun σ H Q => ∃ B : Hp × Hp, ∃ k : α, ∃ m : k ∈ ks, tEv K B (bound k) (f k) σ H Q
def tElT (K : PySem.W.Frag) {α : Type} (ks : List α) (bound : α → Env) (p : α → Bool) : TT := fun σ H Q => ∃ B : Hp × Hp, ∃ k : α, ∃ m : k ∈ ks, tEvT K B (bound k) (p k) σ H Q
theorem pe_el {α : Type} {ks : List α} {bound : α → Env} {f : α → D} (h : ∀ (B : Hp × Hp) k, k ∈ ks → Ok X B e (bound k) (f k)) : PE X e (tEl X.K ks bound f) := PE.exi fun B => PE.exi fun k => PE.exi fun m => h B k m
theorem pt_el {α : Type} {ks : List α} {bound : α → Env} {f : α → Bool} (h : ∀ (B : Hp × Hp) k, k ∈ ks → OkT X B e (bound k) (f k)) : PT X e (tElT X.K ks bound f) := PT.exi fun B => PT.exi fun k => PT.exi fun m => h B k m
theorem wipe_wipe (vs : List Nat) (σ : L2.St) : wipe (wipe σ vs) vs = wipe σ vs := by
  have key : ∀ (us vs : List Nat) (σ : L2.St), (∀ u ∈ us, u ∈ vs) → wipe (wipe σ us) vs = wipe σ vs := fun us => by
    induction us with
    | nil => intro vs σ _; rfl
    | cons u us ih =>
      intro vs σ h
      rw [show wipe σ (u :: us) = (wipe σ us).set u none from rfl, wipe_set (h u List.mem_cons_self)]
      exact ih vs σ fun y m => h y (List.mem_cons_of_mem _ m)
  exact key vs vs σ fun _ m => m
theorem lc_read {K : PySem.W.Frag} {α : Type} {g : TG} {vs : List Nat} {tt : TT} (ks : List α) (enc : α → D) (bound : α → Env) (p : α → Bool) (f : α → D)
    (ht : ∀ (B : Hp × Hp) k σ H Q, k ∈ ks → tEvT K B (bound k) (p k) σ H Q → tt σ H Q)
    (hg : ∀ (B : Hp × Hp) k, k ∈ ks → BindG K B vs g (wiped Γ vs) (enc k) (bound k)) (few : ks.length ≤ 90000) : ∀ σ H Q, tEv K B Γ (.lst ((ks.filter p).map f)) σ H Q → tLc (tIt K B Γ (ks.map enc)) g tt (tEl K (ks.filter p) bound f) vs σ H Q := by
  intro σ H Q ⟨F, w, k⟩
  refine ⟨F, w, fun J F1 H1 w1 g1 ⟨G, Y, wk, hG, hY⟩ Dd nD => ?_⟩
  rw [List.length_map] at wk
  refine lc_it wk (fun i G => ∃ F2 acc, Wd K B F2 G σ Γ ∧ Gr F1 H1 F2 G ∧ F2 Dd = none ∧ G Dd = some (.lst acc) ∧ Reps K F2 acc (((ks.take i).filter p).map f) ∧ i ≤ ks.length) ⟨F1, [], ?_, ⟨Same.refl _, sup nD, fun _ _ _ e => e⟩, w1.fh.free nD, upd_same, by rw [List.take_zero]; exact .nil, Nat.zero_le _⟩ (fun i G _ ⟨F2, acc, w2, g2, _⟩ => hG F2 G g2.f w2.fh) ?_ ?_
  · exact w1.gr ⟨Same.refl _, sup nD, fun _ _ _ e => e⟩ (w1.fh.trans (sup nD))
  · rintro i x G G' hi ⟨F2, acc, w2, g2, nF, hD, rD, hl⟩ hy
    obtain ⟨k0, hk⟩ : ∃ k0, ks[i]? = some k0 := ⟨ks[i], List.getElem?_eq_getElem hi⟩
    obtain ⟨F3, g3, fh3, rx⟩ := hY i F2 G x G' (enc k0) g2.f w2.fh (by rw [List.getElem?_map, hk]; rfl) hy
    have mk := List.mem_of_getElem? hk
    have tk : ks.take (i + 1) = ks.take i ++ [k0] := by rw [List.take_add_one, hk]; rfl
    refine hg B k0 mk (wipe σ vs) F3 G' x (le_of_bind vs (w2.gr g3 fh3) rfl) rx _ fun σ3 w3 e3 => ⟨by rw [e3, wipe_wipe], ht B k0 σ3 G' _ mk ⟨F3, w3, fun F4 G4 w4 g4' => ?_⟩⟩
    have g4 := g3.trans g4'
    have wG : Wd K B F4 G4 σ Γ := w2.gr g4 w4.fh
    cases ep : p k0 with
    | true =>
      refine iteT ⟨B, k0, List.mem_filter.mpr ⟨mk, ep⟩, F4, w4, fun y F5 G5 w5 g5 r5 => ?_⟩
      have g45 := g4.trans g5
      have hD5 := g45.h _ _ hD
      have nF5 := g45.x _ _ hD nF
      refine ⟨acc, hD5, ?_, F5, acc ++ [y], ?_, ?_, nF5, upd_same, ?_, hi⟩
      · rw [rD.length, List.length_map]
        refine sz5' ?_
        have := List.length_filter_le p (ks.take i)
        rw [List.length_take] at this
        omega
      · have w5' := w2.gr g45 w5.fh
        refine ⟨w5'.ff, ?_, ?_, w5'.ex, w5'.len, fun j o s q1 q2 => ?_, w5'.dj⟩
        · intro b o q
          have hb1 := w1.hh _ _ q
          rw [upd_ne (ne_of_none hb1 nD)]
          exact w5'.hh _ _ q
        · intro b o q
          rw [upd_ne (fun y => by rw [y, nF5] at q; cases q)]
          exact w5'.fh _ _ q
        · have q := w5'.sl j o s q1 q2
          cases s with
          | no => trivial
          | d x => exact q
          | own xs =>
            obtain ⟨p1, vs1, e1, a1, a2, a3, a4⟩ := q
            have q1' := w1.sl j o (.own xs) q1 q2
            obtain ⟨p2, vs2, e2, b1, b2, b3, b4⟩ := q1'
            rw [e1] at e2
            cases e2
            exact ⟨p1, vs1, e1, a1, a2, by rw [upd_ne (ne_of_none b3 nD)]; exact a3, a4⟩
      · have gg := g2.trans g45
        refine ⟨gg.f, fun b o q => ?_, gg.x⟩
        rw [upd_ne (ne_of_none q nD)]
        exact gg.h _ _ q
      · rw [tk, List.filter_append, List.map_append]
        have e1 : [k0].filter p = [k0] := by rw [List.filter_cons, ep]; rfl
        rw [e1]
        exact (rD.mono g45.f).append (.cons r5 .nil)
    | false =>
      refine iteF ⟨F4, acc, wG, g2.trans g4, g4.x _ _ hD nF, g4.h _ _ hD, ?_, hi⟩
      rw [tk, List.filter_append]
      have e1 : [k0].filter p = [] := by rw [List.filter_cons, ep]; rfl
      rw [e1, List.append_nil]
      exact rD.mono g4.f
  · rintro G ⟨F2, acc, w2, g2, nF, hD, rD, hl⟩
    rw [List.take_of_length_le (Nat.le_refl _)] at rD
    have sF := sup (o := .lst acc) nF
    have gf : Gr F1 H1 (upd F2 Dd (.lst acc)) G := ⟨g2.f.trans sF, g2.h, fun b o q n => by rw [upd_ne (ne_of_none q nD)]; exact g2.x b o q n⟩
    refine k _ _ _ (w1.gr gf fun b o q => ?_) (g1.trans gf) (.lst upd_same (rD.mono sF))
    by_cases y : b = Dd
    · subst y
      rw [upd_same] at q
      rw [← q]
      exact hD
    · rw [upd_ne y] at q
      exact w2.fh _ _ q
theorem t_lcIf {α : Type} {g : TG} {vs : List Nat} {tt : TT} {it tg : Expr} (ks : List α) (enc : α → D) (bound : α → Env) (p : α → Bool) (f : α → D)
    (ho : ∀ {wi : TI}, PI X tg it wi → PE X e (tLc wi g tt (tEl X.K (ks.filter p) bound f) vs)) (hi : OkI X B tg it Γ (ks.map enc))
    (ht : ∀ (B : Hp × Hp) k σ H Q, k ∈ ks → tEvT X.K B (bound k) (p k) σ H Q → tt σ H Q)
    (hg : ∀ (B : Hp × Hp) k, k ∈ ks → BindG X.K B vs g (wiped Γ vs) (enc k) (bound k)) (few : ks.length ≤ 90000) : Ok X B e Γ (.lst ((ks.filter p).map f)) := PE.weak (ho hi) (lc_read ks enc bound p f ht hg few)
theorem filter_all {α : Type} : ∀ ks : List α, ks.filter (fun _ => true) = ks
  | [] => rfl
  | k :: ks => by rw [List.filter_cons, if_pos rfl, filter_all ks]
theorem t_lc {α : Type} {g : TG} {vs : List Nat} {it tg : Expr} (ks : List α) (enc : α → D) (bound : α → Env) (f : α → D)
    (ho : ∀ {wi : TI}, PI X tg it wi → PE X e (tLc wi g tYes (tEl X.K ks bound f) vs)) (hi : OkI X B tg it Γ (ks.map enc))
    (hg : ∀ (B : Hp × Hp) k, k ∈ ks → BindG X.K B vs g (wiped Γ vs) (enc k) (bound k)) (few : ks.length ≤ 90000) : Ok X B e Γ (.lst (ks.map f)) := by
  have h := t_lcIf (tt := tYes) (Γ := Γ) ks enc bound (fun _ => true) f (by rw [filter_all]; exact ho) hi (fun B k σ H Q _ ⟨F, w, q⟩ => q F H w (Gr.refl _ _)) hg few
  rw [filter_all] at h
  exact h
/-- name = [..] -/
theorem s_setLc {α : Type} {g : TG} {vs : List Nat} {it tg : Expr} (ks : List α) (enc : α → D) (bound : α → Env) (f : α → D)
    (ho : ∀ {wi : TI}, PI X tg it wi → PS X s (tAsg (tLc wi g tYes (tEl X.K ks bound f) vs) (gName i))) (hi : OkI X B tg it Γ (ks.map enc))
    (hg : ∀ (B : Hp × Hp) k, k ∈ ks → BindG X.K B vs g (wiped Γ vs) (enc k) (bound k)) (few : ks.length ≤ 90000) : OkS X B s Γ (.nx (Γ.set i (.d (.lst (ks.map f))))) :=
  PS.weak (ho hi) fun D σ H ⟨F, w, k⟩ => by
    have h := lc_read (K := X.K) (B := B) (Γ := Γ) (g := g) (vs := vs) (tt := tYes) ks enc bound (fun _ => true) f (fun B k σ H Q _ ⟨F, w, q⟩ => q F H w (Gr.refl _ _)) hg few σ H (fun x H1 => gName i x σ H1 D.nx)
    rw [filter_all] at h
    exact h ⟨F, w, fun v F' H' w' g r => k _ F' H' (w'.set r)⟩
/-! a def -/
theorem wd_start {K : PySem.W.Frag} {F H : Hp} {vs : List V} {ds : List D} {N : List Str} (fh : Same F H) (r : Reps K F vs ds) (l : vs.length ≤ N.length) : Wd K (F, H) F H (L2.start N vs) (ds.map Sl.d ++ List.replicate (N.length - ds.length) .no) := by
  refine ⟨Same.refl _, Same.refl _, fh, fun _ _ _ h => h, by unfold L2.start; rw [List.length_append, List.length_append, List.length_map, List.length_map, List.length_replicate, List.length_replicate, r.length], fun j o s h1 h2 => ?_, fun j k p xs ys ne h1 h2 h3 h4 => ?_⟩
  · unfold L2.start at h1
    by_cases lj : j < ds.length
    · rw [List.getElem?_append_left (by rw [List.length_map]; exact lj), List.getElem?_map] at h2
      rw [List.getElem?_append_left (by rw [List.length_map, r.length]; exact lj), List.getElem?_map] at h1
      cases e : ds[j]? with
      | none => rw [e] at h2; cases h2
      | some d =>
        rw [e] at h2
        cases h2
        obtain ⟨v, ev, rv⟩ := r.at e
        rw [ev] at h1
        cases h1
        exact ⟨v, rfl, rv⟩
    · rw [List.getElem?_append_right (by rw [List.length_map]; omega), List.getElem?_replicate] at h2
      split at h2
      · cases h2
        trivial
      · cases h2
  · by_cases lj : j < ds.length
    · rw [List.getElem?_append_left (by rw [List.length_map]; exact lj), List.getElem?_map] at h3
      cases e : ds[j]? with
      | none => rw [e] at h3; cases h3
      | some d => rw [e] at h3; cases h3
    · rw [List.getElem?_append_right (by rw [List.length_map]; omega), List.getElem?_replicate] at h3
      split at h3 <;> cases h3
theorem tree_wish {K : PySem.W.Frag} {N : List Str} {ds : List D} {d : D} {vs : List V} {H : Hp} {Q : VK} {E : XK} (h : spT K ds d vs H Q E) (l : ds.length ≤ N.length) : ∃ B : Hp × Hp, tSt K B (ds.map Sl.d ++ List.replicate (N.length - ds.length) .no) (.rt d) { nx := fun _ H' => Q .non H', rt := Q } (L2.start N vs) H := by
  obtain ⟨F, fh, r, k⟩ := h
  exact ⟨(F, H), F, wd_start fh r (by rw [r.length]; exact l), fun v F' H' w rv => k v F' H' ⟨w.ff, w.hh, w.ex⟩ w.fh rv⟩
end
end Tr
namespace Pm
open PySem L2
/-! ### the text by places -/
def top (i : Nat) : Stmt := PySem.Challenge.pw_smalti_k16_book_refused.main.body.getD i (.Pass ⟨0, 0, 0, 0⟩)
abbrev gWall : Stmt := top 0
abbrev cInvalidPictureInit : Stmt := inClass (top 3) 0
abbrev cInvalidRuleInit : Stmt := inClass (top 4) 0
abbrev cInvalidBookInit : Stmt := inClass (top 5) 0
abbrev cOutOfPictureInit : Stmt := inClass (top 6) 0
abbrev cNoRuleInit : Stmt := inClass (top 7) 0
abbrev cWrongStoneInit : Stmt := inClass (top 8) 0
abbrev gDecimal : Stmt := top 13
abbrev cRegionInit : Stmt := inClass (top 14) 0
abbrev cRegionOf : Stmt := inClass (top 14) 1
abbrev cRegionCells : Stmt := inClass (top 14) 2
abbrev cRegionWithin : Stmt := inClass (top 14) 3
abbrev cRegionOr : Stmt := inClass (top 14) 4
abbrev cRegionAnd : Stmt := inClass (top 14) 5
abbrev cRegionSub : Stmt := inClass (top 14) 6
abbrev cRegionXor : Stmt := inClass (top 14) 7
abbrev cRegionEq : Stmt := inClass (top 14) 8
abbrev cRegionContains : Stmt := inClass (top 14) 9
abbrev cRegionLen : Stmt := inClass (top 14) 10
abbrev cRegionBool : Stmt := inClass (top 14) 11
abbrev cRegionStr : Stmt := inClass (top 14) 12
abbrev gIsStone : Stmt := top 18
abbrev gIsStoneOrHole : Stmt := top 19
abbrev gAreDifferentSigns : Stmt := top 20
abbrev gInAsciiOrder : Stmt := top 21
abbrev gIsBadRow : Stmt := top 22
abbrev gBadLine : Stmt := top 23
abbrev cPictureInit : Stmt := inClass (top 24) 2
abbrev cPictureRead : Stmt := inClass (top 24) 3
abbrev cPicturePlain : Stmt := inClass (top 24) 4
abbrev cPictureLines : Stmt := inClass (top 24) 5
abbrev cPictureEveryCell : Stmt := inClass (top 24) 6
abbrev cPictureStones : Stmt := inClass (top 24) 7
abbrev cPictureHoles : Stmt := inClass (top 24) 8
abbrev cPictureContains : Stmt := inClass (top 24) 9
abbrev cPictureWithSign : Stmt := inClass (top 24) 10
abbrev cPictureGetitem : Stmt := inClass (top 24) 11
abbrev cPictureIter : Stmt := inClass (top 24) 12
abbrev cPictureLen : Stmt := inClass (top 24) 13
abbrev cPictureEq : Stmt := inClass (top 24) 14
abbrev cPictureSub : Stmt := inClass (top 24) 15
abbrev cPictureStr : Stmt := inClass (top 24) 16
abbrev gCheckCell : Stmt := top 25
abbrev gIsPlace : Stmt := top 32
abbrev gCheckConditions : Stmt := top 33
abbrev gCheckNeed : Stmt := top 34
abbrev gInOrder : Stmt := top 35
abbrev gClashesAt : Stmt := top 36
abbrev cRuleInit : Stmt := inClass (top 37) 1
abbrev cRuleSlack : Stmt := inClass (top 37) 2
abbrev cRuleLays : Stmt := inClass (top 37) 3
abbrev cRuleConditions : Stmt := inClass (top 37) 4
abbrev cRuleClashes : Stmt := inClass (top 37) 5
abbrev cRuleFits : Stmt := inClass (top 37) 6
abbrev cRuleWritten : Stmt := inClass (top 37) 7
abbrev cRuleConditionWords : Stmt := inClass (top 37) 8
abbrev cRuleLen : Stmt := inClass (top 37) 9
abbrev cCountRuleInit : Stmt := inClass (top 38) 1
abbrev cCountRuleSlack : Stmt := inClass (top 38) 2
abbrev cCountRuleWritten : Stmt := inClass (top 38) 3
abbrev cSameRuleInit : Stmt := inClass (top 39) 1
abbrev cSameRuleLays : Stmt := inClass (top 39) 2
abbrev cSameRuleConditions : Stmt := inClass (top 39) 3
abbrev cSameRuleWritten : Stmt := inClass (top 39) 4
abbrev gIsDigit : Stmt := top 40
abbrev gIsNumber : Stmt := top 41
abbrev gReadPlace : Stmt := top 42
abbrev gReadCondition : Stmt := top 43
abbrev gReadRule : Stmt := top 44
abbrev gReadLine : Stmt := top 47
abbrev cBookInit : Stmt := inClass (top 48) 0
abbrev cBookRead : Stmt := inClass (top 48) 1
abbrev cBookText : Stmt := inClass (top 48) 2
abbrev cBookRule : Stmt := inClass (top 48) 3
abbrev cBookFitting : Stmt := inClass (top 48) 4
abbrev cBookLen : Stmt := inClass (top 48) 5
abbrev cBookAdd : Stmt := inClass (top 48) 6
abbrev lBag : Stmt := top 50
abbrev lTake : Stmt := top 51
abbrev lIsInt : Stmt := top 52
abbrev lPalette : Stmt := top 53
abbrev lOffset : Stmt := top 54
abbrev lSigns : Stmt := top 55
abbrev lParts : Stmt := top 56
abbrev lRule : Stmt := top 57
abbrev lRules : Stmt := top 58
abbrev lSortedParts : Stmt := top 59
abbrev lWritten : Stmt := top 60
abbrev lIsLetter : Stmt := top 61
abbrev lMade : Stmt := top 62
abbrev lBadPart : Stmt := top 63
abbrev lFault : Stmt := top 64
abbrev lNumber : Stmt := top 65
abbrev lWordPart : Stmt := top 66
abbrev lLineFault : Stmt := top 67
abbrev lLineOf : Stmt := top 68
abbrev lDue : Stmt := top 69
abbrev lMadeOf : Stmt := top 70
abbrev lLaw : Stmt := top 71
end Pm
namespace Pm
open PySem PySem.Spec PyProof.Rows L2
/-- all that stood stands, but r -/
def SameBut (r : Addr) (H H' : Hp) : Prop := ∀ b o, b ≠ r → H b = some o → H' b = some o
theorem tyes {σ : L2.St} {G : Hp} {R : Bool → Hp → Prop} (h : R true G) : tYes σ G R := h
theorem same_upd {H : Hp} {p : Addr} {o : HO} (h : H p = none) : Same H (upd H p o) := fun b x e => by
  rw [upd_ne (ne_of_none e h)]
  exact e
theorem back {H H' : Hp} (s : Same H H') {t : Addr} (h : H' t = none) : H t = none := by
  cases z : H t with
  | none => rfl
  | some o =>
    rw [s _ _ z] at h
    cases h
theorem but_back {b : Addr} {H H' : Hp} {xs : List V} (hb : H b = some (.lst xs)) (s : SameBut b H H') {t : Addr} (ne : t ≠ b) (h : H' t = none) : H t = none := by
  cases z : H t with
  | none => rfl
  | some o =>
    rw [s _ _ ne z] at h
    cases h
theorem cut_to (xs : List V) (n : Nat) : cutV xs none (some (n : Int)) = xs.take n := by
  unfold cutV
  rw [HT.sIx_none, HT.sIx_nat, List.drop_zero, Nat.sub_zero]
  rcases Nat.le_total n xs.length with h | h
  · rw [Nat.min_eq_left h]
  · rw [Nat.min_eq_right h, List.take_of_length_le (Nat.le_refl _), List.take_of_length_le h]
theorem iteFe {b : Bool} {p q : Prop} (h : b = false) (z : q) : if b = true then p else q := by
  subst h
  exact iteF z
theorem iteTe {b : Bool} {p q : Prop} (h : b = true) (z : p) : if b = true then p else q := by
  subst h
  exact iteT z
/-- the built-ins by their names -/
structure LTxt (K : PySem.W.Frag) (mg : Str → Option Value) : Prop where
  isi : mg "isinstance" = none
  int : mg "int" = none
  lst : mg "list" = none
  len : mg "len" = none
  rng : mg "range" = none
/-- a def that may be called by its name -/
structure Cl (P : Program) (w : World) (K : PySem.W.Frag) (mg : Str → Option Value) (base : Heap) (CX : CXT) (k : Nat) (name : Str) (ps : List Str) (sp : Sp) (f : Addr) (fd : FuncData) : Prop where
  ok : FnOk P w K mg base CX k f fd ps sp
  kp : PySem.W.keepIn K (.ref f) = true
  bd : Binds K fd ps []
  gl : mg name = some (.ref f)
/-! ### the bag of drawn numbers -/
/-- the bag at b: four places; the first a list of ints, the second a place in it or its end, the third at least 0 -/
abbrev BagL (H : Hp) (b l : Addr) : Prop := ∃ (ns : List Int) (i p q : Int),
  H b = some (.lst [.ref l, .int i, .int p, .int q]) ∧ H l = some (.lst (ns.map V.int)) ∧ 0 ≤ i ∧ 0 ≤ p ∧ l ≠ b ∧ ns.length ≤ 63
/-- all but b stands as it stood -/
def But (b : Addr) (H H' : Hp) : Prop := ∀ a, a ≠ b → H' a = H a
theorem But.refl (b : Addr) (H : Hp) : But b H H := fun _ _ => rfl
theorem But.trans {b : Addr} {H H1 H2 : Hp} (x : But b H H1) (y : But b H1 H2) : But b H H2 := fun a h => (y a h).trans (x a h)
theorem But.upd {b : Addr} {H : Hp} {o : HO} : But b H (upd H b o) := fun _ h => upd_ne h
def spTake : Sp := fun vs H Q _ => ∃ (b l : Addr) (size : Int), vs = [.ref b, .int size] ∧ BagL H b l ∧ 0 < size ∧ size < 1073741824 ∧
  ∀ (n : Int) (H' : Hp), 0 ≤ n → n < size → But b H H' → BagL H' b l → Q (.int n) H'
theorem scTake : FnScope ["_law_bag_here", "_law_size", "_law_cell", "_law_digit"] ["_law_bag_here", "_law_size"] (defScope lTake) := ⟨rfl, rfl, rfl, by decide +kernel, rfl, by decide +kernel, by decide +kernel⟩
theorem at4 {a b c d : V} : atI [a, b, c, d] 0 = some a ∧ atI [a, b, c, d] 1 = some b ∧ atI [a, b, c, d] 2 = some c ∧ atI [a, b, c, d] 3 = some d := ⟨rfl, rfl, rfl, rfl⟩
section
variable {P : Program} {w : World} {K : PySem.W.Frag} {mg : Str → Option Value} {base : Heap}
theorem ok_take {f : Addr} {fd : FuncData} (F : Fun K "_law_take" "_law_take" lTake f fd) (mlen : mg "len" = none) (mint : mg "int" = none) : FnOk P w K mg base CX0 1 f fd ["_law_bag_here", "_law_size"] spTake := by
  refine F.ok scTake (fun vs H Q E h => ?_) (fun cdv A outer s H vs Q E hr h => ?_)
  · obtain ⟨b, l, size, rfl, _⟩ := h
    rfl
  · obtain ⟨b, l, size, rfl, ⟨ns, i, p, q, hb, hl, i0, p0, nlb, n63⟩, s0, s1, k⟩ := h
    refine ⟨_, C8.pss_cut (ps_if (PW.pt (pw_and (pt_cmpR op_eq (pe_ix ix_list (pv 0) pe_int (fun _ _ => rfl)) pe_int (nomark _))
          (pw_and1 (pt_cmpR op_lt (pe_ix ix_list (pv 0) pe_int (fun _ _ => rfl)) (pe_callB call_len_seq (by rfl) mlen PySem.boot_len (pa_cons (pe_ix ix_list (pv 0) pe_int (fun _ _ => rfl)) pa_nil)) (nomark _)))))
        (pss_cons (ps_set (i := 2) scTake.nd rfl (.inl rfl) (pe_ix ix_list (pe_ix ix_list (pv 0) pe_int (fun _ _ => rfl)) (pe_ix ix_list (pv 0) pe_int (fun _ _ => rfl)) (fun _ _ => rfl)))
        (pss_cons (ps_asg (pe_op op_add (pe_ix ix_list (pv 0) pe_int (fun _ _ => rfl)) pe_int) (pg_sub (pv 0) pe_int set_list))
        (pss_one (ps_if (pt_cmpR op_ge (pv 2) (pe_op op_pow pe_int pe_int) (nomark _))
          (pss_one (ps_asg (pv 2) (pg_sub (pv 0) pe_int set_list)))
          (pss_one (ps_asg (pe_op op_mod (pe_callTy call_int1 (by rfl) mint (by decide +kernel) (pa_cons (pe_op op_add (pe_op op_add (pe_op op_mul (pe_ix ix_list (pv 0) pe_int (fun _ _ => rfl)) pe_int) (pe_op op_mul (pv 2) pe_int)) pe_int) pa_nil)) pe_int) (pg_sub (pv 0) pe_int set_list)))))))
        pss_nil)
      (pss_cons (ps_if (pt_cmpR op_gt (pe_ix ix_list (pv 0) pe_int (fun _ _ => rfl)) pe_int (nomark _))
        (pss_cons (ps_set (i := 3) scTake.nd rfl (.inl rfl) (pe_op op_mod (pe_callTy call_int1 (by rfl) mint (by decide +kernel) (pa_cons (pe_ix ix_list (pv 0) pe_int (fun _ _ => rfl)) pa_nil)) (pv 1)))
        (pss_cons (ps_asg (pe_op op_fdiv (pe_ix ix_list (pv 0) pe_int (fun _ _ => rfl)) (pv 1)) (pg_sub (pv 0) pe_int set_list))
        (pss_one (ps_ret (pv 3)))))
        pss_nil)
      (pss_cons (ps_asg (pe_op op_mod (pe_callTy call_int1 (by rfl) mint (by decide +kernel) (pa_cons (pe_op op_add (pe_op op_mul (pe_ix ix_list (pv 0) pe_int (fun _ _ => rfl)) pe_int) pe_int) pa_nil)) pe_int) (pg_sub (pv 0) pe_int set_list))
      (pss_one (ps_ret (pe_op op_mod (pe_callTy call_int1 (by rfl) mint (by decide +kernel) (pa_cons (pe_op op_fdiv (pe_ix ix_list (pv 0) pe_int (fun _ _ => rfl)) pe_int) pa_nil)) (pv 1)))))), ?_⟩
    have seven : ∀ q' : Int, (0 : Int) < 2147483647 := fun _ => by decide
    refine ⟨fun σ H1 => ∃ (c : Option V) (i' p' q' : Int), σ = [some (.ref b), some (.int size), c, Option.none] ∧ But b H H1 ∧ H1 b = some (.lst [.ref l, .int i', .int p', .int q']) ∧ 0 ≤ i' ∧ 0 ≤ p', ?_, ?_⟩
    · -- if bag[2] == 0 and bag[1] < len(bag[0])
      refine ⟨_, rfl, b, _, 2, _, rfl, rfl, SqL.of hb, rfl, rfl, _, rfl, ite2 (fun _ => ?_) (fun _ => ⟨_, i, p, q, rfl, But.refl b H, hb, i0, p0⟩)⟩
      refine ⟨_, rfl, b, _, 1, _, rfl, rfl, SqL.of hb, rfl, _, rfl, b, _, 0, _, rfl, rfl, SqL.of hb, rfl, l, _, rfl, .inl (SqL.of hl), _, _, rfl, rfl, _, rfl, ite2 (fun e => ?_) (fun _ => ⟨_, i, p, q, rfl, But.refl b H, hb, i0, p0⟩)⟩
      have elt : i < ((ns.map V.int).length : Int) := of_decide_eq_true e
      rw [List.length_map] at elt
      obtain ⟨j, rfl⟩ : ∃ j : Nat, i = (j : Int) := ⟨i.toNat, by omega⟩
      have hj : j < ns.length := by omega
      have gj : (ns.map V.int)[j]? = some (.int ns[j]) := by
        rw [List.getElem?_map, List.getElem?_eq_getElem hj]
        rfl
      -- cell = bag[0][bag[1]]
      refine ⟨_, rfl, b, _, 0, _, rfl, rfl, SqL.of hb, rfl, _, rfl, b, _, 1, _, rfl, rfl, SqL.of hb, rfl, l, _, (j : Int), _, rfl, rfl, SqL.of hl, atI_nat gj, ?_⟩
      -- bag[1] = bag[1] + 1
      refine ⟨_, rfl, b, _, 1, _, rfl, rfl, SqL.of hb, rfl, _, _, rfl, rfl, _, rfl, b, _, 1, 1, rfl, rfl, hb, rfl, ?_⟩
      have hb1 : (upd H b (.lst [.ref l, .int ((j : Int) + 1), .int p, .int q])) b = some (.lst [.ref l, .int ((j : Int) + 1), .int p, .int q]) := upd_same
      have bu : But b H (upd H b (.lst [.ref l, .int ((j : Int) + 1), .int p, .int q])) := But.upd
      refine ⟨_, rfl, _, _, rfl, rfl, ⟨by decide, by decide, by decide⟩, _, _, rfl, rfl, _, rfl, ite2 (fun e2 => ?_) (fun _ => ?_)⟩
      · have big : (10 : Int) ^ (18 : Int).toNat ≤ ns[j] := of_decide_eq_true e2
        have pos : (0 : Int) ≤ (10 : Int) ^ (18 : Int).toNat := by decide
        refine ⟨_, rfl, _, rfl, b, _, 2, 2, rfl, rfl, hb1, rfl, ?_⟩
        exact ⟨_, (j : Int) + 1, ns[j], q, rfl, bu.trans But.upd, upd_same, by omega, by omega⟩
      · refine ⟨_, rfl, b, _, 3, _, rfl, rfl, SqL.of hb1, rfl, _, _, rfl, rfl, .inr ⟨by decide, by decide⟩, _, rfl, _, _, rfl, rfl, .inr ⟨by decide, by decide⟩, _, _, rfl, rfl, _, _, rfl, rfl, .inl ⟨_, rfl, _, _, rfl, rfl, seven 0, _, rfl, b, _, 3, 3, rfl, rfl, hb1, rfl, ?_⟩⟩
        exact ⟨_, (j : Int) + 1, p, _, rfl, bu.trans But.upd, upd_same, by omega, p0⟩
    · rintro σ H1 ⟨c, i', p', q', rfl, bu, hb1, i1, p1⟩
      have hl1 : H1 l = some (.lst (ns.map V.int)) := (bu l nlb).trans hl
      refine ⟨_, rfl, b, _, 2, _, rfl, rfl, SqL.of hb1, rfl, _, _, rfl, rfl, _, rfl, ite2 (fun _ => ?_) (fun _ => ?_)⟩
      · -- digit = int(bag[2]) % size; bag[2] = bag[2] // size; return digit
        refine ⟨_, rfl, b, _, 2, _, rfl, rfl, SqL.of hb1, rfl, .inl ⟨_, rfl, _, rfl, _, _, rfl, rfl, s0, ?_⟩⟩
        refine ⟨_, rfl, b, _, 2, _, rfl, rfl, SqL.of hb1, rfl, _, rfl, _, _, rfl, rfl, ⟨s0, s1⟩, _, rfl, b, _, 2, 2, rfl, rfl, hb1, rfl, _, rfl, ?_⟩
        refine k _ _ (Int.emod_nonneg _ (by omega)) (Int.emod_lt_of_pos _ s0) (bu.trans But.upd) ⟨ns, i', p' / size, q', upd_same, ?_, i1, Int.ediv_nonneg p1 (by omega), nlb, n63⟩
        rw [upd_ne nlb]
        exact hl1
      · refine ⟨_, rfl, b, _, 3, _, rfl, rfl, SqL.of hb1, rfl, _, _, rfl, rfl, .inr ⟨by decide, by decide⟩, _, _, rfl, rfl, .inl ⟨_, rfl, _, _, rfl, rfl, seven 0, _, rfl, b, _, 3, 3, rfl, rfl, hb1, rfl, ?_⟩⟩
        have hb2 : (upd H1 b (.lst [.ref l, .int i', .int p', .int ((q' * 48271 + 11) % 2147483647)])) b = some (.lst [.ref l, .int i', .int p', .int ((q' * 48271 + 11) % 2147483647)]) := upd_same
        refine ⟨_, rfl, b, _, 3, _, rfl, rfl, SqL.of hb2, rfl, _, _, rfl, rfl, ⟨by decide, by decide⟩, .inl ⟨_, rfl, _, rfl, _, _, rfl, rfl, s0, ?_⟩⟩
        refine k _ _ (Int.emod_nonneg _ (by omega)) (Int.emod_lt_of_pos _ s0) (bu.trans But.upd) ⟨ns, i', p', _, upd_same, ?_, i1, p1, nlb, n63⟩
        rw [upd_ne nlb]
        exact hl1
def spBag (K : PySem.W.Frag) : Sp := fun vs H Q _ => ∃ (a : Addr) (ns : List Int), vs = [.ref a] ∧ SqL K H a (ns.map V.int) ∧ ns.length ≤ 63 ∧ ∀ b l H', Same H H' → H b = none → BagL H' b l → Q (.ref b) H'
abbrev nBag : List Str := ["_law_script", "_law_cell"]
theorem scBag : FnScope nBag ["_law_script"] (defScope lBag) := ⟨rfl, rfl, rfl, by decide +kernel, rfl, by decide +kernel, by decide +kernel⟩
theorem ok_bag {f : Addr} {fd : FuncData} (F : Fun K "_law_bag" "_law_bag" lBag f fd) (T : LTxt K mg) : FnOk P w K mg base CX0 1 f fd ["_law_script"] (spBag K) := by
  refine F.ok scBag (fun vs H Q E h => ?_) (fun cdv A outer s H vs Q E hr h => ?_)
  · obtain ⟨a, ns, rfl, _⟩ := h
    rfl
  · obtain ⟨a, ns, rfl, ha, few, k⟩ := h
    refine ⟨_, pss_one (ps_ret (pe_lst (pa_cons (pe_lc (own := [("_law_cell", 1)]) (g := gName 1) (tt := tYes) rfl scBag.nd (pi_list (pe_slice sl_list (pv 0) po_none (po_some pe_int)))
      (blkOk_by (own := [("_law_cell", 1)]) (N := nBag) (sc := defScope lBag) (by decide +kernel)) (fun _ _ _ _ _ => pg_name (i := 1) scBag.nd rfl (Or.inl rfl)) (fun _ _ _ _ _ => pts_nil)
      (fun _ _ _ _ _ => pe_callTy call_int1 (by rfl) T.int (by decide +kernel) (pa_cons (pv 1) pa_nil))) (pa_cons pe_int (pa_cons pe_int (pa_cons pe_int pa_nil)))))), ?_⟩
    refine ⟨_, rfl, 63, rfl, a, _, rfl, ha, fun q nq => ?_⟩
    have ec : cutV (ns.map V.int) none (some 63) = ns.map V.int := by
      rw [show (some 63 : Option Int) = some ((63 : Nat) : Int) from rfl, cut_to, List.take_of_length_le (by rw [List.length_map]; exact few)]
    rw [ec]
    have s1 := same_upd (o := .lst (ns.map V.int)) nq
    refine ⟨q, rfl, ⟨_, SqL.of upd_same⟩, fun D nD => lc_list (K := K) (a := q) (xs := ns.map V.int) (fun i G => Same (upd H q (.lst (ns.map V.int))) G ∧ G D = some (.lst ((ns.take i).map V.int))) ⟨same_upd nD, upd_same⟩ (fun i G _ ⟨sm, _⟩ => SqL.of (sm _ _ upd_same)) ?_ ?_⟩
    · rintro i x G hx ⟨sm, hD⟩
      rw [List.getElem?_map] at hx
      cases e : ns[i]? with
      | none =>
        rw [e] at hx
        cases hx
      | some n =>
        rw [e] at hx
        cases hx
        refine ⟨rfl, tyes (iteT ⟨_, rfl, .inl ⟨n, rfl, _, hD, ?_, fun b o eb => ?_, ?_⟩⟩)⟩
        · rw [List.length_map, List.length_take]
          exact small1000 (by omega)
        · rw [upd_ne (ne_of_none eb nD)]
          exact sm _ _ eb
        · rw [upd_same, List.take_add_one, e, List.map_append]
          rfl
    · rintro G ⟨sm, hD⟩
      rw [List.length_map, List.take_of_length_le (Nat.le_refl _)] at hD
      refine ⟨(by show 4 ≤ sizeLine; decide), fun b nb => ?_⟩
      have nb0 : H b = none := by
        cases z : H b with
        | none => rfl
        | some o =>
          rw [sm _ _ (s1 _ _ z)] at nb
          cases nb
      have ndb : D ≠ b := ne_of_none hD nb
      exact k b D _ (fun x o e => by
        rw [upd_ne (ne_of_none (sm _ _ (s1 _ _ e)) nb)]
        exact sm _ _ (s1 _ _ e)) nb0 ⟨ns, 0, 0, 7, upd_same, by rw [upd_ne ndb]; exact hD, by decide, by decide, ndb, few⟩
end
end Pm
namespace Pm
open PySem PySem.Spec PyProof.Rows L2 SX
/-! ### signs -/
abbrev alphaS : Str := "abcdefghijklmnopqrstuvwxyz"
def Let (c : Nat) : Prop := 97 ≤ c ∧ c ≤ 122
def Good (c : Nat) : Prop := c = 46 ∨ Let c
instance (c : Nat) : Decidable (Let c) := by unfold Let; infer_instance
instance (c : Nat) : Decidable (Good c) := by unfold Good; infer_instance
theorem alpha_at : ∀ n : Nat, n < 26 → alphaS.cps.toList[n]? = some (97 + n) := by decide +kernel
theorem alpha_mem (c : Nat) : c ∈ alphaS.cps.toList ↔ Let c := by
  have e : alphaS.cps.toList = List.range' 97 26 := by decide +kernel
  rw [e, List.mem_range'_1]
  unfold Let
  omega
theorem alpha_len : alphaS.length = 26 := by decide +kernel
theorem len_S (a : List Nat) : (S a).length = a.length := S_len a
theorem small_line {n : Nat} (h : n ≤ 1000) : n ≤ sizeLine := Nat.le_of_lt (small1000 h)
theorem dot_S : ("." : Str) = S [46] := by decide +kernel
/-- three letters -/
def Pal (z : List Nat) : Prop := ∃ c d e, z = [c, d, e] ∧ Let c ∧ Let d ∧ Let e
theorem Pal.len {z : List Nat} (h : Pal z) : z.length = 3 := by
  obtain ⟨c, d, e, rfl, _⟩ := h
  rfl
theorem Pal.good {z : List Nat} (h : Pal z) {c : Nat} (m : c ∈ z) : Let c := by
  obtain ⟨a, b, e, rfl, ha, hb, he⟩ := h
  simp only [List.mem_cons, List.not_mem_nil, or_false] at m
  rcases m with rfl | rfl | rfl <;> assumption
theorem draw_at {z : List Nat} (h : Pal z) {n : Int} (n0 : 0 ≤ n) (n7 : n < 7) : ∃ c, atI ([46] ++ z ++ z) n = some c ∧ Good c := by
  obtain ⟨j, rfl⟩ : ∃ j : Nat, n = (j : Int) := ⟨n.toNat, by omega⟩
  have len : ([46] ++ z ++ z).length = 7 := by simp [h.len]
  have hj : j < ([46] ++ z ++ z).length := by omega
  refine ⟨([46] ++ z ++ z)[j], atI_nat (List.getElem?_eq_getElem hj), ?_⟩
  have m := List.getElem_mem hj
  rcases List.mem_append.mp m with m | m
  · rcases List.mem_append.mp m with m | m
    · exact .inl (by simpa using m)
    · exact .inr (h.good m)
  · exact .inr (h.good m)
section
variable {P : Program} {w : World} {K : PySem.W.Frag} {mg : Str → Option Value} {base : Heap}
def spPal : Sp := fun vs H Q _ => ∃ b l, vs = [.ref b] ∧ BagL H b l ∧ ∀ z H', Pal z → But b H H' → BagL H' b l → Q (.str (S z)) H'
theorem scPal : FnScope ["_law_bag_here", "_law_letters", "_law_first", "_law_second", "_law_third"] ["_law_bag_here"] (defScope lPalette) := ⟨rfl, rfl, rfl, by decide +kernel, rfl, by decide +kernel, by decide +kernel⟩
abbrev tkNames : List Str := ["_law_bag_here", "_law_size"]
theorem ok_pal {f t : Addr} {fd td : FuncData} (F : Fun K "_law_palette" "_law_palette" lPalette f fd) (T : Cl P w K mg base CX0 1 "_law_take" tkNames spTake t td) (L : LTxt K mg) : FnOk P w K mg base CX0 2 f fd ["_law_bag_here"] spPal := by
  refine F.ok scPal (fun vs H Q E h => ?_) (fun cdv A outer s H vs Q E hr h => ?_)
  · obtain ⟨b, l, rfl, _⟩ := h
    rfl
  · obtain ⟨b, l, rfl, hb, k⟩ := h
    refine ⟨_, pss_cons (ps_set (i := 1) scPal.nd rfl (.inl rfl) pe_str)
      (pss_cons (ps_set (i := 2) scPal.nd rfl (.inl rfl) (pe_call T.ok hr (by rfl) T.gl T.kp T.bd .nil pass0 (pa_cons (pv 0) (pa_cons pe_int pa_nil))))
      (pss_cons (ps_set (i := 3) scPal.nd rfl (.inl rfl) (pe_op op_mod (pe_callTy call_int1 (by rfl) L.int (by decide +kernel) (pa_cons (pe_op op_add (pe_op op_add (pv 2) pe_int) (pe_call T.ok hr (by rfl) T.gl T.kp T.bd .nil pass0 (pa_cons (pv 0) (pa_cons pe_int pa_nil)))) pa_nil)) pe_int))
      (pss_cons (ps_set (i := 4) scPal.nd rfl (.inl rfl) (pe_op op_mod (pe_callTy call_int1 (by rfl) L.int (by decide +kernel) (pa_cons (pe_op op_add (pe_op op_add (pv 3) pe_int) (pe_call T.ok hr (by rfl) T.gl T.kp T.bd .nil pass0 (pa_cons (pv 0) (pa_cons pe_int pa_nil)))) pa_nil)) pe_int))
      (pss_one (ps_ret (pe_op op_add_str (pe_op op_add_str (pe_ix ix_str (pv 1) (pv 2) (fun _ _ => rfl)) (pe_ix ix_str (pv 1) (pv 3) (fun _ _ => rfl))) (pe_ix ix_str (pv 1) (pv 4) (fun _ _ => rfl)))))))), ?_⟩
    refine ⟨_, rfl, b, l, 26, rfl, hb, by decide, by decide, fun n H1 n0 n1 u1 b1 => ?_⟩
    refine ⟨_, rfl, _, _, rfl, rfl, _, rfl, b, l, 25, rfl, b1, by decide, by decide, fun n2 H2 p0 p1 u2 b2 => ⟨_, _, rfl, rfl, .inl ⟨_, rfl, _, _, rfl, rfl, (by show (0 : Int) < 26; decide), ?_⟩⟩⟩
    refine ⟨_, rfl, _, _, rfl, rfl, _, rfl, b, l, 25, rfl, b2, by decide, by decide, fun n3 H3 q0 q1 u3 b3 => ⟨_, _, rfl, rfl, .inl ⟨_, rfl, _, _, rfl, rfl, (by show (0 : Int) < 26; decide), ?_⟩⟩⟩
    have at_ : ∀ m : Int, 0 ≤ m → m < 26 → ∃ c, atI alphaS.cps.toList m = some c ∧ Let c := fun m h0 h1 => by
      obtain ⟨j, rfl⟩ : ∃ j : Nat, m = (j : Int) := ⟨m.toNat, by omega⟩
      exact ⟨97 + j, atI_nat (alpha_at j (by omega)), by unfold Let; omega⟩
    obtain ⟨c, ec, hc⟩ := at_ n n0 n1
    obtain ⟨d, ed, hd⟩ := at_ _ (Int.emod_nonneg (n + 1 + n2) (show (26 : Int) ≠ 0 by decide)) (Int.emod_lt_of_pos (n + 1 + n2) (show (0 : Int) < 26 by decide))
    obtain ⟨e, ee, he⟩ := at_ _ (Int.emod_nonneg ((n + 1 + n2) % 26 + 1 + n3) (show (26 : Int) ≠ 0 by decide)) (Int.emod_lt_of_pos ((n + 1 + n2) % 26 + 1 + n3) (show (0 : Int) < 26 by decide))
    have al : alphaS.length ≤ sizeLine := by rw [alpha_len]; exact small_line (by decide)
    refine ⟨_, rfl, _, rfl, _, _, _, rfl, rfl, al, ec, ?_⟩
    refine ⟨_, rfl, _, rfl, _, _, _, rfl, rfl, al, ed, _, _, rfl, rfl, by show 1 + 1 ≤ sizeLine; decide, ?_⟩
    refine ⟨_, rfl, _, rfl, _, _, _, rfl, rfl, al, ee, _, _, rfl, rfl, by show 2 + 1 ≤ sizeLine; decide, ?_⟩
    have z : (S [c] ++ S [d]) ++ S [e] = S [c, d, e] := by rw [S_cat, S_cat]; rfl
    have y := k [c, d, e] H3 ⟨c, d, e, rfl, hc, hd, he⟩ ((u1.trans u2).trans u3) b3
    rw [← z] at y
    exact y
end
/-! ### grids -/
abbrev Rows := List (List Nat)
def rowsV (R : Rows) : List V := R.map fun r => V.str (S r)
structure Grid (R : Rows) (w : Nat) : Prop where
  w1 : 1 ≤ w
  w8 : w ≤ 8
  h1 : 1 ≤ R.length
  h8 : R.length ≤ 8
  row : ∀ r ∈ R, r.length = w
  sgn : ∀ r ∈ R, ∀ c ∈ r, Good c
theorem rowsV_len (R : Rows) : (rowsV R).length = R.length := List.length_map _
theorem bag_upd {H : Hp} {b l t : Addr} {o : HO} (h : BagL H b l) (n : H t = none) : BagL (upd H t o) b l := by
  obtain ⟨ns, i, p, q, hb, hl, r⟩ := h
  exact ⟨ns, i, p, q, by rw [upd_ne (ne_of_none hb n)]; exact hb, by rw [upd_ne (ne_of_none hl n)]; exact hl, r⟩
theorem bag_b {H : Hp} {b l : Addr} (h : BagL H b l) : ∃ xs, H b = some (.lst xs) := by
  obtain ⟨_, _, _, _, hb, _⟩ := h
  exact ⟨_, hb⟩
theorem bag_ne {H : Hp} {b l t : Addr} {o : HO} (h : BagL H b l) (tb : t ≠ b) (tl : t ≠ l) : BagL (upd H t o) b l := by
  obtain ⟨ns, i, p, q, hb, hl, r⟩ := h
  exact ⟨ns, i, p, q, by rw [upd_ne (Ne.symm tb)]; exact hb, by rw [upd_ne (Ne.symm tl)]; exact hl, r⟩
theorem bag_l {H : Hp} {b l : Addr} (h : BagL H b l) : ∃ xs, H l = some (.lst xs) := by
  obtain ⟨_, _, _, _, _, hl, _⟩ := h
  exact ⟨_, hl⟩
theorem but_same {b : Addr} {H H' : Hp} (h : But b H H') : SameBut b H H' := fun a o ha e => (h a ha).trans e
theorem sb_trans {b : Addr} {H H1 H2 : Hp} (h : SameBut b H H1) (k : SameBut b H1 H2) : SameBut b H H2 := fun a o ha e => k a o ha (h a o ha e)
theorem sb_refl (b : Addr) (H : Hp) : SameBut b H H := fun _ _ _ e => e
theorem same_sb {b : Addr} {H H' : Hp} (h : Same H H') : SameBut b H H' := fun a o _ e => h a o e
end Pm
namespace Pm
open PySem PySem.Spec PyProof.Rows L2 SX
/-! ### for i, x in enumerate(xs, start=1) -/
/-- the list at a, item by item, each with its number counted from 1, in a new pair -/
def ItS (K : PySem.W.Frag) (a : Addr) : It where
  go := fun i H => ∃ (xs : List V) (x : V), SqL K H a xs ∧ xs[i]? = some x
  yld := fun i H v H' => ∃ T x, v = .ref T ∧ H T = none ∧ H' = upd H T (.tup [.int ((i : Int) + 1), x]) ∧ ∀ xs, SqL K H a xs → xs[i]? = some x
  stop := fun i H => ∃ xs : List V, SqL K H a xs ∧ xs.length = i
/-- a list's draws, counted from 1 -/
theorem draws1 {prog : Program} {w : World} {A : Around} (hh : A.handled = none) (it l : Addr) (ne : l ≠ it) (xs : Array Value) :
    Draws prog w A it [it, l] (xs.size + 1) (fun i v => xs[i - 1]? = some v) (fun i h => 1 ≤ i ∧ h.IsListIter it l (i - 1) ∧ h.IsList l xs) := by
  have D := Draws.list (prog := prog) (w := w) hh it l ne xs
  refine ⟨fun i h st => D.live (i - 1) h st.2, fun i h g st k => ⟨st.1, D.frame (i - 1) h g st.2 k⟩, ?_, fun s Q E st q => D.done s Q E st.2 q⟩
  intro i s Q E lt st q
  obtain ⟨j, rfl⟩ : ∃ j, i = j + 1 := ⟨i - 1, by have := st.1; omega⟩
  exact D.item j s Q E (by omega) st.2 fun x g tk px sx sb => q x g tk px ⟨by omega, sx⟩ sb
theorem apartL {h : Heap} {a it : Addr} {xs : Array Value} {i : Nat} (isl : h.IsList a xs) (h2 : h.IsListIter it a i) : a ≠ it := fun z => by
  obtain ⟨o, y, yc, n, yd⟩ := isl
  obtain ⟨o', y', _, yd'⟩ := h2
  rw [z, y'] at y
  cases y
  rw [yd'] at yd
  cases yd
theorem apartE {h : Heap} {a e it : Addr} {xs : Array Value} {i : Int} {w : Value} (isl : h.IsList a xs) (h1 : IsEnum h e it i w) : e ≠ a := fun z => by
  obtain ⟨o, y, yc, n, yd⟩ := isl
  rw [← z, h1] at y
  cases y
  cases yd
def tnS (e it a : Addr) (i : Nat) (h : Heap) : Prop := (∃ o, IsEnum h e it ((i + 1 : Nat) : Int) o) ∧ h.IsListIter it a i ∧ e ≠ it
theorem turnS {P : Program} {w : World} {K : PySem.W.Frag} {es : List Expr} {kk : Nat} {tp : Pos} (a e it : Addr) : Turn P w K (.Tuple es kk tp) (ItS K a) [e, it] e (tnS e it a) := by
  have two : ∀ {b : Addr}, b ∈ [e, it] → b = e ∨ b = it := fun m => by simpa using m
  constructor
  case mem => exact List.mem_cons_self
  case obj =>
    rintro i h ⟨⟨o1, h1⟩, ⟨o2, h2, _, d2⟩, _⟩ b m
    rcases two m with rfl | rfl
    · exact ⟨_, h1, fun v q => nomatch q⟩
    · refine ⟨o2, h2, fun v q => ?_⟩
      rw [d2] at q
      cases q
  case keep =>
    rintro i h g ⟨⟨o1, h1⟩, h2, ne⟩ k
    exact ⟨⟨o1, k e (by simp) _ h1⟩, h2.at fun o y => k it (by simp) o y, ne⟩
  case self =>
    rintro A i s Q E ⟨⟨_, h1⟩, _⟩ q
    exact wpAny_pyIter_enum h1 q
  case done =>
    rintro X rfl rfl rfl calm i pins s σ H E I free ⟨⟨o1, h1⟩, h2, ne⟩ ⟨xs, hx, rfl⟩
    obtain ⟨us, rv, isl, _⟩ := I.list hx
    obtain ⟨f0, f1, f2, f3, f4, f5⟩ := free it (by simp)
    have D := draws1 (prog := X.prog) (w := X.w) (A := X.A.in1) (I.ok.hd calm) it a (apartL isl.isList h2) us.toArray
    have e5 : us.toArray.size = xs.length := by simpa using rv.length.symm
    rw [e5] at D
    exact wpAny_pyNext_enum_endD D h1 ⟨by omega, h2, isl.isList⟩ fun g eb => ⟨rfl, I.turned (t' := s.toks) (fun b o nb y => eb b o nb y) f0 f1 f3 f4 f5⟩
  case item =>
    rintro X rfl rfl rfl calm i pins s σ H E I free ⟨⟨o1, h1⟩, h2, ne⟩ ⟨xs, x, hx, gx⟩
    obtain ⟨us, rv, isl, _⟩ := I.list hx
    obtain ⟨u, gu, ru⟩ := rv.get gx
    have nl := apartL isl.isList h2
    have D := draws1 (prog := X.prog) (w := X.w) (A := X.A.in1) (I.ok.hd calm) it a nl us.toArray
    have big : e < s.heap.objs.size := Heap.lt_size h1
    have sz : i < us.length := by
      rcases List.getElem?_eq_some_iff.mp gu with ⟨y, _⟩
      exact y
    refine wpAny_pyNext_enum_itemD (i := i + 1) D h1 ⟨by omega, h2, isl.isList⟩ (by simpa using sz) ne (fun m => ?_) fun v g tk pv eo st gT gs gk => ?_
    · rcases List.mem_cons.mp m with z | z
      · exact ne z
      · exact apartE isl.isList h1 (List.mem_singleton.mp z)
    · have ev : v = u := by
        have y : us.toArray[i]? = some v := pv
        rw [List.getElem?_toArray, gu] at y
        exact (Option.some.inj y).symm
      subst ev
      refine ⟨_, rfl, wpAny_letOwnedTupleGo_enum (s := { s with heap := g, toks := tk + 1 }) eo fun g2 e2 sb => ?_⟩
      have T2 : g2.get? s.heap.objs.size = some { cls := .type "tuple", data := .seq #[.int ((i + 1 : Nat) : Int) tk, v] } :=
        (sb.2 _ (Nat.ne_of_gt big)).trans gT
      have fresh : H s.heap.objs.size = none := I.hok.fresh (Nat.le_refl _)
      have pair : ObjOk X.prog X.w (upd H s.heap.objs.size (.tup [.int ((i : Int) + 1), x])) g2 s.heap.objs.size (.tup [.int ((i : Int) + 1), x]) :=
        ⟨small_line (by show 2 ≤ 1000; decide), [.int ((i + 1 : Nat) : Int) tk, v], .cons ⟨_, rfl⟩ (.cons ru .nil), ⟨_, T2, rfl, _, rfl⟩⟩
      have J : L2.Inv X pins σ (upd H s.heap.objs.size (.tup [.int ((i : Int) + 1), x])) { s with heap := g2, toks := tk + 1 } :=
        I.turnedNew (ch := [e, it]) (fun b o nb y => (sb.2 b (fun z => nb (by simp [z]))).trans (gk b o (fun z => nb (by simp [z])) (fun z => nb (by simp [z])) y)) free (Nat.le_refl _) pair
      refine ⟨.ref s.heap.objs.size, _, J, rfl, ⟨_, x, rfl, fresh, rfl, fun ys hy => ?_⟩, ⟨⟨v, e2⟩, st.2.1.at fun o y => (sb.2 it (Ne.symm ne)).trans y, ne⟩, fun b m => ?_⟩
      · rw [I.list_inj hy hx]
        exact gx
      · rw [upd_ne (fun z => ?_)]
        · exact (free b m).1
        · rcases two m with y | y
          · rw [y] at z
            rw [← z] at big
            exact Nat.lt_irrefl _ big
          · have lt2 : it < s.heap.objs.size := by
              obtain ⟨_, y2, _⟩ := h2
              exact Heap.lt_size y2
            rw [y] at z
            rw [← z] at lt2
            exact Nat.lt_irrefl _ lt2
/-! ### its making -/
section
variable {M : Model} {A : Around} {E : Value → Shared → Prop} {s : Shared} {env : Env}
theorem kw_type {pos : Pos} {T : String} {e : Expr} {es : List Expr} {kws : List Keyword} {Q : Value → Shared → Prop}
    (h : wpAny M A (spliced (backTo pos (starEach (e :: es) env))) (fun us s1 => wpAny M A (evalAll ((backToKw pos (keywordEach kws env)).map (·.2)))
      (fun ks s2 => wpAny M A (call (.type T) us (((backToKw pos (keywordEach kws env)).filterMap (·.1)).zip ks)) Q E s2) E s1) E s)
    (h1 : backTo pos (starEach (e :: es) env) = (false, eval e env) :: backTo pos (starEach es env) := by rfl) (h2 : (backTo pos (starEach (e :: es) env)).any (·.1) = false := by rfl)
    (h3 : (backToKw pos (keywordEach kws env)).all (·.1.isSome) = true := by rfl) (h4 : (backToKw pos (keywordEach kws env)).any (·.1.isNone) = false := by rfl) :
    wpAny M A (callWith pos (.type T) [] (backTo pos (starEach (e :: es) env)) (backToKw pos (keywordEach kws env))) Q E s := by
  have go : wpAny M A (evalArgs (.type T) true (backTo pos (starEach (e :: es) env)) (backToKw pos (keywordEach kws env))) (fun a s1 => wpAny M A (call (.type T) ([] ++ a.pos) a.kw) Q E s1) E s := by
    rw [h1] at h ⊢
    exact evalArgs_kwB h3 h
  unfold callWith
  refine wpAny_bind (wpAny_holding (wpAny_mono go (fun a s1 r => wpAny_bind (wpAny_standAt ?_)) fun _ _ y => y))
  simp only [h2, h4, Bool.or_false]
  exact wpAny_bind (wpAny_pure (wpAny_bind (wpAny_mono r (fun u s2 q => wpAny_bind (wpAny_holding (wpAny_point (wpAny_pure q)))) fun _ _ y => y)))
end
def iEnS (K : PySem.W.Frag) (ta tk : TA) : TI := fun σ H R => ta σ H fun vs H1 => tk σ H1 fun zs H2 => ∃ a xs, vs = [.ref a] ∧ zs = [.int 1] ∧ SqL K H2 a xs ∧ R (ItS K a) H2
theorem pi_enumS {X : Cx} {e ke : Expr} {ta tk : TA} {p kp pos tp : Pos} {es : List Expr} {kk : Nat} (hg : Gl X "enumerate") (hm : X.mg "enumerate" = none) (ha : PA X [e] ta) (hk : PK X [⟨some "start", ke, kp⟩] tk)
    (h1 : backTo pos (starEach [e] X.env) = (false, eval e X.env) :: backTo pos (starEach [] X.env) := by rfl) (h2 : (backTo pos (starEach [e] X.env)).any (·.1) = false := by rfl) :
    PI X (.Tuple es kk tp) (.Call (.Name "enumerate" p) [e] [⟨some "start", ke, kp⟩] pos) (iEnS X.K ta tk) := by
  refine ⟨fun pins s σ H R I h => ?_⟩
  refine wpAny_Call_Name_kw (ld_blt I hg hm boot_enumerate (kw_type (thn (ha.run pos pins s σ H _ I h) fun us s1 ⟨vs, H1, I1, r1, q1⟩ => thn (hk.run pos pins s1 σ H1 _ I1 q1) fun ks s2 ⟨zs, H2, I2, r2, a, xs, ev, ez, hx, q⟩ => ?_) h1 h2) (by decide) (by decide))
  subst ev ez
  match r1, r2 with
  | .cons ra .nil, .cons rk .nil =>
    cases ra
    obtain ⟨t, rfl⟩ := rk
    obtain ⟨vals, rv, isl, _⟩ := I2.list hx
    refine enum_begins_start (begins_list a vals.toArray) isl.isList (by decide) (by decide) fun g he hi hz hk2 => wpAny_pyIter_enum he ?_
    have J : L2.Inv X pins σ H2 { s2 with heap := g } := I2.kept (t' := s2.toks) hk2
    refine ⟨s2.heap.objs.size + 1, [s2.heap.objs.size + 1, s2.heap.objs.size], _, ItS X.K a, H2, rfl, J, turnS a (s2.heap.objs.size + 1) s2.heap.objs.size, ⟨⟨.none, he⟩, ⟨_, hi, rfl, rfl⟩, Nat.succ_ne_self _⟩, fun b m => ?_, q⟩
    have le : s2.heap.objs.size ≤ b := by
      rcases List.mem_cons.mp m with y | y
      · rw [y]
        exact Nat.le_succ _
      · rw [List.mem_singleton.mp y]
        exact Nat.le_refl _
    exact I2.fpOk le (I2.hok.fresh le)
end Pm
namespace Pm
open PySem PySem.Spec PyProof.Rows L2 SX
/-! ### sets of texts, filled from an iterator -/
/-- one more text, if it is new -/
def ddS (l : List Str) (v : Str) : List Str := if l.any (· == v) then l else l ++ [v]
def metS (val : Nat → Str) (i : Nat) : List Str := ((List.range i).map val).foldl ddS []
theorem metS_succ (val : Nat → Str) (i : Nat) : metS val (i + 1) = ddS (metS val i) (val i) := by
  unfold metS
  rw [List.range_succ, List.map_append, List.foldl_append]
  rfl
theorem metS_le (val : Nat → Str) : ∀ i, (metS val i).length ≤ i
  | 0 => Nat.le_refl _
  | i + 1 => by
    rw [metS_succ]
    have ih := metS_le val i
    unfold ddS
    split
    · omega
    · rw [List.length_append, List.length_singleton]
      omega
theorem ddS_any (l : List Str) (v k : Str) : (ddS l v).any (· == k) = (l.any (· == k) || decide (k = v)) := by
  unfold ddS
  by_cases h : l.any (· == v) = true
  · rw [if_pos h]
    by_cases e : k = v
    · subst e
      rw [h]
      simp
    · simp [e]
  · rw [if_neg h, List.any_append]
    by_cases e : k = v
    · subst e
      simp
    · have hb : (v == k) = false := by simpa [beq_iff_eq] using (fun h' : v = k => e h'.symm)
      simp [hb, e]
theorem ddS_len (l : List Str) (v : Str) : (ddS l v).length = if l.any (· == v) then l.length else l.length + 1 := by
  unfold ddS
  split <;> simp
section
variable {prog : Program} {w : World} {A : Around} {R : Result → Shared → Prop} {I : Addr} {fp wr : List Addr} {G : Array GenState → Array GenState → Prop} {n : Nat} {Pp : Nat → Value → Prop} {St : Nat → Shared → Prop}
theorem set_loopS (W : WalksS prog w A.in1 I fp wr G n Pp St) (S : Addr) (hSf : S ∉ fp) (val : Nat → Str) (hval : ∀ i v, Pp i v → ∃ t, v = .str (val i) t) (hb : n + 1 < scanBound) :
    ∀ (k i : Nat) (s : Shared), n - i = k → i ≤ n → St i s →
      s.heap.SetOf (PySem.strKind prog w) S (fun k' => (metS val i).any (· == k')) (metS val i).length →
      (∀ s', Moved (S :: wr) G s s' → s'.heap.SetOf (PySem.strKind prog w) S (fun k' => (metS val n).any (· == k')) (metS val n).length → R (.ok (.ret .none)) s') →
      codeAny (model prog w) A (.builtin "set.update.loop" ⟨[.ref S, .ref I], []⟩) R s := by
  have hSw : S ∉ wr := fun h => hSf (W.sub _ h)
  have hsub : ∀ b ∈ wr, b ∈ S :: wr := fun b hb => List.mem_cons_of_mem _ hb
  intro k
  induction k with
  | zero =>
    intro i s hk hi hst hS hR
    have hin : i = n := by omega
    subst hin
    refine codeAny_builtin PyProof.Rows.F.entry_set_update_loop ?_
    rw [Around.under_plainId PyProof.Rows.F.plain_set_update_loop _]
    show wpAny _ A.in1 (pyNext (.ref I) >>= _) _ _ s
    refine wpAny_bind (W.done s _ _ hst fun s' hm => ?_)
    show wpAny _ A.in1 (ret Value.none) _ _ s'
    exact wpAny_pure (hR s' (hm.mono hsub) (by
      obtain ⟨o, es, ep, t, ho, rest⟩ := hS
      exact ⟨o, es, ep, t, hm.heap S _ hSw ho, rest⟩))
  | succ k ih =>
    intro i s hk hi hst hS hR
    have hlt : i < n := by omega
    refine codeAny_builtin PyProof.Rows.F.entry_set_update_loop ?_
    rw [Around.under_plainId PyProof.Rows.F.plain_set_update_loop _]
    show wpAny _ A.in1 (pyNext (.ref I) >>= _) _ _ s
    refine wpAny_bind (W.item i s _ _ hlt hst fun v s' hP hst' hm => ?_)
    obtain ⟨t, rfl⟩ := hval i v hP
    have hS' : s'.heap.SetOf (PySem.strKind prog w) S (fun k' => (metS val i).any (· == k')) (metS val i).length := by
      obtain ⟨o, es, ep, tb, ho, rest⟩ := hS
      exact ⟨o, es, ep, tb, hm.heap S _ hSw ho, rest⟩
    have iskey : (PySem.strKind prog w).is (val i) (.str (val i) t) = true := Froz.is_str _ _
    show wpAny _ A.in1 (holding [Value.str (val i) t] (setAdd S (.str (val i) t)) >>= _) _ _ s'
    refine wpAny_bind (wpAny_holding ?_)
    unfold setAdd
    refine wpAny_holding ?_
    refine wpAny_bind ((PySem.strKind prog w).pyHash (k := val i) iskey ?_)
    have hroom : (metS val i).length + 1 < scanBound := by
      have := metS_le val i
      omega
    refine wpAny_setAddHashed_of (knd := PySem.strKind prog w) (s := { s' with toks := s'.toks + 1 }) iskey rfl hS' hroom fun h' hsb hS2 => ?_
    have hSi : h'.SetOf (PySem.strKind prog w) S (fun k' => (metS val (i + 1)).any (· == k')) (metS val (i + 1)).length :=
      SetOf_congr hS2 (fun k' => by rw [metS_succ, ddS_any]) (by rw [metS_succ, ddS_len])
    refine wpAny_pure ⟨plainId_quiet PyProof.Rows.F.plain_set_update_loop _, ih (i + 1) _ (by omega) hlt (W.frame _ s' _ _ hst' (Nat.le_succ _) fun b hb o e => ?_) hSi fun s'' hm'' hS'' => ?_⟩
    · rw [hsb.2 b (fun h : b = S => hSf (by rw [← h]; exact hb))]
      exact e
    · refine hR s'' (Moved.trans W.gtrans ((hm.mono hsub).then_heap (Nat.le_succ _) fun b o hb e => ?_) hm'') hS''
      rw [hsb.2 b (fun h : b = S => hb (by rw [h]; exact List.mem_cons_self))]
      exact e
end
end Pm
namespace Pm
open PySem PySem.Spec PyProof.Rows L2 SX
/-! ### sorted(text) -/
/-- the signs, each a text of its own -/
def ones (z : List Nat) : List Str := z.map fun c => S [c]
theorem strs_signs : ∀ {us : List Value} {z : List Nat}, us.length = z.length → (∀ (j : Nat) (v : Value), us[j]? = some v → ∃ (c : Nat) (t : Tok), z[j]? = some c ∧ v = Value.str (S [c]) t) → StrsAre us (ones z)
  | [], [], _, _ => .nil
  | u :: us, k :: ks, hl, h => by
    obtain ⟨x, t, e1, e2⟩ := h 0 u rfl
    have e1' : k = x := Option.some.inj e1
    subst e1'
    subst e2
    refine .cons _ _ (strs_signs (by simpa using hl) fun j v e => ?_)
    obtain ⟨x, t, a, b⟩ := h (j + 1) v (by simpa using e)
    exact ⟨x, t, by simpa using a, b⟩
  | [], _ :: _, hl, _ => by simp at hl
  | _ :: _, [], hl, _ => by simp at hl
/-- sorted(text): its signs in a new list, in order -/
def rSortedTx : List V → Hp → VK → Prop := fun vs H Q => ∃ z : List Nat, vs = [.str (S z)] ∧ z.length ≤ 1000 ∧ ∀ (ys : List Nat) (p : Addr), ys.Perm z → ys.Pairwise (· ≤ ·) → H p = none → Q (.ref p) (upd H p (.lst ((ones ys).map V.str)))
theorem ones_perm {z : List Nat} : ∀ {l : List Str}, l.Perm (ones z) → ∃ ys : List Nat, ys.Perm z ∧ l = ones ys := fun {l} h => by
  refine ⟨l.map fun s => s.cps.toList.headD 0, ?_, ?_⟩
  · have q := h.map fun s => s.cps.toList.headD 0
    have e : (ones z).map (fun s : Str => s.cps.toList.headD 0) = z := by
      unfold ones
      rw [List.map_map]
      have : ((fun s : Str => s.cps.toList.headD 0) ∘ fun c => S [c]) = id := by
        funext c
        simp
      rw [this, List.map_id]
    rw [e] at q
    exact q
  · unfold ones
    rw [List.map_map]
    refine (List.map_id l).symm.trans (List.map_congr_left fun s hs => ?_)
    obtain ⟨c, _, rfl⟩ := List.mem_map.mp (h.mem_iff.mp hs)
    simp
theorem ones_sorted : ∀ {ys : List Nat}, sortedS (ones ys) = true → ys.Pairwise (· ≤ ·) := by
  have step : ∀ (p : Nat) (l : List Nat), risingS (S [p]) (ones l) = true → (p :: l).Pairwise (· ≤ ·) := by
    intro p l
    induction l generalizing p with
    | nil => intro _; exact List.pairwise_singleton _ _
    | cons x r ih =>
      intro h
      have h : (!ltCps (S [x]).cps.toList (S [p]).cps.toList && risingS (S [x]) (ones r)) = true := h
      rw [Bool.and_eq_true] at h
      have tl := ih x h.2
      have le : p ≤ x := by
        have z := h.1
        rw [ltCps_eq] at z
        by_cases y : x < p
        · rw [decide_eq_true (show (S [x]).cps.toList < (S [p]).cps.toList from List.Lex.rel y)] at z
          cases z
        · omega
      refine List.pairwise_cons.mpr ⟨fun y hy => ?_, tl⟩
      rcases List.mem_cons.mp hy with e | m
      · rw [e]
        exact le
      · exact Nat.le_trans le ((List.pairwise_cons.mp tl).1 y m)
  intro ys h
  cases ys with
  | nil => exact List.Pairwise.nil
  | cons x r => exact step x r h
theorem cr_sortedTx {X : Cx} (hcalm : X.calm = true) : CallR X (.builtin "sorted") rSortedTx := by
  intro pins s σ H xs us Q I r q
  obtain ⟨z, ex, few, q⟩ := q
  subst ex
  obtain ⟨u, eu, rx⟩ := vals1 r
  subst eu
  obtain ⟨t, rfl⟩ := rx
  have e1 : (S z).cps.size = z.length := by simp
  refine Calls.call_function_entry PyProof.Rows.kind_sorted PyProof.Rows.plain_sorted PyProof.Rows.entry_sorted (PyProof.Rows.args_sorted1 _) ?_
  unfold Builtin.«sorted»
  refine wpAny_bind (m := checkCount "sorted" 1 1 _) (wpAny_pure ?_)
  refine wpAny_bind (wpAny_collect_str (A := X.A.in1) (I.ok.hd hcalm) (S z) t (fun s1 acc hk hg hd ho hacc => ?_) (by rw [e1, sizeLine_eq]; omega))
  have hal : acc.toList.length = z.length := by rw [Array.length_toList, hacc.1, e1]
  have hS : StrsAre acc.toList (ones z) := strs_signs hal fun j v e => by
    obtain ⟨c, u, e2, e3⟩ := hacc.2 j v (by rw [← Array.getElem?_toList]; exact e)
    refine ⟨c, u, ?_, e3⟩
    rw [← Array.getElem?_toList] at e2
    exact e2
  obtain ⟨h', g', d', tk', os'⟩ := s1
  have hg : g' = s.gens := hg
  have hd : d' = s.drawn := hd
  have ho : os' = s.os := ho
  subst hg hd ho
  have I1 : L2.Inv X pins σ H { s with heap := h', toks := tk' } := I.kept hk
  refine wpAny_bind (wpAny_newList ?_ (by rw [hal, sizeLine_eq]; omega))
  have hoL : (h'.push (seqObj "list" acc.toList.toArray 0)).get? h'.objs.size = some (seqObj "list" acc.toList.toArray 0) := Heap.get?_push_size _ rfl
  show wpAny _ _ _ _ _ { s with heap := h'.push (seqObj "list" acc.toList.toArray 0), toks := tk' }
  refine wpAny_bind (wpAny_holding (wpAny_call_entry PyProof.Rows.slot_list_sort ⟨_, hoL, rfl⟩ PyProof.Rows.entry_list_sort
    (list_sort_treeKAny strKind_oneLt (s := { s with heap := h'.push (seqObj "list" acc.toList.toArray 0), toks := tk' }) hoL hS.keysOf (fun v₁ v₂ rest e => keyKind_strs (by rw [← e]; exact hS)) (by rw [hal, sizeLine_eq]; omega) fun st' hp hs => ⟨_, rfl, ?_⟩)
    (PyProof.Rows.args_list_sort _)))
  obtain ⟨ss, g1, g2, g3⟩ := sorted_out_str hS hp hs
  obtain ⟨ys, p1, rfl⟩ := ones_perm g2
  obtain ⟨e', he'⟩ := PyProof.Rows.sortedHeap_at (vs := acc.toList) (out := (arrOf st').map (·.2)) hoL
  have hlen : ((ones ys).map V.str).length ≤ sizeLine := by
    rw [List.length_map, g2.length_eq]
    show (ones z).length ≤ _
    rw [show (ones z).length = z.length from List.length_map _]
    exact small_line few
  refine wpAny_pure ⟨_, rfl, .ref h'.objs.size, upd H h'.objs.size (.lst ((ones ys).map V.str)), I1.laid (t' := tk') (fun b u e => ?_) (Nat.le_refl _)
    (show ObjOk X.prog X.w _ _ _ (.lst ((ones ys).map V.str)) from ⟨hlen, ((arrOf st').map (·.2)).toList, e', vals_of_strs g1, by rw [Array.toArray_toList]; exact he'⟩), rfl, q ys _ p1 (ones_sorted g3) (I1.hok.fresh (Nat.le_refl _))⟩
  have hb : b < h'.objs.size := Heap.lt_size e
  rw [PyProof.Rows.sortedHeap_old (Nat.ne_of_lt hb) (by rw [size_push']; exact Nat.lt_succ_of_lt hb)]
  exact Heap.get?_push_of_some _ e
end Pm
namespace Pm
open PySem PySem.Spec PyProof.Rows L2 SX
/-! ### sorted of triples (int, int, text), no two of them with the same ints -/
/-- v is a tuple of the ints i, j and a text -/
def IsTrip (h : Heap) (v : Value) (i j : Int) (z : Str) : Prop := ∃ a o t u y n, v = .ref a ∧ h.get? a = some o ∧ o.cls = .type "tuple" ∧ o.data = .seq #[.int i t, .int j u, .str z y] n
theorem IsTrip.keeps {h h' : Heap} {v : Value} {i j : Int} {z : Str} (p : IsTrip h v i j z) (k : ∀ b o, h.get? b = some o → o.cls = .type "tuple" → h'.get? b = some o) : IsTrip h' v i j z := by
  obtain ⟨a, o, t, u, y, n, e, ho, hc, hd⟩ := p
  exact ⟨a, o, t, u, y, n, e, k _ _ ho hc, hc, hd⟩
section
variable {prog : Program} {w : World} {A : Around} {E : Value → Shared → Prop} {s : Shared}
theorem trip_cmp {vs : List Value} {k : Value → Int × Int} {tx : Value → Str} (hp : ∀ v ∈ vs, IsTrip s.heap v (k v).1 (k v).2 (tx v)) (hd : ∀ v ∈ vs, ∀ u ∈ vs, k v = k u → v = u) :
    SrtO.Cmp prog w A s (tuples' true) (fun p => p.1 ∈ vs) (SrtO.lt2 fun v u => SrtO.lexB (k v) (k u)) := by
  intro p q hm hm'
  have h1 := hp _ hm
  have h2 := hp _ hm'
  have same : (k p.1).1 = (k q.1).1 → (k p.1).2 = (k q.1).2 → tx p.1 = tx q.1 := fun a b => by rw [hd _ hm _ hm' (Prod.ext a b)]
  show wpAny (model prog w) A (keyLt' (tuples' true) p.1 q.1) (fun r s' => s' = s ∧ r = SrtO.lexB (k p.1) (k q.1)) (fun _ _ => False) s
  unfold SrtO.lexB
  generalize (k p.1).1 = x at h1 same ⊢
  generalize (k p.1).2 = y at h1 same ⊢
  generalize (k q.1).1 = x' at h2 same ⊢
  generalize (k q.1).2 = y' at h2 same ⊢
  generalize tx p.1 = z at h1 same
  generalize tx q.1 = z' at h2 same
  obtain ⟨a, o, t, u, y0, n, e, ho, hc, hd⟩ := h1
  obtain ⟨a', o', t', u', y0', n', e', ho', hc', hd'⟩ := h2
  rw [e, e']
  refine PySem.W.kat_lt ho hd ho' hd' ?_
  show PySem.W.KatLex prog w A true (decide (3 < 3)) _ [(.int x t, .int x' t'), (.int y u, .int y' u'), (.str z y0, .str z' y0')] 0 s
  refine PySem.W.kat_cons (SeqAt.EqAt.int_int x t x' t' prog w _ _ ?_)
  refine PySem.W.kat_go (fun e1 => ?_) (fun e1 => ?_)
  · have ex : x = x' := by simpa using e1
    refine PySem.W.kat_yes (PySem.W.kat_cons (SeqAt.EqAt.int_int y u y' u' prog w _ _ ?_))
    refine PySem.W.kat_go (fun e2 => ?_) (fun e2 => ?_)
    · have ey : y = y' := by simpa using e2
      have ez : z = z' := same ex ey
      have e3 : (if x = x' then decide (y < y') else decide (x < x')) = false := by
        rw [if_pos ex, ey]
        exact decide_eq_false (Int.lt_irrefl _)
      refine PySem.W.kat_yes (PySem.W.kat_cons (SeqAt.EqAt.str_str z y0 z' y0' prog w _ _ ?_))
      refine PySem.W.kat_go (fun _ => ?_) (fun e4 => ?_)
      · exact PySem.W.kat_yes (PySem.W.kat_nil ⟨rfl, e3.symm⟩)
      · rw [ez] at e4
        simp at e4
    · have e3 : (if x = x' then decide (y < y') else decide (x < x')) = decide (y < y') := if_pos ex
      refine PySem.W.kat_no (PySem.W.kat_one _ _ (PyProof.Rows.lt_int ?_))
      exact (show s = s ∧ decide (y < y') = (if x = x' then decide (y < y') else decide (x < x')) from ⟨rfl, e3.symm⟩)
  · have ex : ¬ x = x' := by simpa using e1
    have e3 : (if x = x' then decide (y < y') else decide (x < x')) = decide (x < x') := if_neg ex
    exact PySem.W.kat_no (oneLt_int ⟨rfl, e3.symm⟩)
theorem firsts3 {h : Heap} : ∀ {vs : List Value}, (∀ v ∈ vs, ∃ x y z, IsTrip h v x y z) → ∃ fs : List Value, PySem.W.KatTups h vs fs ∧ fs.length = vs.length ∧ ∀ f ∈ fs, ∃ x t, f = Value.int x t
  | [], _ => ⟨[], PySem.W.KatTups.nil, rfl, fun _ hm => by simp at hm⟩
  | v :: vs, hp => by
    obtain ⟨fs, h1, h2, h3⟩ := firsts3 (vs := vs) fun v' hm => hp v' (List.mem_cons_of_mem _ hm)
    obtain ⟨x, y, z, a, o, t, u, y0, n, e, ho, hc, hd⟩ := hp v (List.mem_cons_self ..)
    subst e
    refine ⟨.int x t :: fs, PySem.W.KatTups.cons ho hc hd rfl h1, by rw [List.length_cons, List.length_cons, h2], fun f hm => ?_⟩
    rcases List.mem_cons.mp hm with rfl | hm
    · exact ⟨x, t, rfl⟩
    · exact h3 f hm
theorem trips_sortable {a : Addr} {vs : List Value} {k : Value → Int × Int} {tx : Value → Str} (h0 : 0 < vs.length) (hp : ∀ v ∈ vs, IsTrip s.heap v (k v).1 (k v).2 (tx v)) (hd : ∀ v ∈ vs, ∀ u ∈ vs, k v = k u → v = u)
    (ha : ∀ o, s.heap.get? a = some o → o.cls ≠ .type "tuple") : SrtO.SortableO prog w A s a vs fun v u => SrtO.lexB (k v) (k u) := by
  intro h' keep
  have hp' : ∀ v ∈ vs, IsTrip h' v (k v).1 (k v).2 (tx v) := fun v hm => (hp v hm).keeps fun b o e c => keep b o (fun z => by subst z; exact ha o e c) e
  obtain ⟨fs, h1, h2, h3⟩ := firsts3 fun v hm => ⟨_, _, _, hp' v hm⟩
  refine ⟨tuples' true, fun Q E hq => ?_, trip_cmp hp' hd⟩
  refine PySem.W.kat_kind (T := .type "int") h1 (by omega) (fun f hm => ?_) (by rfl) ?_
  · obtain ⟨x, t, rfl⟩ := h3 f hm
    exact PySem.W.Looks.now
  · have e : (Value.type "int" != Value.type "tuple") = true := by first | decide +kernel | rfl | decide
    rw [e]
    exact hq
theorem sorted_trips {l : Addr} {vs : List Value} {k : Value → Int × Int} {tx : Value → Str} {Q : Value → Shared → Prop} (hl : s.heap.IsList l vs.toArray) (hz : vs.length ≤ sizeLine) (hp : ∀ v ∈ vs, IsTrip s.heap v (k v).1 (k v).2 (tx v)) (hd : ∀ v ∈ vs, ∀ u ∈ vs, k v = k u → v = u)
    (h : ∀ (h' : Heap) (d : Addr) (out : List Value), SrtO.Srtd (fun v u => SrtO.lexB (k v) (k u)) out → SrtO.Stb (fun v u => SrtO.lexB (k v) (k u)) out vs → (∀ b o, s.heap.get? b = some o → h'.get? b = some o) → s.heap.objs.size ≤ d → (∃ n, h'.get? d = some (seqObj "list" out.toArray n)) → Q (.ref d) { s with heap := h' }) :
    wpAny (model prog w) A (call (.builtin "sorted") [.ref l]) Q E s := by
  refine SrtO.sorted_ord (SrtO.swo_lex k) hl hz (fun h2 h₁ a ha kk => ?_) fun out hs hb => ?_
  · refine trips_sortable (s := { s with heap := h₁ }) (tx := tx) (by omega) (fun v hm => (hp v hm).keeps fun b o e _ => (kk b o e).2) hd fun o e => ?_
    have e' : some o = some (seqObj "list" vs.toArray 0) := e.symm.trans ha
    cases e'
    intro c
    exact absurd (Value.type.inj c) (by decide)
  · exact h _ _ out hs hb (fun b o e => sortedAll_old e) (Nat.le_succ _) (sortedAll_at s.heap vs out.toArray)
end
/-- sorted(xs), xs a list of triples at the addresses of L, each with its ints and its text; no two with the same ints -/
abbrev Trip := Addr × (Int × Int) × Str
def TripO (p : Trip) : HO := .tup [.int p.2.1.1, .int p.2.1.2, .str p.2.2]
def rSortedTr (K : PySem.W.Frag) : List V → Hp → VK → Prop := fun vs H Q => ∃ (a : Addr) (L : List Trip), vs = [V.ref a] ∧ SqL K H a (L.map fun p => V.ref p.1) ∧ (∀ p ∈ L, H p.1 = some (TripO p)) ∧ (L.map fun p => p.2.1).Nodup ∧
  ∀ (M : List Trip) (d : Addr), M.Perm L → M.Pairwise (fun p q => SrtO.lexB q.2.1 p.2.1 = false) → H d = none → Q (.ref d) (upd H d (.lst (M.map fun p => V.ref p.1)))
theorem vals_refs : ∀ {L : List Trip} {us : List Value}, Vals (L.map fun p => V.ref p.1) us → us = L.map fun p => Value.ref p.1
  | [], _, .nil => rfl
  | p :: L, _, .cons r t => by
    have e := vals_refs t
    cases r
    rw [e]
    rfl
theorem cr_sortedTr {X : Cx} : CallR X (.builtin "sorted") (rSortedTr X.K) := by
  intro pins s σ H vs us Q I r h
  obtain ⟨a, L, rfl, hs, hx, nd, q⟩ := h
  obtain ⟨its, rv, hl, hz⟩ := I.list hs
  obtain ⟨u, rfl, ru⟩ := vals1 r
  obtain rfl : u = Value.ref a := ru
  -- what stands behind an address
  let find : Value → Option Trip := fun v => L.find? fun p => Value.ref p.1 == v
  let k : Value → Int × Int := fun v => ((find v).map (·.2.1)).getD (0, 0)
  let tx : Value → Str := fun v => ((find v).map (·.2.2)).getD Str.empty
  have addr : ∀ p ∈ L, ∀ p' ∈ L, p.1 = p'.1 → p = p' := fun p hp p' hp' e => by
    have h1 := hx p hp
    rw [e, hx p' hp'] at h1
    obtain ⟨p1, ⟨pi, pj⟩, pz⟩ := p
    obtain ⟨p1', ⟨pi', pj'⟩, pz'⟩ := p'
    have e : p1 = p1' := e
    subst e
    unfold TripO at h1
    simp only [Option.some.injEq, HO.tup.injEq, List.cons.injEq, V.int.injEq, V.str.injEq, and_true] at h1
    obtain ⟨a, b, c⟩ := h1
    rw [a, b, c]
  have found : ∀ p ∈ L, find (.ref p.1) = some p := fun p hp => by
    show L.find? _ = _
    cases e : L.find? (fun q => Value.ref q.1 == Value.ref p.1) with
    | none =>
      rw [List.find?_eq_none] at e
      exact absurd (beq_self_eq_true _) (e p hp)
    | some q =>
      have m := List.mem_of_find?_eq_some e
      have y := List.find?_some e
      have y : q.1 = p.1 := by simpa using y
      rw [addr q m p hp y]
  have kof : ∀ p ∈ L, k (.ref p.1) = p.2.1 := fun p hp => by
    show ((find (.ref p.1)).map (·.2.1)).getD (0, 0) = _
    rw [found p hp]
    rfl
  have txof : ∀ p ∈ L, tx (.ref p.1) = p.2.2 := fun p hp => by
    show ((find (.ref p.1)).map (·.2.2)).getD Str.empty = _
    rw [found p hp]
    rfl
  have eits : its = L.map fun p => Value.ref p.1 := vals_refs rv
  have inits : ∀ v ∈ its, ∃ p ∈ L, v = Value.ref p.1 := fun v hv => by
    rw [eits] at hv
    obtain ⟨p, hp, e⟩ := List.mem_map.mp hv
    exact ⟨p, hp, e.symm⟩
  refine sorted_trips (k := k) (tx := tx) hl.isList (by rw [← rv.length]; exact hz) (fun v hv => ?_) (fun v hv u hu e => ?_) fun h' d out h1 h2 kp hd hn => ?_
  · obtain ⟨p, hp, rfl⟩ := inits v hv
    rw [kof p hp, txof p hp]
    obtain ⟨_, its2, r2, o, ho, hc, n, hd⟩ := I.hok _ _ (hx p hp)
    match its2, r2, hd with
    | _, .cons ri (.cons rj (.cons rz .nil)), hd =>
      obtain ⟨t1, rfl⟩ := ri
      obtain ⟨t2, rfl⟩ := rj
      obtain ⟨t3, rfl⟩ := rz
      exact ⟨p.1, o, t1, t2, t3, n, rfl, ho, hc, hd⟩
  · obtain ⟨p, hp, rfl⟩ := inits v hv
    obtain ⟨p', hp', rfl⟩ := inits u hu
    rw [kof p hp, kof p' hp'] at e
    obtain ⟨i, hi⟩ := List.mem_iff_getElem?.mp hp
    obtain ⟨j, hj⟩ := List.mem_iff_getElem?.mp hp'
    obtain ⟨hi1, hi2⟩ := List.getElem?_eq_some_iff.mp hi
    obtain ⟨hj1, hj2⟩ := List.getElem?_eq_some_iff.mp hj
    have nd2 := List.pairwise_iff_getElem.mp nd
    have ij : i = j := by
      rcases Nat.lt_trichotomy i j with c | c | c
      · exact absurd (by rw [List.getElem_map, List.getElem_map, hi2, hj2, e]) (nd2 i j (by simpa using hi1) (by simpa using hj1) c)
      · exact c
      · exact absurd (by rw [List.getElem_map, List.getElem_map, hi2, hj2, e]) (nd2 j i (by simpa using hj1) (by simpa using hi1) c)
    subst ij
    rw [hi] at hj
    cases hj
    rfl
  · obtain ⟨n, hn⟩ := hn
    let g : Value → Trip := fun v => (find v).getD (0, (0, 0), Str.empty)
    have gof : ∀ p ∈ L, g (.ref p.1) = p := fun p hp => by
      show (find (.ref p.1)).getD _ = p
      rw [found p hp]
      rfl
    have pm : (out.map g).Perm L := by
      have y := h2.perm.map g
      rw [eits, List.map_map] at y
      have e : L.map (g ∘ fun p => Value.ref p.1) = L := (List.map_congr_left fun p hp => gof p hp).trans (List.map_id L)
      rw [e] at y
      exact y
    have outin : ∀ v ∈ out, ∃ p ∈ L, v = Value.ref p.1 := fun v hv => inits v (h2.perm.mem_iff.mp hv)
    have eo : out = (out.map g).map fun p => Value.ref p.1 := by
      rw [List.map_map]
      refine (List.map_id out).symm.trans (List.map_congr_left fun v hv => ?_)
      obtain ⟨p, hp, rfl⟩ := outin v hv
      show _ = Value.ref (g (.ref p.1)).1
      rw [gof p hp]
      rfl
    have pw : (out.map g).Pairwise (fun p q => SrtO.lexB q.2.1 p.2.1 = false) := by
      refine List.pairwise_map.mpr (h1.imp_of_mem fun {v u} hv hu e => ?_)
      obtain ⟨p, hp, rfl⟩ := outin v hv
      obtain ⟨p', hp', rfl⟩ := outin u hu
      rw [gof p hp, gof p' hp']
      have e : SrtO.lexB (k (.ref p'.1)) (k (.ref p.1)) = false := e
      rw [kof p hp, kof p' hp'] at e
      exact e
    have vb : Vals ((out.map g).map fun p => V.ref p.1) out := by
      conv => rhs; rw [eo]
      generalize out.map g = M
      induction M with
      | nil => exact .nil
      | cons p M ih => exact .cons rfl ih
    refine ⟨.ref d, upd H d (.lst ((out.map g).map fun p => V.ref p.1)), I.laid (t' := s.toks) kp hd ⟨?_, out, n, vb, hn⟩, rfl, q _ d pm pw (I.hok.fresh hd)⟩
    rw [List.length_map, pm.length_eq]
    rw [List.length_map] at hz
    exact hz
end Pm
namespace Pm
open PySem PySem.Spec PyProof.Rows L2 SX
theorem sub_str_set' : isSubtype (.type "str") (.type "set") = pure false := by rw [isSubtype_type]; kernel_rfl
theorem sub_str_frozen' : isSubtype (.type "str") (.type "frozenset") = pure false := by rw [isSubtype_type]; kernel_rfl
section
variable {prog : Program} {w : World} {A : Around} {E : Value → Shared → Prop} {s : Shared}
theorem call_set_text {x : Str} {t : Tok} {Q : Value → Shared → Prop}
    (hh : A.handled = none) (hb : x.cps.size + 1 < scanBound)
    (h : ∀ (h' : Heap) (tk : Nat), h'.SetOf (PySem.strKind prog w) s.heap.objs.size (fun k' => (metS (fun i => ⟨#[x.cps.getD i 0]⟩) x.cps.size).any (· == k')) (metS (fun i => ⟨#[x.cps.getD i 0]⟩) x.cps.size).length →
      (∀ b o, b < s.heap.objs.size → s.heap.get? b = some o → h'.get? b = some o) → Q (.ref s.heap.objs.size) { s with heap := h', toks := tk }) :
    wpAny (model prog w) A (call (.type "set") [.str x t]) Q E s := by
  obtain ⟨c, tl, hmro⟩ := F.called_set.mro
  have hmade := F.called_set.made
  have hsub := F.called_set.sub
  refine wpAny_call (codeAny_of_tree ?_)
  show wpAny _ _ (callAny (.type "set") _) _ _ _
  refine wpAny_pure ⟨Code.quiet_builtin _ (by decide +kernel), codeAny_builtin F.entry_type_call ?_⟩
  rw [Around.under_plain (weight_type_call_type "set" [.str x t] []) rfl]
  have h1 := F.called_set.notType
  have h2 := F.called_set.canCreate
  have hct := F.typeCall_set_1 (.str x t)
  repeat (any_goals (first | assumption | wp_step))
  refine codeAny_mono (code_set_new_1 (.str x t) (E := E) (Q₁ := fun obj s₁ => ∃ led : Bool, obj = .ref s.heap.objs.size ∧ s₁ = { s with heap := s.heap.push { cls := .type "set", dict := none, data := .set #[] 0 (.fresh 0 0 led) } }) fun led => ⟨led, rfl, rfl⟩) fun r s₁ hr => ?_
  cases r with
  | error e => exact hr
  | ok fl =>
    cases fl with
    | ret obj =>
      obtain ⟨led, rfl, rfl⟩ := hr
      have hS : (s.heap.push { cls := .type "set", dict := none, data := .set #[] 0 (.fresh 0 0 led) }).get? s.heap.objs.size = some { cls := .type "set", dict := none, data := .set #[] 0 (.fresh 0 0 led) } := Heap.get?_push_size _ rfl
      have hT : Shared.TypeIs { s with heap := s.heap.push { cls := .type "set", dict := none, data := .set #[] 0 (.fresh 0 0 led) } } (.ref s.heap.objs.size) "set" := ⟨_, hS, rfl⟩
      have hli := F.called_set.init.lookup
      have hbi := F.called_set.init.bind (.ref s.heap.objs.size)
      repeat (any_goals (first | assumption | wp_step))
      refine codeAny_mono (codeAny_call_builtin (R := wants (fun r s₂ => r = .none ∧ ∃ h' tk, s₂ = { s with heap := h', toks := tk } ∧
          h'.SetOf (PySem.strKind prog w) s.heap.objs.size (fun k' => (metS (fun i => ⟨#[x.cps.getD i 0]⟩) x.cps.size).any (· == k')) (metS (fun i => ⟨#[x.cps.getD i 0]⟩) x.cps.size).length ∧
          (∀ b o, b < s.heap.objs.size → s.heap.get? b = some o → h'.get? b = some o)) E) F.called_set.init.plain F.entry_set_init (check_set_init_1 hT ?_)) fun r₂ s₂ hr₂ => ?_
      · have hsls := sub_str_set'
        have hslf := sub_str_frozen'
        have hne : (Value.type "str" == Value.type "dict") = false := by decide
        unfold Builtin.«set.__init__» noKeywords Builtin.Frozenset.updateFrom
        generalize hPI : pyIter = PI
        wp_walk
        subst hPI
        refine wpAny_pyIter_str fun o St W hst => ?_
        refine wpAny_bind (wpAny_runValue ?_)
        have hh3 : A.in1.in1.in1.handled = none := by simp [hh]
        have hSf : s.heap.objs.size ∉ [(s.heap.push { cls := .type "set", dict := none, data := .set #[] 0 (.fresh 0 0 led) }).objs.size] := by
          rw [Heap.size_push]
          simp only [List.mem_cons, List.not_mem_nil, or_false]
          exact Nat.ne_of_lt (Nat.lt_succ_self _)
        have hval : ∀ (i : Nat) (v : Value), SignAt x i v → ∃ t, v = .str ((fun i => (⟨#[x.cps.getD i 0]⟩ : Str)) i) t := fun i v ⟨c, u, hc, hv⟩ => by
          refine ⟨u, ?_⟩
          rw [hv]
          have e : x.cps.getD i 0 = c := by
            rw [Array.getD_eq_getD_getElem?, hc]
            rfl
          show _ = Value.str (⟨#[x.cps.getD i 0]⟩ : Str) u
          rw [e]
        refine set_loopS ((W _ hh3).toS) s.heap.objs.size hSf (fun i => ⟨#[x.cps.getD i 0]⟩) hval hb (x.cps.size - 0) 0 _ (by omega) (Nat.zero_le _) hst ?hS0 ?hR
        case hS0 =>
          have hget : ((s.heap.push { cls := .type "set", dict := none, data := .set #[] 0 (.fresh 0 0 led) }).push o).get? s.heap.objs.size
              = some { cls := .type "set", dict := none, data := .set #[] 0 (.fresh 0 0 led) } := Heap.get?_push_of_some _ hS
          exact PyProof.Rows.SetOf_congr ((PyProof.Rows.setObjOf_fresh (knd := PySem.strKind prog w) led).setOf hget (by unfold scanBound; omega)) (fun _ => rfl) rfl
        case hR =>
          intro s' hm hS'
          obtain ⟨h', g', d', tk', os'⟩ := s'
          have eg : g' = s.gens := hm.gens
          have ed : d' = s.drawn := hm.drawn
          have eo : os' = s.os := hm.os
          subst eg; subst ed; subst eo
          show wpAny _ _ _ _ _ _
          refine wpAny_pure ?_
          show wpAny _ _ (ret Value.none) _ _ _
          refine wpAny_pure ⟨rfl, h', tk', rfl, hS', fun b o hb e => ?_⟩
          have hb1 : b ≠ s.heap.objs.size := Nat.ne_of_lt hb
          have hb2 : b ≠ (s.heap.push { cls := .type "set", dict := none, data := .set #[] 0 (.fresh 0 0 led) }).objs.size := by
            rw [Heap.size_push]
            exact Nat.ne_of_lt (Nat.lt_succ_of_lt hb)
          exact hm.heap b o (by simp only [List.mem_cons, List.mem_singleton, List.not_mem_nil, or_false, not_or]; exact ⟨hb1, hb2⟩) (Heap.get?_push_of_some _ (Heap.get?_push_of_some _ e))
      · cases r₂ with
        | error e => exact hr₂
        | ok fl₂ =>
          cases fl₂ with
          | ret r =>
            obtain ⟨rfl, h', tk, rfl, hS', hk'⟩ := hr₂
            repeat (any_goals (first | assumption | wp_step))
            exact h _ _ hS' hk'
          | _ => exact hr₂.elim
    | _ => exact hr.elim
end
/-! ### len(set(text)) -/
theorem metS_nodup (val : Nat → Str) : ∀ i, ((metS val i).length = i ↔ ((List.range i).map val).Nodup)
  | 0 => by simp [metS]
  | i + 1 => by
    have mem : ∀ i k, k ∈ metS val i ↔ k ∈ (List.range i).map val := by
      intro i
      induction i with
      | zero => simp [metS]
      | succ i ih =>
        intro k
        have a : (metS val (i + 1)).any (· == k) = ((metS val i).any (· == k) || decide (k = val i)) := by rw [metS_succ, ddS_any]
        rw [List.range_succ, List.map_append, List.mem_append, ← ih k]
        constructor
        · intro m
          have z : (metS val (i + 1)).any (· == k) = true := List.any_eq_true.mpr ⟨k, m, beq_self_eq_true k⟩
          rw [a, Bool.or_eq_true] at z
          rcases z with z | z
          · obtain ⟨y, my, ey⟩ := List.any_eq_true.mp z
            rw [eq_of_beq ey] at my
            exact .inl my
          · exact .inr (by simp [of_decide_eq_true z])
        · intro m
          have z : (metS val (i + 1)).any (· == k) = true := by
            rw [a, Bool.or_eq_true]
            rcases m with m | m
            · exact .inl (List.any_eq_true.mpr ⟨k, m, beq_self_eq_true k⟩)
            · exact .inr (decide_eq_true (by simpa using m))
          obtain ⟨y, my, ey⟩ := List.any_eq_true.mp z
          rw [eq_of_beq ey] at my
          exact my
    have ih := metS_nodup val i
    have le := metS_le val i
    have lt : (metS val (i + 1)).length = if (metS val i).any (· == val i) then (metS val i).length else (metS val i).length + 1 := by rw [metS_succ, ddS_len]
    have anym : (metS val i).any (· == val i) = true ↔ val i ∈ (List.range i).map val := by
      rw [← mem i, List.any_eq_true]
      exact ⟨fun ⟨y, my, ey⟩ => eq_of_beq ey ▸ my, fun m => ⟨_, m, beq_self_eq_true _⟩⟩
    rw [List.range_succ, List.map_append, List.nodup_append, lt]
    constructor
    · intro e
      split at e
      · omega
      · rename_i na
        have nm : val i ∉ (List.range i).map val := fun m => na (anym.mpr m)
        refine ⟨ih.mp (by omega), by simp, fun a ha b hb eab => nm ?_⟩
        have hb : b = val i := by simpa using hb
        rw [← hb, ← eab]
        exact ha
    · rintro ⟨h1, _, h3⟩
      rw [if_neg fun z => h3 _ (anym.mp z) (val i) (by simp) rfl, ih.mpr h1]
/-- as many as the text has signs just if no sign stands there twice -/
theorem metS_text (z : List Nat) : (metS (fun i => ⟨#[(S z).cps.getD i 0]⟩) (S z).cps.size).length ≤ z.length ∧ ((metS (fun i => ⟨#[(S z).cps.getD i 0]⟩) (S z).cps.size).length = z.length ↔ z.Nodup) := by
  have e1 : (S z).cps.size = z.length := by simp
  rw [e1]
  refine ⟨metS_le _ _, (metS_nodup _ _).trans ?_⟩
  have e2 : (List.range z.length).map (fun i => (⟨#[(S z).cps.getD i 0]⟩ : Str)) = z.map fun c => S [c] := by
    refine List.ext_getElem (by simp) fun i h1 h2 => ?_
    have hi : i < z.length := by simpa using h1
    rw [List.getElem_map, List.getElem_map, List.getElem_range]
    show S [(S z).cps.getD i 0] = S [z[i]]
    rw [Array.getD_eq_getD_getElem?]
    simp [hi]
  rw [e2]
  constructor
  · intro h
    exact List.Pairwise.of_map (f := fun c => S [c]) (fun a b ne e => ne (by rw [e])) h
  · intro h
    exact List.pairwise_map.mpr (h.imp fun ne e => ne (by have := S_inj e; simpa using this))
def tLenSetS (ta : TE) : TE := fun σ H Q => ta σ H fun x H1 => ∃ z : List Nat, x = .str (S z) ∧ z.length ≤ 1000 ∧ ∀ n : Nat, n ≤ z.length → (n = z.length ↔ z.Nodup) → Q (.int (n : Int)) H1
theorem pe_lenSetS {X : Cx} {a : Expr} {ta : TE} {p p2 q pos : Pos} (hg : Gl X "len") (hm : X.mg "len" = none) (hg2 : Gl X "set") (hm2 : X.mg "set" = none) (ha : PE X a ta) (hc : X.calm = true := by rfl)
    (na : starEach [a] X.env = (false, eval a X.env) :: starEach [] X.env := by rfl) : PE X (.Call (.Name "len" p) [.Call (.Name "set" p2) [a] [] q] [] pos) (tLenSetS ta) := by
  refine ⟨fun pins s σ H Q I h => ?_⟩
  refine Call_ (ld_blt I hg hm boot_len ?_)
  refine PyProof.Rows.callWith_builtin1 (PyProof.Rows.args_cons ?_ rfl) rfl rfl
  refine Call_ (ld_blt I hg2 hm2 boot_set ?_)
  refine PyProof.Rows.callWith_type1 (PyProof.Rows.args_cons (thn (ha.run pins s σ H _ I h) fun v s1 ⟨x, H1, I1, r1, q1⟩ => PyProof.Rows.args_nil ?_) na) na rfl
  obtain ⟨z, rfl, few, q1⟩ := q1
  obtain ⟨t, rfl⟩ := r1
  have e1 : (S z).cps.size = z.length := by simp
  have m := metS_text z
  refine call_set_text (I1.ok.hd hc) (by rw [e1]; unfold scanBound; omega) fun h' tk hS hk => ?_
  refine PyProof.Rows.args_nil ?_
  generalize (metS (fun i => ⟨#[(S z).cps.getD i 0]⟩) (S z).cps.size) = L at hS m
  obtain ⟨o, es, ep, t, ho, hex, hd, _, _, _, hf, hn⟩ := hS
  have I2 : L2.Inv X pins σ H1 { s1 with heap := h', toks := tk } := I1.kept fun b o e => hk b o (Heap.lt_size e) e
  exact call_len_set ho hex hd hf (by rw [hn] <;> omega) ⟨.int L.length, H1, I2.tok _, ⟨_, by rw [hn]⟩, q1 _ m.1 m.2⟩
end Pm
namespace Pm
open PySem PySem.Spec PyProof.Rows L2 SX
/-! ### which rows are good -/
def stoneB : List Nat → Bool
  | [c] => decide (Let c)
  | _ => false
def goodB : List Nat → Bool
  | [c] => decide (Good c)
  | _ => false
def okB (w : Int) (z : List Nat) : Bool := (decide (1 ≤ z.length) && decide (z.length ≤ 8) && decide ((z.length : Int) = w)) && z.all fun c => decide (Good c)
def lineOf : Rows → Int
  | [] => 1
  | r :: R => match ((r :: R).take 8).findIdx? (fun z => !okB (r.length : Int) z) with
    | some i => (i : Int) + 1
    | none => if 8 < (r :: R).length then 9 else 0
structure PTxt (K : PySem.W.Frag) (mg : Str → Option Value) (C : Addr) : Prop where
  gC : mg "Picture" = some (.ref C)
  cr : ∃ mc, ClX.CRead K C mc ∧ (∃ u, ClX.CVal K C mc "HOLE" (.str ".") u) ∧ ∃ u, ClX.CVal K C mc "EDGE" (.str "#") u
  stones : ∃ u, mg "STONES" = some u ∧ RelV (.str alphaS) u
  most : ∃ u, mg "MOST" = some u ∧ RelV (.int 8) u
  all : mg "all" = none
  enum : mg "enumerate" = none
theorem len_one {z : List Nat} (h : z.length = 1) : ∃ c, z = [c] := match z, h with | [c], _ => ⟨c, rfl⟩
theorem stoneB_ne {z : List Nat} (h : z.length ≠ 1) : stoneB z = false := by
  match z, h with
  | [], _ => rfl
  | [_], h => exact absurd rfl h
  | _ :: _ :: _, _ => rfl
theorem goodB_ne {z : List Nat} (h : z.length ≠ 1) : goodB z = false := by
  match z, h with
  | [], _ => rfl
  | [_], h => exact absurd rfl h
  | _ :: _ :: _, _ => rfl
section
variable {P : Program} {w : World} {K : PySem.W.Frag} {mg : Str → Option Value} {base : Heap} {C : Addr}
def spStone : Sp := fun vs H Q _ => ∃ z, vs = [.str (S z)] ∧ z.length ≤ 1000 ∧ Q (.bl (stoneB z)) H
theorem scStone : FnScope ["sign"] ["sign"] (defScope gIsStone) := ⟨rfl, rfl, rfl, by decide +kernel, rfl, by decide +kernel, by decide +kernel⟩
theorem ok_stone {f : Addr} {fd : FuncData} (F : Fun K "is_stone" "is_stone" gIsStone f fd) (L : LTxt K mg) (T : PTxt K mg C) : FnOk P w K mg base CX0 1 f fd ["sign"] spStone := by
  refine F.ok scStone (fun vs H Q E h => ?_) (fun cdv A outer s H vs Q E hr h => ?_)
  · obtain ⟨z, rfl, _⟩ := h
    rfl
  · obtain ⟨z, rfl, few, k⟩ := h
    obtain ⟨u, hu, ru⟩ := T.stones
    refine ⟨_, pss_one (ps_ret (pe_and (pe_cmpR op_eq (pe_callB call_len_str (by rfl) L.len PySem.boot_len (pa_cons (pv 0) pa_nil)) pe_int (nomark _)) (pe_one (pe_cmpR op_in_sign (pv 0) (pe_glob (by rfl) hu ru) (by rfl))))), ?_⟩
    refine ⟨_, rfl, _, rfl, by rw [len_S]; exact small_line few, rfl, _, rfl, ite2 (fun e => ?_) (fun e => ?_)⟩
    · have e1 : z.length = 1 := by
        have := of_decide_eq_true e
        simp only [V.int.injEq] at this
        rw [len_S] at this
        omega
      obtain ⟨c, rfl⟩ := len_one e1
      refine ⟨_, rfl, c, _, rfl, rfl, ?_⟩
      have y : decide (c ∈ alphaS.cps.toList) = stoneB [c] := decide_eq_decide.mpr (alpha_mem c)
      rw [y]
      exact k
    · have e1 : z.length ≠ 1 := fun y => e (decide_eq_true (by rw [len_S, y]; rfl))
      rw [stoneB_ne e1] at k
      exact k
def spSoh : Sp := fun vs H Q _ => ∃ z, vs = [.str (S z)] ∧ z.length ≤ 1000 ∧ Q (.bl (goodB z)) H
theorem scSoh : FnScope ["sign"] ["sign"] (defScope gIsStoneOrHole) := ⟨rfl, rfl, rfl, by decide +kernel, rfl, by decide +kernel, by decide +kernel⟩
theorem ok_soh {f g : Addr} {fd gd : FuncData} (F : Fun K "is_stone_or_hole" "is_stone_or_hole" gIsStoneOrHole f fd) (G : Cl P w K mg base CX0 1 "is_stone" ["sign"] spStone g gd) (T : PTxt K mg C) : FnOk P w K mg base CX0 2 f fd ["sign"] spSoh := by
  refine F.ok scSoh (fun vs H Q E h => ?_) (fun cdv A outer s H vs Q E hr h => ?_)
  · obtain ⟨z, rfl, _⟩ := h
    rfl
  · obtain ⟨z, rfl, few, k⟩ := h
    obtain ⟨mc, cr, ⟨u, hu⟩, _⟩ := T.cr
    refine ⟨_, pss_one (ps_ret (pe_or (pe_cmpR op_eq (pv 0) (ClX.pe_cval (pe_glob (v := .ref C) (by rfl) T.gC rfl)) (nomark _)) (pe_one (pe_call G.ok hr (by rfl) G.gl G.kp G.bd .nil pass0 (pa_cons (pv 0) pa_nil))))), ?_⟩
    refine ⟨_, rfl, C, mc, _, u, rfl, cr, hu, rfl, _, rfl, ite2 (fun e => ?_) (fun e => ⟨_, rfl, z, rfl, few, ?_⟩)⟩
    · have e1 : z = [46] := by
        have := of_decide_eq_true e
        simp only [V.str.injEq] at this
        rw [dot_S] at this
        exact S_inj this
      subst e1
      exact k
    · have e1 : z ≠ [46] := fun y => e (decide_eq_true (by rw [y, dot_S]))
      have e2 : stoneB z = goodB z := by
        by_cases l1 : z.length = 1
        · obtain ⟨c, rfl⟩ := len_one l1
          refine decide_eq_decide.mpr ⟨.inr, fun y => ?_⟩
          rcases y with y | y
          · exact absurd (by rw [y]) e1
          · exact y
        · rw [stoneB_ne l1, goodB_ne l1]
      rw [e2]
      exact k
/-! ### a bad row -/
def spBad : Sp := fun vs H Q _ => ∃ z w, vs = [.str (S z), .int w] ∧ z.length ≤ 1000 ∧ ∀ H', Same H H' → Q (.bl (!okB w z)) H'
abbrev nBad : List Str := ["row", "width", "sign"]
theorem scBad : FnScope nBad ["row", "width"] (defScope gIsBadRow) := ⟨rfl, rfl, rfl, by decide +kernel, rfl, by decide +kernel, by decide +kernel⟩
theorem all_good (z : List Nat) : (z.map fun c => goodB [c]).all id = z.all fun c => decide (Good c) := by
  rw [List.all_map]
  rfl
theorem ok_bad {f g : Addr} {fd gd : FuncData} (F : Fun K "_is_bad_row" "_is_bad_row" gIsBadRow f fd) (G : Cl P w K mg base CX0 2 "is_stone_or_hole" ["sign"] spSoh g gd) (L : LTxt K mg) (T : PTxt K mg C) : FnOk P w K mg base CX0 3 f fd ["row", "width"] spBad := by
  refine F.ok scBad (fun vs H Q E h => ?_) (fun cdv A outer s H vs Q E hr h => ?_)
  · obtain ⟨z, w, rfl, _⟩ := h
    rfl
  · obtain ⟨z, w, rfl, few, k⟩ := h
    obtain ⟨um, hm, rm⟩ := T.most
    refine ⟨_, pss_cons (ps_if (PW.pt (pw_or (pt_not (pt_chain op_le op_le pe_int (pe_callB call_len_str (by rfl) L.len PySem.boot_len (pa_cons (pv 0) pa_nil)) (pe_glob (by rfl) hm rm))) (pw_or1 (pt_cmpR op_ne (pe_callB call_len_str (by rfl) L.len PySem.boot_len (pa_cons (pv 0) pa_nil)) (pv 1) (nomark _))))) (pss_one (ps_ret pe_bl)) pss_nil)
      (pss_one (ps_ret (pe_not (pe_callB (cr_all rfl) (by rfl) T.all (by decide +kernel) (pa_cons (pe_lc (own := [("sign", 2)]) (g := gName 2) (tt := tYes) rfl scBad.nd (pi_str (pv 0)) (blkOk_by (N := nBad) (sc := defScope gIsBadRow) (by decide +kernel)) (fun _ _ _ _ _ => pg_name (i := 2) scBad.nd rfl (.inl rfl)) (fun _ _ _ _ _ => pts_nil)
        (fun _ _ _ _ _ => pe_call G.ok hr (by rfl) G.gl G.kp G.bd .nil pass0 (pa_cons (pv 2) pa_nil))) pa_nil))))), ?_⟩
    have line : (S z).length ≤ sizeLine := by rw [len_S]; exact small_line few
    have body : okB w z = (z.all fun c => decide (Good c)) → ∀ H1, Same H H1 → Q (.bl (!(z.all fun c => decide (Good c)))) H1 := fun e H1 s1 => by
      rw [← e]
      exact k H1 s1
    -- what stands behind the test, where it does not hold
    have go : (1 ≤ z.length ∧ z.length ≤ 8 ∧ (z.length : Int) = w) → okB w z = (z.all fun c => decide (Good c)) := fun ⟨a, b, c⟩ => by
      unfold okB
      rw [decide_eq_true a, decide_eq_true b, decide_eq_true c]
      rfl
    have no : ¬ (1 ≤ z.length ∧ z.length ≤ 8 ∧ (z.length : Int) = w) → okB w z = false := fun y => by
      unfold okB
      by_cases a : 1 ≤ z.length
      · by_cases b : z.length ≤ 8
        · by_cases c : (z.length : Int) = w
          · exact absurd ⟨a, b, c⟩ y
          · rw [decide_eq_false c, Bool.and_false]
            rfl
        · rw [decide_eq_false b, Bool.and_false]
          rfl
      · rw [decide_eq_false a]
        rfl
    have yes : ¬ (1 ≤ z.length ∧ z.length ≤ 8 ∧ (z.length : Int) = w) → Q (.bl true) H := fun y => by
      have q := k H (Same.refl H)
      rw [no y] at q
      exact q
    refine ⟨_, rfl, _, rfl, line, _, _, rfl, rfl, _, rfl, ite2 (fun a => ?_) (fun a => ?_)⟩
    · have a1 : 1 ≤ z.length := by
        have y := of_decide_eq_true a
        rw [len_S] at y
        omega
      refine ⟨_, _, rfl, rfl, _, rfl, ?_⟩
      by_cases b : z.length ≤ 8
      · refine iteFe (by rw [len_S]; simp; omega) ⟨_, rfl, _, rfl, line, _, rfl, rfl, _, rfl, ?_⟩
        by_cases c : (z.length : Int) = w
        · refine iteFe (by rw [len_S]; simp [c]) ⟨_, rfl, _, rfl, fun D nD => lc_it walk_str (fun i G => Same H G ∧ G D = some (.lst (((z.take i).map fun c => goodB [c]).map V.bl))) ⟨same_upd nD, upd_same⟩ (fun _ _ _ _ => trivial) ?_ ?_⟩
          · rintro i x G G' hi ⟨sG, hD⟩ ⟨rfl, d, gd, rfl⟩
            have gd2 : z[i]? = some d := by
              have y : z.toArray[i]? = some d := gd
              rwa [List.getElem?_toArray] at y
            refine ⟨rfl, tyes (iteT ⟨_, rfl, [d], rfl, (show 1 ≤ 1000 by decide), _, hD, ?_, ?_, ?_⟩)⟩
            · rw [List.length_map, List.length_map, List.length_take]
              exact small1000 (by omega)
            · exact fun b o e => by
                rw [upd_ne (ne_of_none e nD)]
                exact sG b o e
            · rw [upd_same, List.take_add_one, gd2]
              simp
          · rintro G ⟨sG, hD⟩
            have e1 : (S z).cps.size = z.length := by simp
            rw [e1, List.take_of_length_le (Nat.le_refl _)] at hD
            refine ⟨D, _, rfl, SqL.of hD, _, rfl, ?_⟩
            rw [all_good]
            exact body (go ⟨a1, b, c⟩) G sG
        · exact iteTe (by rw [len_S]; simp [c]) (yes fun y => c y.2.2)
      · exact iteTe (by rw [len_S]; simp; omega) (iteT (yes fun y => b y.2.1))
    · refine ⟨_, rfl, iteT (iteT (yes fun y => a (decide_eq_true ?_)))⟩
      rw [len_S]
      have := y.1
      omega
/-! ### the first bad line -/
def spLine : Sp := fun vs H Q _ => ∃ a R, vs = [.ref a] ∧ H a = some (.lst (rowsV R)) ∧ R.length ≤ 1000 ∧ (∀ r ∈ R, r.length ≤ 1000) ∧ ∀ H', Same H H' → Q (.int (lineOf R)) H'
theorem scLine : FnScope ["rows", "line", "row"] ["rows"] (defScope gBadLine) := ⟨rfl, rfl, rfl, by decide +kernel, rfl, by decide +kernel, by decide +kernel⟩
theorem walkS {K : PySem.W.Frag} {a : Addr} {xs : List V} : Walk (ItS K a) xs.length (fun H => SqL K H a xs) (fun i H v H' => ∃ T x, v = .ref T ∧ H T = none ∧ H' = upd H T (.tup [.int ((i : Int) + 1), x]) ∧ xs[i]? = some x) :=
  ⟨fun i H hi h => ⟨xs, xs[i], h, List.getElem?_eq_getElem hi⟩, fun H h => ⟨xs, h, rfl⟩, fun i H v H' _ h ⟨T, x, a, b, c, d⟩ => ⟨T, x, a, b, c, d xs h⟩⟩
theorem row0 (r : List Nat) (R : Rows) : atI (rowsV (r :: R)) 0 = some (.str (S r)) := atI_nat (j := 0) (by rfl)
theorem rowsV_at {R : Rows} {i : Nat} {x : V} (h : (rowsV R)[i]? = some x) : ∃ r, R[i]? = some r ∧ x = .str (S r) := by
  unfold rowsV at h
  rw [List.getElem?_map] at h
  cases e : R[i]? with
  | none =>
    rw [e] at h
    cases h
  | some r =>
    rw [e] at h
    cases h
    exact ⟨r, rfl, rfl⟩
theorem lineOf_cons {r : List Nat} {R : Rows} : lineOf (r :: R) = match ((r :: R).take 8).findIdx? (fun z => !okB (r.length : Int) z) with
    | some i => (i : Int) + 1
    | none => if 8 < (r :: R).length then 9 else 0 := rfl
theorem find_some {p : List Nat → Bool} : ∀ {l : Rows} {i : Nat} {z : List Nat}, l[i]? = some z → p z = true → (∀ j y, j < i → l[j]? = some y → p y = false) → l.findIdx? p = some i
  | [], i, z, h, _, _ => by simp at h
  | y :: l, 0, z, h, hz, _ => by
    have e : y = z := by simpa using h
    subst e
    rw [List.findIdx?_cons, hz]
    rfl
  | y :: l, i + 1, z, h, hz, hp => by
    have e := find_some (l := l) (i := i) (z := z) (by simpa using h) hz fun j x hj hx => hp (j + 1) x (by omega) (by simpa using hx)
    rw [List.findIdx?_cons, hp 0 y (by omega) rfl, e]
    rfl
theorem find_none {p : List Nat → Bool} {l : Rows} (h : ∀ (j : Nat) (y : List Nat), l[j]? = some y → p y = false) : l.findIdx? p = none := by
  rw [List.findIdx?_eq_none_iff]
  intro x hx
  obtain ⟨j, hj⟩ := List.mem_iff_getElem?.mp hx
  exact h j x hj
theorem ok_line {f g : Addr} {fd gd : FuncData} (F : Fun K "_bad_line" "_bad_line" gBadLine f fd) (G : Cl P w K mg base CX0 3 "_is_bad_row" ["row", "width"] spBad g gd) (L : LTxt K mg) (T : PTxt K mg C) : FnOk P w K mg base CX0 4 f fd ["rows"] spLine := by
  refine F.ok scLine (fun vs H Q E h => ?_) (fun cdv A outer s H vs Q E hr h => ?_)
  · obtain ⟨a, R, rfl, _⟩ := h
    rfl
  · obtain ⟨a, R, rfl, ha, few, each, k⟩ := h
    obtain ⟨um, hm, rm⟩ := T.most
    refine ⟨_, pss_cons (ps_if (pt_not (pt_truth (pv 0) (fun _ => rfl))) (pss_one (ps_ret pe_int)) pss_nil)
      (pss_cons (ps_for PassesOwn.never rfl (pi_enumS (by rfl) T.enum (pa_cons (pe_slice sl_list (pv 0) po_none (po_some (pe_glob (by rfl) hm rm))) pa_nil) (pk_cons pe_int pk_nil)) (pg_tup rfl (pgs_cons (pg_name (i := 1) scLine.nd rfl (.inl rfl)) (pgs_cons (pg_name (i := 2) scLine.nd rfl (.inl rfl)) pgs_nil)))
        (pss_one (ps_if (pt_val (pe_call G.ok hr (by rfl) G.gl G.kp G.bd .nil pass0 (pa_cons (pv 2) (pa_cons (pe_callB call_len_str (by rfl) L.len PySem.boot_len (pa_cons (pe_ix ix_list (pv 0) pe_int (fun _ _ => rfl)) pa_nil)) pa_nil)))) (pss_one (ps_ret (pv 1))) pss_nil)))
      (pss_one (ps_ret (pe_ifExp (pt_cmpR op_gt (pe_callB call_len_seq (by rfl) L.len PySem.boot_len (pa_cons (pv 0) pa_nil)) (pe_glob (by rfl) hm rm) (nomark _)) (pe_op op_add (pe_glob (by rfl) hm rm) pe_int) pe_int)))), ?_⟩
    match R, ha, few, each, k with
    | [], ha, few, each, k =>
      exact ⟨_, rfl, _, .inl ⟨_, SqL.of ha, rfl⟩, iteT (k H (Same.refl H))⟩
    | r :: R, ha, few, each, k =>
      refine ⟨_, rfl, _, .inl ⟨_, SqL.of ha, rfl⟩, iteF ?_⟩
      refine ⟨_, rfl, _, rfl, a, _, rfl, SqL.of ha, fun p np => ?_⟩
      have e8 : cutV (rowsV (r :: R)) none (some 8) = rowsV ((r :: R).take 8) := by
        rw [show (some 8 : Option Int) = some ((8 : Nat) : Int) from rfl, cut_to]
        exact (List.map_take).symm
      rw [e8]
      have s1 := same_upd (o := .lst (rowsV ((r :: R).take 8))) np
      have hp : (upd H p (.lst (rowsV ((r :: R).take 8)))) p = some (.lst (rowsV ((r :: R).take 8))) := upd_same
      generalize upd H p (.lst (rowsV ((r :: R).take 8))) = H1 at s1 hp
      refine ⟨p, _, rfl, rfl, SqL.of hp, for_it walkS (fun i σ G => ∃ y z, σ = [some (.ref a), y, z] ∧ Same H1 G ∧ ∀ j x, j < i → ((r :: R).take 8)[j]? = some x → okB (r.length : Int) x = true) ⟨_, _, rfl, Same.refl _, fun j x hj => absurd hj (by omega)⟩ (fun i σ G _ ⟨_, _, _, sG, _⟩ => SqL.of (sG _ _ hp)) ?_ ?_⟩
      · rintro i x σ G G' hi ⟨y, z, rfl, sG, ok⟩ ⟨T1, x1, rfl, nT, rfl, gx⟩
        obtain ⟨q, gq, rfl⟩ := rowsV_at gx
        have s2 := sG.trans (same_upd (o := .tup [.int ((i : Int) + 1), .str (S q)]) nT)
        refine ⟨T1, _, rfl, SqT.of upd_same, rfl, _, _, rfl, _, _, rfl, rfl, ?_⟩
        have mq : q ∈ r :: R := List.mem_of_mem_take (List.mem_of_getElem? gq)
        refine ⟨_, rfl, _, rfl, a, _, 0, _, rfl, rfl, SqL.of (s2 _ _ (s1 _ _ ha)), row0 r R, _, rfl, by rw [len_S]; exact small_line (each r List.mem_cons_self), q, _, rfl, each q mq, fun G2 sg => ⟨_, rfl, ?_⟩⟩
        rw [len_S]
        by_cases b : okB (r.length : Int) q = true
        · rw [b]
          refine iteF ⟨_, _, rfl, s2.trans sg, fun j x hj hx => ?_⟩
          rcases Nat.lt_succ_iff_lt_or_eq.mp hj with z | z
          · exact ok j x z hx
          · rw [z, gq] at hx
            cases hx
            exact b
        · have b : okB (r.length : Int) q = false := by simpa using b
          rw [b]
          refine iteT ⟨_, rfl, ?_⟩
          have e : lineOf (r :: R) = (i : Int) + 1 := by
            rw [lineOf_cons, find_some gq (by rw [b]; rfl) fun j y hj hy => by rw [ok j y hj hy]; rfl]
          have q2 := k G2 (s1.trans (s2.trans sg))
          rw [e] at q2
          exact q2
      · rintro σ G ⟨y, z, rfl, sG, ok⟩
        have e : lineOf (r :: R) = if 8 < (r :: R).length then 9 else 0 := by
          rw [lineOf_cons, find_none fun j y hy => by
            rw [ok j y ?_ hy]
            · rfl
            · rw [rowsV_len]
              rcases List.getElem?_eq_some_iff.mp hy with ⟨h1, _⟩
              exact h1]
        have q2 := k G (s1.trans sG)
        rw [e] at q2
        refine ⟨_, rfl, a, _, rfl, .inl (SqL.of (sG _ _ (s1 _ _ ha))), _, _, rfl, rfl, _, rfl, ?_⟩
        rw [rowsV_len]
        by_cases b : 8 < (r :: R).length
        · rw [if_pos b] at q2
          exact iteTe (decide_eq_true (by omega)) ⟨_, _, rfl, rfl, q2⟩
        · rw [if_neg b] at q2
          exact iteFe (decide_eq_false (by omega)) q2
end
end Pm
namespace Pm
open PySem PySem.Spec PyProof.Rows L2 SX
/-! ### errors that are raised with fields of their own -/
/-- an error class at C that may be raised: its __init__ at f keeps sp -/
structure EMk (P : Program) (w : World) (K : PySem.W.Frag) (mg : Str → Option Value) (base : Heap) (C : Addr) (name : Str) (ps : List Str) (sp : Sp) (f : Addr) (fd : FuncData) : Prop where
  T : OexC K C
  at_ : PySem.W.findIn K (.ref C) "__init__" = some (some (.ref f))
  ty : PySem.W.typeIn K (.ref f) = some (.type "function")
  ok : FnOk P w K mg base CX0 1 f fd ps sp
  bd : Binds K fd ps []
  gl : mg name = some (.ref C)
def spE1 (C : Addr) (n : Str) : Sp := fun vs H Q _ => ∃ a v, vs = [.ref a, v] ∧ H a = some (exo a C none) ∧ ∀ H' d, H' a = some (exo a C (some d)) → H' d = some (exd d [(n, v)]) → H d = none → d ≠ a → SameBut a H H' → Q .non H'
def spE2 (C : Addr) : Sp := fun vs H Q _ => ∃ a v u, vs = [.ref a, v, u] ∧ H a = some (exo a C none) ∧ ∀ H' d, H' a = some (exo a C (some d)) → H' d = some (exd d [("y", u), ("x", v)]) → H d = none → d ≠ a → SameBut a H H' → Q .non H'
/-- what was there stands when the error is on its way -/
theorem on_way {H H2 : Hp} {a d : Addr} {o : HO} {fs : List (Str × V)} (n : H a = none) (nd : (upd H a o) d = none) (ne : d ≠ a) (s : SameBut a (upd H a o) H2) : Same H (upd (del H2 a) d (.xd fs)) := fun b u e => by
  have nba : b ≠ a := ne_of_none e n
  have nbd : b ≠ d := fun z => by
    rw [z] at e
    rw [upd_ne ne, e] at nd
    cases nd
  rw [upd_ne nbd, del_ne nba]
  exact s b u nba (by rw [upd_ne nba]; exact e)
theorem passF {X : Cx} : Passes (L2.CX X.prog X.w) X E0 := fun _ _ _ _ _ _ _ c => by
  obtain ⟨_, _, _, _, _, _, _, _, _, _, _, _, z⟩ := c
  exact z.elim
/-- an error of the class at C with the fields fs is let out -/
def Lets (E : XK) (C : Addr) (fs : List (Str × V)) (H : Hp) : Prop := ∀ d H', H d = none → H' d = some (.xd fs) → Same H H' → E (.ref C) (some d) H'
/-! ### the error that a suite holds -/
structure ErrC (K : PySem.W.Frag) (D : Addr) : Prop where
  cl : (PySem.W.clsIn K D).isSome = true
  hg : PySem.W.findIn K (.ref D) "__getattribute__" = some (some (.builtin "BaseException.__getattribute__"))
  hk : PySem.W.findIn K (.ref D) "__getattr__" = some none
  hs : PySem.W.subIn K (.ref D) (.type "BaseException") = some true
  ha : PySem.W.findIn K (.ref D) "__class__" = some (some (.builtin "object.__class__"))
  hn : PySem.W.specialIn K (.builtin "object.__class__") "__get__" = some (some (.builtin "getset_descriptor.__get__"))
  ht : PySem.W.takesIn K (.builtin "object.__class__") = some true
  hm : PySem.W.mroIn K D (.type "object") = some true
  hd : PySem.W.hasDictIn K D = true
theorem ErrC.xf {K : PySem.W.Frag} {D : Addr} (C : ErrC K D) : XfC K D := ⟨C.hg, C.hk, C.hs, C.hd⟩
/-- isinstance(e, c), e the error that the suite holds at a, its class cls, its dict d -/
def rIsX (K : PySem.W.Frag) (a : Addr) (cls : Value) (d : Option Addr) : List V → Hp → VK → Prop := fun xs H Q => ∃ (D dd : Addr) (fs : List (Str × V)) (c : V) (cv : Value) (b : Bool),
  xs = [.ref a, c] ∧ cls = .ref D ∧ d = some dd ∧ ErrC K D ∧ H dd = some (.xd fs) ∧ (∀ u, RelV c u → u = cv) ∧ PySem.W.kitOne K (.ref D) cv = some b ∧ Q (.bl b) H
theorem call_isX {X : Cx} {a : Addr} {cls : Value} {d : Option Addr} {oe : Obj} {pn : List (Addr × Obj)} (hz : Zc cls d oe) (hf : ∃ vs, oe.data = .fields vs) : CallR (X.suite a ((a, oe) :: pn)) (.builtin "isinstance") (rIsX X.K a cls d) := by
  intro pins s σ H xs us Q I r h
  obtain ⟨D, dd, fs, c, cv, b, rfl, rfl, rfl, C, hdd, hcv, e, q⟩ := h
  match r with
  | .cons rx (.cons rt .nil) =>
    cases rx
    cases hcv _ rt
    obtain ⟨at_, _⟩ := I.pin (a, oe) (List.mem_append_left _ List.mem_cons_self)
    obtain ⟨vs, hd⟩ := hf
    have own : ObjOk X.prog X.w H s.heap dd (.xd fs) := I.hok dd _ hdd
    obtain ⟨mA, hns, _⟩ := own
    obtain ⟨od, ho, _⟩ := lookIn_ns hns
    have J : PySem.W.InstAt s.heap a oe D (some od) := ⟨at_, hz.1, by unfold PySem.W.notCls; rw [hd] <;> rfl, by rw [hz.2]; exact ho⟩
    exact PySem.W.kia_one (PySem.W.kitx_exc C.cl C.hg C.hk C.hs C.ha C.hn C.ht C.hm) I.kIn J e (fun z => nomatch z) fun tk => ⟨.bl b, H, I.kept (t' := tk) fun _ _ z => z, rfl, q⟩
/-- e.f of that error, whatever its class -/
def tErrX (K : PySem.W.Frag) (a : Addr) (cls : Value) (d : Option Addr) (f : Str) (te : TE) : TE := fun σ H Q => te σ H fun x H1 => ∃ (D dd : Addr) (fs : List (Str × V)) (v : V), x = .ref a ∧ cls = .ref D ∧ d = some dd ∧ ErrC K D ∧ PySem.W.findIn K (.ref D) f = some none ∧ H1 dd = some (.xd fs) ∧ fs.lookup f = some v ∧ Q v H1
theorem pe_errX {X : Cx} {a : Addr} {oe : Obj} {cls : Value} {d : Option Addr} {pn : List (Addr × Obj)} {e : Expr} {te : TE} {pos : Pos} {n : Str} (hz : Zc cls d oe) (hf : ∃ vs, oe.data = .fields vs) (he : PE (X.suite a ((a, oe) :: pn)) e te)
    (hb : attributeBase e n X.env (eval e X.env) = eval e X.env := by rfl) : PE (X.suite a ((a, oe) :: pn)) (.Attribute e n pos) (tErrX X.K a cls d n te) := by
  refine ⟨fun pins s σ H Q I h => attr_of hb (thn (he.run pins s σ H _ I h) fun u s1 ⟨x, H1, I1, rx, D, dd, fs, v, ex, ec, ed, C, hno, hdd, l, q⟩ => ?_)⟩
  subst ex ec ed
  obtain rfl : u = Value.ref a := rx
  obtain ⟨at_, _⟩ := I1.pin (a, oe) (List.mem_append_left _ List.mem_cons_self)
  obtain ⟨vs, hd⟩ := hf
  have own : ObjOk X.prog X.w H1 s1.heap dd (.xd fs) := I1.hok dd _ hdd
  obtain ⟨mA, hns, rel⟩ := own
  obtain ⟨od, ho, hl⟩ := lookIn_ns hns
  have rl := rel n
  rw [l] at rl
  obtain ⟨u, hu, ru⟩ := RelO.some_of (v := v) (o := mA n) rl
  have J : PySem.W.InstAt s1.heap a oe D (some od) := ⟨at_, hz.1, by unfold PySem.W.notCls; rw [hd] <;> rfl, by rw [hz.2]; exact ho⟩
  exact HandSPX.exc_get I1.kIn J C.hg C.hk C.hs (PySem.W.findObj_own C.hd hno rfl (by rw [hl, hu])) (handed_of ru) ⟨v, H1, I1.tok _, ru, q⟩
end Pm
namespace Pm
open PySem PySem.Spec PyProof.Rows L2 SX
section
variable {P : Program} {w : World} {K : PySem.W.Frag} {mg : Str → Option Value} {base : Heap} {C CI : Addr}
theorem scEInvalidPicture : FnScope ["self", "line"] ["self", "line"] (defScope cInvalidPictureInit) := ⟨rfl, rfl, rfl, by decide +kernel, rfl, by decide +kernel, by decide +kernel⟩
theorem okEInvalidPicture {f C : Addr} {fd : FuncData} (F : Fun K "__init__" "InvalidPicture.__init__" cInvalidPictureInit f fd) (T : OexC K C) (nx : PySem.W.findIn K (.ref C) "line" = some none) : FnOk P w K mg base CX0 1 f fd ["self", "line"] (spE1 C "line") := by
  refine F.ok scEInvalidPicture (fun vs H Q E h => ?_) (fun cdv A outer s H vs Q E hr h => ?_)
  · obtain ⟨a, v, rfl, _⟩ := h
    rfl
  · obtain ⟨a, v, rfl, ha, k⟩ := h
    refine ⟨_, pss_one (ps_ost (pv 0) (pv 1)), ?_⟩
    refine ⟨_, rfl, _, rfl, a, C, rfl, T, nx, .inl ⟨ha, fun dx nd ne => ?_⟩⟩
    refine k _ dx upd_same (by rw [upd_ne ne, upd_same]) nd ne fun b o nb e => ?_
    rw [upd_ne nb, upd_ne (ne_of_none e nd)]
    exact e
/-! ### a picture -/
def wideOf (R : Rows) : Int := ((R.headD []).length : Int)
def PicAt (C : Addr) (H : Hp) (r : Addr) (R : Rows) : Prop := ∃ dx l, H r = some (.ins C dx [("_rows", .ref l), ("width", .int (wideOf R)), ("height", .int (R.length : Int))]) ∧ H l = some (.lst (rowsV R))
structure PCls (K : PySem.W.Frag) (C : Addr) : Prop where
  cl : L2.Cls K C
  nR : NoAttr K C "_rows"
  nW : NoAttr K C "width"
  nH : NoAttr K C "height"
def spInit (C CI : Addr) : Sp := fun vs H Q E => ∃ r dx a R, vs = [.ref r, .ref a] ∧ H r = some (.ins C dx []) ∧ H a = some (.lst (rowsV R)) ∧ R.length ≤ 1000 ∧ (∀ z ∈ R, z.length ≤ 1000) ∧
  (0 < lineOf R → Lets E CI [("line", .int (lineOf R))] H) ∧ (lineOf R = 0 → ∀ H', PicAt C H' r R → SameBut r H H' → Q .non H')
theorem lineOf_nonneg (R : Rows) : 0 ≤ lineOf R := by
  match R with
  | [] => exact Int.le_of_lt (by decide)
  | r :: R =>
    rw [lineOf_cons]
    split
    · exact Int.add_nonneg (Int.natCast_nonneg _) (by decide)
    · split <;> decide
theorem scInit : FnScope ["self", "rows", "line"] ["self", "rows"] (defScope cPictureInit) := ⟨rfl, rfl, rfl, by decide +kernel, rfl, by decide +kernel, by decide +kernel⟩
theorem ok_init {f g e : Addr} {fd gd ed : FuncData} (F : Fun K "__init__" "Picture.__init__" cPictureInit f fd) (G : Cl P w K mg base CX0 4 "_bad_line" ["rows"] spLine g gd) (Ex : EMk P w K mg base CI "InvalidPicture" ["self", "line"] (spE1 CI "line") e ed) (L : LTxt K mg) (T : PCls K C) :
    FnOk P w K mg base (L2.CX P w) 5 f fd ["self", "rows"] (spInit C CI) := by
  refine F.okX scInit (fun vs H Q E h => ?_) (fun cdv A outer s H vs Q E hr h => ?_)
  · obtain ⟨r, dx, a, R, rfl, _⟩ := h
    rfl
  · obtain ⟨r, dx, a, R, rfl, hR, ha, few, each, bad, good⟩ := h
    refine ⟨_, pss_cons (ps_set (i := 2) scInit.nd rfl (.inl rfl) (pe_call G.ok hr (by rfl) G.gl G.kp G.bd .nil pass0 (pa_cons (pv 1) pa_nil)))
      (pss_cons (ps_if (pt_cmpR op_gt (pv 2) pe_int (nomark _)) (pss_one (ps_raise rfl (takes_of rfl rfl rfl rfl) (pmk_oex Ex.T Ex.at_ Ex.ty Ex.ok (hr.mono (by decide)) Ex.bd .nil pass0 (by rfl) Ex.gl (pa_cons (pv 2) pa_nil)))) pss_nil)
      (pss_cons (ps_fld (pv 0) (pe_callTy call_list_of (by rfl) L.lst (by decide +kernel) (pa_cons (pv 1) pa_nil)) rfl)
      (pss_cons (ps_fld (pv 0) (pe_callB call_len_str (by rfl) L.len PySem.boot_len (pa_cons (pe_ix ix_list (pv 1) pe_int (fun _ _ => rfl)) pa_nil)) rfl)
      (pss_one (ps_fld (pv 0) (pe_callB call_len_seq (by rfl) L.len PySem.boot_len (pa_cons (pv 1) pa_nil)) rfl))))), ?_⟩
    refine ⟨_, rfl, a, R, rfl, ha, few, each, fun H1 s1 => ?_⟩
    refine ⟨_, rfl, _, _, rfl, rfl, _, rfl, ite2 (fun p => ?_) (fun p => ?_)⟩
    · have pos : 0 < lineOf R := of_decide_eq_true p
      refine ⟨_, rfl, by show 1 ≤ 1000; decide, fun x nx => ⟨x, _, rfl, upd_same, fun H2 d h1 h2 nd ne sb => ⟨rfl, d, _, h1, h2, ?_, ?_⟩⟩⟩
      · rwa [upd_ne ne] at nd
      · have nd1 : H1 d = none := by rwa [upd_ne ne] at nd
        exact bad pos d _ (back s1 nd1) upd_same (s1.trans (on_way nx nd ne sb))
    · have zero : lineOf R = 0 := by
        have y := lineOf_nonneg R
        have z : ¬ 0 < lineOf R := fun y => p (decide_eq_true y)
        omega
      match R, ha, few, each, bad, good, zero with
      | q :: R, ha, few, each, bad, good, zero =>
        refine ⟨_, rfl, a, _, rfl, .inl (SqL.of (s1 _ _ ha)), fun l nl => ⟨_, rfl, r, C, dx, [], rfl, same_upd nl _ _ (s1 _ _ hR), T.cl, T.nR, by show 0 < 1000; decide, ?_⟩⟩
        have nra : a ≠ r := ne_of (s1 _ _ ha) (s1 _ _ hR) (by intro z; cases z)
        have nlr : l ≠ r := Ne.symm (ne_of_none (s1 _ _ hR) nl)
        have nla : l ≠ a := Ne.symm (ne_of_none (s1 _ _ ha) nl)
        refine ⟨_, rfl, a, _, 0, _, rfl, rfl, SqL.of (by rw [upd_ne nra, upd_ne nla.symm]; exact s1 _ _ ha), row0 q R, _, rfl, by rw [len_S]; exact small_line (each q List.mem_cons_self), _, rfl, r, C, dx, _, rfl, upd_same, T.cl, T.nW, by show 1 < 1000; decide, ?_⟩
        refine ⟨_, rfl, a, _, rfl, .inl (SqL.of (by rw [upd_ne nra, upd_ne nra, upd_ne nla.symm]; exact s1 _ _ ha)), _, rfl, r, C, dx, _, rfl, upd_same, T.cl, T.nH, by show 2 < 1000; decide, ?_⟩
        refine good zero _ ⟨dx, l, ?_, ?_⟩ fun b o nb e => ?_
        · rw [upd_same, rowsV_len, len_S]
          rfl
        · rw [upd_ne nlr, upd_ne nlr, upd_ne nlr]
          exact upd_same
        · rw [upd_ne nb, upd_ne nb, upd_ne nb]
          exact same_upd nl _ _ (s1 _ _ e)
end
end Pm
namespace Pm
open PySem PySem.Spec PyProof.Rows L2 SX
/-! ### calls whose errors are wished for at the caller's slots -/
section
variable {X : Cx} {CXf : CXT} {k : Nat} {f C : Addr} {fd : FuncData} {ps : List Str} {sp : Sp} {E : L2.St → XK} {x m : Str} {p pos apos : Pos} {e o : Expr} {es : List Expr} {ta : TE} {t : TA} {pins : List (Addr × Obj)} {σ : L2.St} {H : Hp} {s : Shared} {Q : VK} {us : List Value} {vs : List V}
/-- how a callee's end is taken -/
theorem end_of {r : Result} {s' : Shared} (I : L2.Inv X pins σ H s) (hx : PassesAt CXf X σ (E σ)) (h : match r with | .ok (.ret v) => EP X pins σ Q v s' | .ok _ => False | .error er => CXf X.stack H s (E σ) er s') :
    match r with | .ok (.ret v) => EP X pins σ Q v s' | .ok _ => False | .error er => X.xe er s' := by
  cases r with
  | error er => exact hx pins H s er s' I h
  | ok fl =>
    cases fl with
    | ret u => exact h
    | next => exact h
    | brk => exact h
    | cont => exact h
theorem make_runS (M : Mk X.K C f) (F : FnOk X.prog X.w X.K X.mg X.base CXf k f fd ps sp) (hr : Room (k + 1) X.A) (hb : Binds X.K fd ps []) (hx : PassesAt CXf X σ (E σ)) (I : L2.Inv X pins σ H s) (rv : Vals vs us)
    (h : ∀ x dx, H x = none → H dx = none → dx ≠ x → sp (.ref x :: vs) (upd (upd H dx (.own x)) x (.ins C dx [])) (fun v H2 => v = .non ∧ Q (.ref x) H2) (E σ)) : wpAny (model X.prog X.w) X.A (call (.ref C) us) (EP X pins σ Q) X.xe s := by
  have big : s.heap.objs.size ≤ s.heap.objs.size + 1 := Nat.le_succ _
  have asked := h (s.heap.objs.size + 1) s.heap.objs.size (I.hok.fresh big) (I.hok.fresh (Nat.le_refl _)) (Nat.ne_of_lt (Nat.lt_succ_self _))
  have J := Inv.made (C := C) I
  have rs : Vals (V.ref (s.heap.objs.size + 1) :: vs) (Value.ref (s.heap.objs.size + 1) :: us) := .cons rfl rv
  have len : (Value.ref (s.heap.objs.size + 1) :: us ++ []).length = ps.length := by
    rw [List.append_nil, ← rs.length]
    exact F.len _ _ _ _ asked
  have env := J.env0.make C us []
  have bind := hb _ (Value.ref (s.heap.objs.size + 1) :: us) J.kIn len
  rw [List.append_nil] at bind
  refine wpAny_call (make_map (f := f) I.kIn M.makes M.init (beq_iff_eq.mp M.fn) (codeAny_mono (F.run _ X.stack _ _ ⟨Value.ref (s.heap.objs.size + 1) :: us, []⟩ (Value.ref (s.heap.objs.size + 1) :: us) _ _ (E σ) (hr.make C us []) env bind rs asked) fun r s' z => ?_))
  cases r with
  | error er => exact hx pins _ _ er s' J z
  | ok fl =>
    cases fl with
    | ret u =>
      obtain ⟨v, H', I3, rv3, ev, q3⟩ := J.after z
      subst ev
      exact ⟨rv3, .ref (s.heap.objs.size + 1), H', I3, rfl, q3⟩
    | next => exact z.elim
    | brk => exact z.elim
    | cont => exact z.elim
def tMakeS (C : Addr) (sp : Sp) (E : L2.St → XK) (t : TA) : TE := fun σ H Q => t σ H fun vs H1 => ∀ x dx, H1 x = none → H1 dx = none → dx ≠ x → sp (.ref x :: vs) (upd (upd H1 dx (.own x)) x (.ins C dx [])) (fun v H2 => v = .non ∧ Q (.ref x) H2) (E σ)
/-- C(e, ..), C a name of the module -/
theorem pe_makeS (M : Mk X.K C f) (F : FnOk X.prog X.w X.K X.mg X.base CXf k f fd ps sp) (hr : Room (k + 1) X.A) (hg : Gl X x) (hm : X.mg x = some (.ref C)) (hb : Binds X.K fd ps []) (hx : ∀ σ, PassesAt CXf X σ (E σ)) (ha : PA X (e :: es) t)
    (dbg : (x == ("__debug__" : Str)) = false := by decide) (st : starEach (e :: es) X.env = (false, eval e X.env) :: starEach es X.env := by rfl) (pl : (backTo pos (starEach es X.env)).any (·.1) = false := by rfl) :
    PE X (.Call (.Name x p) (e :: es) [] pos) (tMakeS C sp E t) := by
  refine ⟨fun pins s σ H Q I h => wpAny_Call_Name_kw (ld_glob I hg hm ?_ dbg)⟩
  refine PySem.W.callWith_K (h₀ := X.base) I.ok.mod.kin M.kp (thn (ha.run pos pins s σ H _ I h) fun us s1 ⟨vs, H1, I1, rv, q⟩ => ⟨I1.kIn, ?_⟩) st pl
  exact make_runS M F hr hb (hx σ) I1 rv q
def tMakeV (i : Nat) (C : Addr) (sp : Sp) (E : L2.St → XK) (t : TA) : TE := fun σ H Q => σ[i]? = some (some (.ref C)) ∧ tMakeS C sp E t σ H Q
/-- c(e, ..), the class at C in slot i -/
theorem pe_makeV {i : Nat} (M : Mk X.K C f) (F : FnOk X.prog X.w X.K X.mg X.base CXf k f fd ps sp) (hr : Room (k + 1) X.A) (hN : X.N[i]? = some x) (hv : Vis X.env.scope x) (hb : Binds X.K fd ps []) (hx : ∀ σ, PassesAt CXf X σ (E σ)) (ha : PA X (e :: es) t)
    (dbg : (x == ("__debug__" : Str)) = false := by decide) (hcd : (x == ("__classdict__" : Str)) = false := by decide) (st : starEach (e :: es) X.env = (false, eval e X.env) :: starEach es X.env := by rfl) (pl : (backTo pos (starEach es X.env)).any (·.1) = false := by rfl) :
    PE X (.Call (.Name x p) (e :: es) [] pos) (tMakeV i C sp E t) := by
  refine ⟨fun pins s σ H Q I ⟨hs, h⟩ => ?_⟩
  refine wpAny_Call_Name_kw (thn ((pe_var (pos := p) hN hv dbg hcd).run pins s σ H (fun v H1 => v = .ref C ∧ H1 = H) I ⟨.ref C, hs, rfl, rfl⟩) fun u s0 ⟨v, H0, I0, r0, ev, eh⟩ => ?_)
  subst ev eh
  obtain rfl : u = Value.ref C := r0
  refine PySem.W.callWith_K (h₀ := X.base) I.ok.mod.kin M.kp (thn (ha.run pos pins s0 σ _ _ I0 h) fun us s1 ⟨vs, H1, I1, rv, q⟩ => ⟨I1.kIn, ?_⟩) st pl
  exact make_runS M F hr hb (hx σ) I1 rv q
def tMethE (C : Addr) (m : Str) (sp : Sp) (E : L2.St → XK) (ta : TE) (t : TA) : TE := fun σ H Q => ta σ H fun x H1 => ∃ a dx fs, x = .ref a ∧ H1 a = some (.ins C dx fs) ∧ fs.lookup m = none ∧ t σ H1 fun vs H2 => sp (x :: vs) H2 Q (E σ)
/-- o.m(e, ..) -/
theorem pe_methE {pl : Sem Bool} (he : PE X o ta) (c : L2.Cls X.K C) (hm : Meth X.K C m f) (F : FnOk X.prog X.w X.K X.mg X.base CXf k f fd ps sp) (hr : Room k X.A) (hb : Binds X.K fd ps []) (hx : ∀ σ, PassesAt CXf X σ (E σ)) (ha : PA X (e :: es) t)
    (st : starEach (e :: es) X.env = (false, eval e X.env) :: starEach es X.env := by rfl) (pl2 : (backTo pos (starEach es X.env)).any (·.1) = false := by rfl)
    (ht : eval (.Call (.Attribute o m apos) (e :: es) [] pos) X.env = (do
      let ov ← eval o X.env
      standAt apos.atName
      let (f, first) ← holding [ov] (getMethod ov m pl)
      callWith pos f first (backTo pos (starEach (e :: es) X.env)) (backToKw pos (keywordEach [] X.env))) := by rfl) :
    PE X (.Call (.Attribute o m apos) (e :: es) [] pos) (tMethE C m sp E ta t) := by
  refine ⟨fun pins s σ H Q I h => PySem.W.methodCall_KW (pl := pl) (thn (he.run pins s σ H _ I h) fun u s1 ⟨x, H1, I1, rx, a, dx, fs, ex, ea, l, q⟩ => ?_) ht⟩
  subst ex
  obtain rfl : u = Value.ref a := rx
  refine getmeth_ok I1 ea c hm l (PySem.W.callWith_K (first := [.ref a]) (h₀ := X.base) I.ok.mod.kin hm.kp (thn (ha.run pos pins s1 σ H1 _ I1 q) fun us s2 ⟨vs, H2, I2, rv, q2⟩ => ⟨I2.kIn, ?_⟩) st pl2)
  exact run_fnS (us := .ref a :: us) (vs := .ref a :: vs) F hr hb (hx σ) I2 (.cons rfl rv) q2
/-! ### a classmethod -/
open ClX in
def tCMethE (C : Addr) (sp : Sp) (E : L2.St → XK) (ta : TE) (t : TA) : TE := fun σ H Q => ta σ H fun x H1 => x = .ref C ∧ t σ H1 fun vs H2 => sp (.ref C :: vs) H2 Q (E σ)
open ClX in
theorem run_cmE {q g : Addr} (F : FnR X.prog X.w X.K X.mg X.base CXf k g sp) (hr : Room k X.A) (hx : PassesAt CXf X σ (E σ)) (I : L2.Inv X ((q, PySem.W.methodObj (.ref g) (.ref C)) :: pins) σ H s)
    (rv : Vals vs us) (h : sp (.ref C :: vs) H Q (E σ)) : wpAny (model X.prog X.w) X.A (call (.ref q) us) (EP X pins σ Q) X.xe s := by
  have go : wpAny (model X.prog X.w) X.A (call (.ref q) us) (EP X ((q, PySem.W.methodObj (.ref g) (.ref C)) :: pins) σ Q) X.xe s := by
    refine wpAny_call (PySem.W.method_call (pin_at I) (codeAny_mono (F X.A X.stack s H (.ref C :: us) (.ref C :: vs) Q (E σ) hr I.env0 (.cons rfl rv) h) fun r s' z => ?_))
    cases r with
    | error er => exact hx _ H s er s' I z
    | ok fl =>
      cases fl with
      | ret u => exact I.after z
      | next => exact z.elim
      | brk => exact z.elim
      | cont => exact z.elim
  exact thn go fun _ _ y => unpinE y
open ClX in
theorem pe_cmethE {g c : Addr} {mc : Value} {pl : Sem Bool} (he : PE X o ta) (r : CRead X.K C mc) (cm : CMet X.K C mc m c g) (F : FnR X.prog X.w X.K X.mg X.base CXf k g sp) (hr : Room k X.A) (hx : ∀ σ, PassesAt CXf X σ (E σ)) (ha : PA X (e :: es) t)
    (st : starEach (e :: es) X.env = (false, eval e X.env) :: starEach es X.env := by rfl) (pl2 : (backTo pos (starEach es X.env)).any (·.1) = false := by rfl)
    (ht : eval (.Call (.Attribute o m apos) (e :: es) [] pos) X.env = (do
      let ov ← eval o X.env
      standAt apos.atName
      let (f, first) ← holding [ov] (getMethod ov m pl)
      callWith pos f first (backTo pos (starEach (e :: es) X.env)) (backToKw pos (keywordEach [] X.env))) := by rfl) :
    PE X (.Call (.Attribute o m apos) (e :: es) [] pos) (tCMethE C sp E ta t) := by
  refine ⟨fun pins s σ H Q I h => PySem.W.methodCall_KW (pl := pl) (thn (he.run pins s σ H _ I h) fun u s1 ⟨x, H1, I1, rx, ex, q⟩ => ?_) ht⟩
  subst ex
  obtain rfl : u = Value.ref C := rx
  refine getmethcm_ok I1 r cm fun s2 I2 => ?_
  refine callwith_cm I2 (base_none I1 (Nat.le_refl _)) cm.fi (thn (ha.run pos _ s2 σ H1 _ I2 q) fun us s3 ⟨vs, H2, I3, rv, q2⟩ => ⟨⟨pin_at I3, I3.kIn⟩, ?_⟩) st pl2
  exact run_cmE F hr (hx σ) I3 rv q2
end
end Pm
namespace Pm
open PySem PySem.Spec PyProof.Rows L2 SX
/-! ### texts of different signs; their order -/
/-- the built-ins and constants that rules ask for besides -/
structure STxt (K : PySem.W.Frag) (mg : Str → Option Value) : Prop where
  set : mg "set" = none
  srt : mg "sorted" = none
/-- the signs in order -/
def asc (z : List Nat) : List Nat := z.mergeSort fun a b => decide (a ≤ b)
theorem asc_perm (z : List Nat) : (asc z).Perm z := List.mergeSort_perm _ _
theorem asc_le (z : List Nat) : (asc z).Pairwise (· ≤ ·) := by
  have h := List.pairwise_mergeSort (le := fun a b : Nat => decide (a ≤ b)) (fun a b c h1 h2 => decide_eq_true (Nat.le_trans (of_decide_eq_true h1) (of_decide_eq_true h2))) (fun a b => by
    rcases Nat.le_total a b with h | h
    · simp [h]
    · simp [h]) z
  exact h.imp fun e => of_decide_eq_true e
theorem two_sorted : ∀ {l m : List Nat}, l.Perm m → l.Pairwise (· ≤ ·) → m.Pairwise (· ≤ ·) → l = m
  | [], m, p, _, _ => (List.Perm.nil_eq p)
  | a :: l, [], p, _, _ => absurd p.length_eq (by simp)
  | a :: l, b :: m, p, h1, h2 => by
    have ha := List.pairwise_cons.mp h1
    have hb := List.pairwise_cons.mp h2
    have ab : a = b := by
      have m1 : a ∈ b :: m := p.mem_iff.mp List.mem_cons_self
      have m2 : b ∈ a :: l := p.mem_iff.mpr List.mem_cons_self
      rcases List.mem_cons.mp m1 with e | e
      · exact e
      · rcases List.mem_cons.mp m2 with e2 | e2
        · exact e2.symm
        · exact Nat.le_antisymm (ha.1 b e2) (hb.1 a e)
    subst ab
    rw [two_sorted (p.cons_inv) ha.2 hb.2]
theorem asc_of {ys z : List Nat} (p : ys.Perm z) (h : ys.Pairwise (· ≤ ·)) : ys = asc z := two_sorted (p.trans (asc_perm z).symm) h (asc_le z)
theorem joinL_one : ∀ z : List Nat, TL.joinL [] (z.map fun c => [c]) = z
  | [] => rfl
  | [c] => rfl
  | c :: d :: z => congrArg (c :: ·) (joinL_one (d :: z))
theorem sum_one : ∀ z : List Nat, (z.map fun _ => 1).sum = z.length
  | [] => rfl
  | c :: z => by
    rw [List.map_cons, List.sum_cons, sum_one z, List.length_cons, Nat.add_comm]
theorem join_ones (z : List Nat) : Txt.join ("" : Str) (ones z) = S z := by
  have e : ("" : Str) = S [] := by decide +kernel
  have e2 : ones z = (z.map fun c => [c]).map S := by unfold ones; rw [List.map_map]; rfl
  rw [e, e2, join_S]
  exact congrArg S (joinL_one z)
def diffB (b : Nat) (z : List Nat) : Bool := (decide (z ≠ []) && decide z.Nodup) && z.all fun c => decide (c = b) || decide (Let c)
section
variable {P : Program} {w : World} {K : PySem.W.Frag} {mg : Str → Option Value} {base : Heap} {C : Addr}
def spAsc : Sp := fun vs H Q _ => ∃ z, vs = [.str (S z)] ∧ z.length ≤ 1000 ∧ ∀ H', Same H H' → Q (.str (S (asc z))) H'
theorem scAsc : FnScope ["signs"] ["signs"] (defScope gInAsciiOrder) := ⟨rfl, rfl, rfl, by decide +kernel, rfl, by decide +kernel, by decide +kernel⟩
theorem ok_asc {f : Addr} {fd : FuncData} (F : Fun K "in_ascii_order" "in_ascii_order" gInAsciiOrder f fd) (R : STxt K mg) : FnOk P w K mg base CX0 1 f fd ["signs"] spAsc := by
  refine F.ok scAsc (fun vs H Q E h => ?_) (fun cdv A outer s H vs Q E hr h => ?_)
  · obtain ⟨z, rfl, _⟩ := h
    rfl
  · obtain ⟨z, rfl, few, k⟩ := h
    refine ⟨_, pss_one (ps_ret (pe_join pe_str (pe_callB (cr_sortedTx rfl) (by rfl) R.srt (by decide +kernel) (pa_cons (pv 0) pa_nil)))), ?_⟩
    refine ⟨⟨_, rfl⟩, _, rfl, z, rfl, few, fun ys p pm pw np => ⟨_, p, ones ys, rfl, rfl, .inl (SqL.of upd_same), ?_, ?_⟩⟩
    · have e : ((ones ys).map (·.length)).sum = ys.length := by
        unfold ones
        rw [List.map_map]
        have : ((fun x : Str => x.length) ∘ fun c => S [c]) = fun _ => 1 := by
          funext c
          exact S_len [c]
        rw [this]
        exact sum_one ys
      rw [e]
      have := pm.length_eq
      show ys.length + (ones ys).length * 0 ≤ 16777216
      omega
    · rw [join_ones, asc_of pm pw]
      exact k _ (same_upd np)
def spDiff : Sp := fun vs H Q _ => ∃ z b, vs = [.str (S z), .str (S [b])] ∧ z.length ≤ 1000 ∧ ∀ H', Same H H' → Q (.bl (diffB b z)) H'
abbrev nDiff : List Str := ["signs", "besides", "sign"]
theorem scDiff : FnScope nDiff ["signs", "besides"] (defScope gAreDifferentSigns) := ⟨rfl, rfl, rfl, by decide +kernel, rfl, by decide +kernel, by decide +kernel⟩
theorem ok_differ {f g : Addr} {fd gd : FuncData} (F : Fun K "are_different_signs" "are_different_signs" gAreDifferentSigns f fd) (G : Cl P w K mg base CX0 1 "is_stone" ["sign"] spStone g gd) (L : LTxt K mg) (T : PTxt K mg C) (R : STxt K mg) :
    FnOk P w K mg base CX0 2 f fd ["signs", "besides"] spDiff := by
  refine F.ok scDiff (fun vs H Q E h => ?_) (fun cdv A outer s H vs Q E hr h => ?_)
  · obtain ⟨z, b, rfl, _⟩ := h
    rfl
  · obtain ⟨z, b, rfl, few, k⟩ := h
    refine ⟨_, pss_cons (ps_if (PW.pt (pw_or (pt_cmpR op_eq (pv 0) pe_str (nomark _)) (pw_or1 (pt_cmpR op_lt (pe_lenSetS (by rfl) L.len (by rfl) R.set (pv 0)) (pe_callB call_len_str (by rfl) L.len PySem.boot_len (pa_cons (pv 0) pa_nil)) (nomark _))))) (pss_one (ps_ret pe_bl)) pss_nil)
      (pss_one (ps_ret (pe_callB (cr_all rfl) (by rfl) T.all (by decide +kernel) (pa_cons (pe_lc (own := [("sign", 2)]) (g := gName 2) (tt := tYes) rfl scDiff.nd (pi_str (pv 0)) (blkOk_by (N := nDiff) (sc := defScope gAreDifferentSigns) (by decide +kernel)) (fun _ _ _ _ _ => pg_name (i := 2) scDiff.nd rfl (.inl rfl)) (fun _ _ _ _ _ => pts_nil)
        (fun _ _ _ _ _ => pe_or (pe_cmpR op_eq (pv 2) (pv 1) (nomark _)) (pe_one (pe_call G.ok hr (by rfl) G.gl G.kp G.bd .nil pass0 (pa_cons (pv 2) pa_nil))))) pa_nil)))), ?_⟩
    have line : (S z).length ≤ sizeLine := by rw [len_S]; exact small_line few
    have emp : ("" : Str) = S [] := by decide +kernel
    refine ⟨_, rfl, rfl, _, rfl, ?_⟩
    by_cases e0 : z = []
    · refine iteTe (decide_eq_true (by rw [e0, emp])) (iteT ?_)
      have q := k H (Same.refl H)
      rw [show diffB b z = false by unfold diffB; rw [e0]; rfl] at q
      exact q
    · refine iteFe (decide_eq_false fun y => e0 ?_) ⟨_, rfl, z, rfl, few, fun n nl nd => ⟨_, rfl, _, rfl, line, _, _, rfl, rfl, _, rfl, ?_⟩⟩
      · simp only [V.str.injEq] at y
        rw [emp] at y
        exact S_inj y
      by_cases e1 : z.Nodup
      · refine iteFe (decide_eq_false (by rw [len_S, nd.mpr e1]; omega)) ?_
        have dB : diffB b z = z.all fun c => decide (c = b) || decide (Let c) := by
          unfold diffB
          rw [decide_eq_true e0, decide_eq_true e1]
          rfl
        refine ⟨_, rfl, _, rfl, fun D nD => lc_it walk_str (fun i G => Same H G ∧ G D = some (.lst (((z.take i).map fun c => decide (c = b) || decide (Let c)).map V.bl))) ⟨same_upd nD, upd_same⟩ (fun _ _ _ _ => trivial) ?_ ?_⟩
        · rintro i x G G' hi ⟨sG, hD⟩ ⟨rfl, d, gd, rfl⟩
          have gd2 : z[i]? = some d := by
            have y : z.toArray[i]? = some d := gd
            rwa [List.getElem?_toArray] at y
          have last : ∀ v : Bool, v = (decide (d = b) || decide (Let d)) → ∃ xs, G' D = some (.lst xs) ∧ xs.length < sizeLine ∧ Same H (upd G' D (.lst (xs ++ [.bl v]))) ∧ upd G' D (.lst (xs ++ [.bl v])) D = some (.lst (((z.take (i + 1)).map fun c => decide (c = b) || decide (Let c)).map V.bl)) := fun v ev => by
            refine ⟨_, hD, ?_, fun a o e => ?_, ?_⟩
            · rw [List.length_map, List.length_map, List.length_take]
              exact small1000 (by omega)
            · rw [upd_ne (ne_of_none e nD)]
              exact sG a o e
            · rw [upd_same, List.take_add_one, gd2, ev]
              simp
          refine ⟨rfl, tyes (iteT ⟨_, rfl, _, rfl, rfl, _, rfl, ?_⟩)⟩
          by_cases e2 : d = b
          · refine iteTe (decide_eq_true (by rw [e2])) ?_
            exact last true (by rw [decide_eq_true e2]; rfl)
          · refine iteFe (decide_eq_false fun y => e2 ?_) ⟨_, rfl, [d], rfl, (show 1 ≤ 1000 by decide), ?_⟩
            · simp only [V.str.injEq] at y
              have := S_inj (a := [d]) (b := [b]) y
              simpa using this
            · exact last _ (by rw [decide_eq_false e2]; rfl)
        · rintro G ⟨sG, hD⟩
          have e3 : (S z).cps.size = z.length := by simp
          rw [e3, List.take_of_length_le (Nat.le_refl _)] at hD
          refine ⟨D, _, rfl, SqL.of hD, ?_⟩
          have q := k G sG
          rw [dB, show (z.all fun c => decide (c = b) || decide (Let c)) = (z.map fun c => decide (c = b) || decide (Let c)).all id by rw [List.all_map]; rfl] at q
          exact q
      · refine iteTe (decide_eq_true ?_) ?_
        · rw [len_S]
          have : n ≠ z.length := fun y => e1 (nd.mp y)
          omega
        · have q := k H (Same.refl H)
          rw [show diffB b z = false by unfold diffB; rw [decide_eq_false e1, Bool.and_false]; rfl] at q
          exact q
end
end Pm
namespace Pm
open PySem PySem.Spec PyProof.Rows L2 SX
/-! ### a tuple of ints in a set of such: asked for -/
section
variable {P : Program} {w : World} {A : Around} {E : Value → Shared → Prop} {s : Shared} {a : Addr} {L : List (Addr × List Int)} {es : Array (Int × Value)} {ep : Nat} {t : SetTable}
/-- where the way of the key k begins -/
abbrev way0 (P : Program) (w : World) (t : SetTable) (k : List Int) : SetTable.Probe := runAt t.mask (SetTable.bits (thash P w k) % (t.mask + 1)) (SetTable.bits (thash P w k))
theorem no_dummy (m : Nat) : ∀ (n : Nat) (p : SetTable.Probe), p.dummy = none → (nth m p n).dummy = none
  | 0, _, h => h
  | n + 1, p, h => no_dummy m n (adv m p) (by unfold adv; split <;> exact h)
/-- the whole search from step c of the way on; K: its first empty place; no entry with this key has been passed -/
theorem ask_from (R : SetTR P w s.heap a L es ep t) {x : Addr} {k : List Int} (hx : L2.IsT P w s.heap k x) (hu : A.units < cLine) {K : Nat} (few : K < 10 * SetTable.turns t.mask)
    (emp : way t.mask (thash P w k) K ∉ t.place.toList) (full : ∀ c, c < K → way t.mask (thash P w k) c ∈ t.place.toList) {Q : SetFound → Shared → Prop}
    (yes : k ∈ L.map (·.2) → ∀ i, Q (.there (some i)) s) (no : k ∉ L.map (·.2) → ∀ j, Q (.free j false) s) :
    ∀ (f c : Nat) (stand : Option SetTable.Probe), stand.getD (t.probeStart (thash P w k)) = nth t.mask (way0 P w t k) c → c ≤ K → K < f + c →
      (∀ (i : Nat) p, L[i]? = some p → p.2 = k → ∃ c', c ≤ c' ∧ c' < K ∧ t.place.toList[i]? = some (way t.mask (thash P w k) c')) →
      wpAny (model P w) A (setSearchFrom a (.ref x) (thash P w k) false f stand) Q E s := by
  intro f
  induction f with
  | zero =>
    intro c stand _ h1 h2
    omega
  | succ f ih =>
    intro c stand est cK fK ahead
    obtain ⟨o, ho, _, hd⟩ := R.ob
    have step : ∀ q, (nth t.mask (nth t.mask (way0 P w t k) c) q).j = way t.mask (thash P w k) (c + q) := fun q => congrArg SetTable.Probe.j (nth_add t.mask c _ q).symm
    have ent : ∀ (i : Nat) p, L[i]? = some p → ((es[i]?.map (·.1)).getD 0) = thash P w p.2 := fun i p hp => by rw [R.entry hp]; rfl
    have sp := go_spec t R.tab.ris R.tab.dm (fun i => (es[i]?.map (·.1)).getD 0) (thash P w k) (10 * SetTable.turns t.mask) (K - c) (nth t.mask (way0 P w t k) c) (no_dummy _ _ _ rfl) (by omega)
      (fun q hq => by rw [step]; exact full _ (by omega)) (by rw [step, Nat.add_sub_cancel' cK]; exact emp)
    -- an entry ahead, seen from behind step q
    have later : ∀ (q : Nat) (i0 : Nat) p0, (∀ (k' i' : Nat), k' < q → t.place.toList[i']? = some (nth t.mask (nth t.mask (way0 P w t k) c) k').j → ((es[i']?.map (·.1)).getD 0) ≠ thash P w k) → L[i0]? = some p0 → p0.2 = k →
        ∃ c', c + q ≤ c' ∧ c' < K ∧ t.place.toList[i0]? = some (way t.mask (thash P w k) c') := fun q i0 p0 none_ h0 e0 => by
      obtain ⟨c', b1, b2, b3⟩ := ahead i0 p0 h0 e0
      refine ⟨c', Nat.le_of_not_lt fun lt => ?_, b2, b3⟩
      refine none_ (c' - c) i0 (by omega) (by rw [step, Nat.add_sub_cancel' b1]; exact b3) ?_
      rw [ent i0 p0 h0, e0]
    rw [setSearchFrom_succ]
    refine wpAny_bind (wpAny_setState_of ho hd R.fits ?_)
    dsimp only
    refine wp_if_neg R.gw ?_
    try refine wpAny_bind (wpAny_pure ?_)
    rcases sp with ⟨q, i, qK, at_, _, none_, met⟩ | ⟨none_, met⟩
    · have met2 : t.probe (fun i => (es[i]?.map (·.1)).getD 0) (thash P w k) (stand.getD (t.probeStart (thash P w k))) = some (.candidate (way t.mask (thash P w k) (c + q)) i (nth t.mask (way0 P w t k) (c + (q + 1)))) := by
        rw [est, ← step, nth_add t.mask c (way0 P w t k) (q + 1)]
        exact met
      rw [met2]
      dsimp only
      rw [step] at at_
      have iL : i < L.length := by
        have z := (List.getElem?_eq_some_iff.mp at_).1
        have y := R.tab.sz
        rw [List.length_map] at y
        rw [Array.length_toList] at z
        omega
      obtain ⟨p, hp⟩ : ∃ p, L[i]? = some p := ⟨_, List.getElem?_eq_getElem iL⟩
      have pL := List.mem_of_getElem? hp
      have live : t.slot (way t.mask (thash P w k) (c + q)) = .live i := slot_live R.tab.ris at_
      have go : wpAny (model P w) A (searchRest a (.ref x) (thash P w k) false f es t (way t.mask (thash P w k) (c + q)) i (nth t.mask (way0 P w t k) (c + (q + 1)))) Q E s := by
        unfold searchRest
        rw [R.entry hp]
        dsimp only
        refine wpAny_bind (wpAny_holding (wpAny_eqBool_tuple hu (R.tup p pL) hx (wpAny_bind (wpAny_setState_of ho hd R.fits ?_))))
        dsimp only
        refine wp_if_neg (by simp) ?_
        try refine wpAny_bind (wpAny_pure ?_)
        rw [sameMem]
        dsimp only
        simp only [if_true, live, R.entry hp]
        refine wpAny_bind (wpAny_isSame_ref_self (wpAny_bind (wpAny_pure ?_)))
        simp only [if_true]
        by_cases e : p.2 = k
        · exact wp_if_pos (by simp [e]) (wpAny_pure (yes (List.mem_map.mpr ⟨p, pL, e⟩) i))
        · refine wp_if_neg (by simp [e]) (ih (c + (q + 1)) _ rfl (by omega) (by omega) fun i0 p0 h0 e0 => ?_)
          obtain ⟨c', b1, b2, b3⟩ := later q i0 p0 none_ h0 e0
          refine ⟨c', ?_, b2, b3⟩
          rcases Nat.lt_or_eq_of_le b1 with lt | eq
          · omega
          · rw [← eq] at b3
            have z := slot_live R.tab.ris b3
            rw [live] at z
            injection z with z
            rw [← z, hp] at h0
            cases h0
            exact absurd e0 e
      by_cases led : t.led = true
      · refine wp_if_neg (by simp [led]) ?_
        try refine wpAny_bind (wpAny_pure ?_)
        exact go
      · refine wp_if_pos (by simp [led]) (wpAny_bind (seen_tup hx (fun y hy => ?_) ?_))
        · obtain ⟨en, hen, rfl⟩ := List.mem_map.mp hy
          have m : en ∈ es.toList := by
            have z : en ∈ es ∧ en.1 = thash P w k := by simpa using hen
            simpa using z.1
          rw [R.rows] at m
          obtain ⟨p2, m2, rfl⟩ := List.mem_map.mp m
          exact ⟨p2.2, p2.1, rfl, R.tup p2 m2⟩
        · refine wp_if_neg (by decide) ?_
          try refine wpAny_bind (wpAny_pure ?_)
          exact go
    · have met2 : t.probe (fun i => (es[i]?.map (·.1)).getD 0) (thash P w k) (stand.getD (t.probeStart (thash P w k))) = some (.empty (nth t.mask (nth t.mask (way0 P w t k) c) (K - c)).j none) := by
        rw [est]
        exact met
      rw [met2]
      dsimp only
      refine wpAny_pure (no (fun m => ?_) _)
      obtain ⟨p0, m0, e0⟩ := List.mem_map.mp m
      obtain ⟨i0, h0⟩ := List.mem_iff_getElem?.mp m0
      obtain ⟨c', b1, b2, _⟩ := later (K - c) i0 p0 none_ h0 e0
      omega
theorem find_tup (R : SetTR P w s.heap a L es ep t) {x : Addr} {k : List Int} (hx : L2.IsT P w s.heap k x) (hu : A.units < cLine) {Q : Option Nat → Shared → Prop} (yes : k ∈ L.map (·.2) → ∀ i, Q (some i) s) (no : k ∉ L.map (·.2) → Q none s) :
    wpAny (model P w) A (setFind a (.ref x) (thash P w k)) Q E s := by
  obtain ⟨o, ho, _, hd⟩ := R.ob
  have room := R.room
  obtain ⟨K, few, emp, full⟩ := R.tab.first (by rw [List.length_map]; omega) (thash P w k)
  have small : K < 100000 := by
    have : 10 * SetTable.turns t.mask ≤ 1420 := by
      unfold SetTable.turns
      rcases R.tab.mok with e | e | e <;> omega
    omega
  show wpAny _ _ (setFindIn a (.ref x) (thash P w k) (99999 + 1)) Q E s
  unfold setFindIn
  refine wpAny_bind (wpAny_setState_of ho hd R.fits ?_)
  dsimp only
  refine wp_if_neg (by simp [byScan, Value.scannable]) ?_
  try refine wpAny_bind (wpAny_pure ?_)
  refine wpAny_bind ?_
  unfold setSearch
  refine ask_from R hx hu few emp full (fun m i => ?_) (fun m j => ?_) 100000 0 none rfl (Nat.zero_le _) (by omega) fun i p hp e => ?_
  · exact wpAny_pure (yes m i)
  · exact wpAny_pure (no m)
  · have hi : (L.map fun p => thash P w p.2)[i]? = some (thash P w k) := by rw [List.getElem?_map, hp, ← e]; rfl
    have il : i < t.place.toList.length := by
      have z := (List.getElem?_eq_some_iff.mp hp).1
      have y := R.tab.sz
      rw [List.length_map] at y
      rw [Array.length_toList]
      omega
    obtain ⟨c, hc, ec⟩ := R.tab.before emp hi (List.getElem?_eq_getElem il)
    exact ⟨c, Nat.zero_le _, hc, by rw [List.getElem?_eq_getElem il, ec]⟩
end
end Pm
namespace Pm
open PySem PySem.Spec PyProof.Rows L2 SX
section
variable {P : Program} {w : World} {A : Around} {E : Value → Shared → Prop} {s : Shared} {a : Addr} {L : List (Addr × List Int)} {es : Array (Int × Value)} {ep : Nat} {t : SetTable}
theorem in_tup (R : SetTR P w s.heap a L es ep t) {x : Addr} {k : List Int} (hx : L2.IsT P w s.heap k x) (hu : A.units + 1 < cLine) {Q : Value → Shared → Prop}
    (h : ∀ tk, Q (.bool (decide (k ∈ L.map (·.2)))) { s with toks := tk }) : wpAny (model P w) A (compareOp .In (.ref x) (.ref a)) Q E s := by
  obtain ⟨o, ho, hex, hd⟩ := R.ob
  have hT : s.TypeIs (.ref a) "set" := ⟨o, ho, hex.1⟩
  show wpAny _ _ (do return .bool (← contains (.ref a) (.ref x))) Q E s
  refine wpAny_bind ?_
  unfold contains
  try with_reducible refine wpAny_holding ?_
  refine wpAny_bind (wpAny_specialOf hT F.slot_set_contains.lookup ?_)
  refine wp_if_neg (by rw [beq_builtin_none]; exact Bool.false_ne_true) ?_
  refine wpAny_bind (wpAny_callSpecialUnlessNone?_slot (name := Str.ofString "__contains__") hT F.slot_set_contains (wpAny_call_entry F.slot_set_contains hT entry_set_contains ?_ (F.args_set_contains_2 _ _)))
  unfold Builtin.«frozenset.__contains__» Builtin.Frozenset.oneOther
  simp only [List.isEmpty_nil, bind_assoc]
  unfold Builtin.Frozenset.addrOf Builtin.Frozenset.withSetAsKey setContains
  iterate 2
    refine wpAny_bind (wpAny_pure ?_)
    try dsimp only
  refine wpAny_bind (wpAny_tryCatch (wpAny_holding ?_))
  refine wpAny_bind (wpAny_pyHash_tuple (by simpa using hu) hx ?_)
  have R2 : SetTR P w ({ s with toks := s.toks + (k.length + 1) } : Shared).heap a L es ep t := R
  have done : ∀ r : Option Nat, r.isSome = decide (k ∈ L.map (·.2)) → wpAny (model P w) A (ret (Value.bool r.isSome)) (fun f s' => f = .done (.ret (.bool (decide (k ∈ L.map (·.2))))) ∧ s' = { s with toks := s.toks + (k.length + 1) }) E { s with toks := s.toks + (k.length + 1) } := fun r e => wpAny_pure ⟨by rw [e], rfl⟩
  refine wpAny_bind (find_tup (s := { s with toks := s.toks + (k.length + 1) }) R2 hx (by simpa using hu) (fun m i => ?_) (fun m => ?_))
  · refine wpAny_pure ?_
    show wpAny _ _ (ret (Value.bool true)) _ _ _
    rw [show (true : Bool) = decide (k ∈ L.map (·.2)) from (decide_eq_true m).symm]
    exact wpAny_pure ⟨_, rfl, wpAny_truthy_bool (wpAny_pure (h _))⟩
  · refine wpAny_pure ?_
    show wpAny _ _ (ret (Value.bool false)) _ _ _
    rw [show (false : Bool) = decide (k ∈ L.map (·.2)) from (decide_eq_false m).symm]
    exact wpAny_pure ⟨_, rfl, wpAny_truthy_bool (wpAny_pure (h _))⟩
end
section
variable {X : Cx}
/-- t in d, d a set of tuples of ints -/
def rInT (K : PySem.W.Frag) (P : Program) (w : World) : V → V → Hp → VK → Prop := fun x y H Q => ∃ (t d : Addr) (k : List Int) (L : List (Addr × List Int)), x = .ref t ∧ y = .ref d ∧ SqT K H t (k.map V.int) ∧ H d = some (SetTO P w d L) ∧ (∀ p ∈ L, SqT K H p.1 (p.2.map V.int)) ∧ Q (.bl (decide (k ∈ L.map (·.2)))) H
theorem op_inT (hu : X.A.units + 1 < cLine) : OpR X (compareOp .In) (rInT X.K X.prog X.w) := by
  intro pins s σ H x y v u Q I rx ry h
  obtain ⟨t, d, k, L, rfl, rfl, ht, hd, hL, q⟩ := h
  cases rx
  cases ry
  have R0 : SetT0 X.prog X.w s.heap d L := (I.hok d _ hd).1
  obtain ⟨es, ep, tb, R⟩ := R0.full fun p hp => I.isT (hL p hp)
  exact in_tup R (I.isT ht) hu fun tk => ⟨.bl _, H, I.tok _, rfl, q⟩
/-- set(), to be filled with tuples of ints -/
def rSet0T (P : Program) (w : World) : List V → Hp → VK → Prop := fun xs H Q => xs = [] ∧ ∀ p, H p = none → Q (.ref p) (upd H p (SetTO P w p []))
theorem cr_set0T : CallR X (.type "set") (rSet0T X.prog X.w) := by
  intro pins s σ H xs us Q I r h
  obtain ⟨rfl, q⟩ := h
  cases r
  refine setR_new fun new => ?_
  have R : SetTR X.prog X.w (s.heap.push { cls := .type "set", dict := none, data := .set #[] 0 (.fresh 0 0 (!X.w.params.followText "set-order")) }) s.heap.objs.size [] #[] 0 (.fresh 0 0 (!X.w.params.followText "set-order")) := setTR_fresh (Heap.get?_push_size _ rfl)
  exact ⟨.ref _, upd H s.heap.objs.size (SetTO X.prog X.w s.heap.objs.size []), I.laid (t' := s.toks) (fun b u e => Heap.get?_push_of_some _ e) (Nat.le_refl _) (setTO_new R.t0), rfl, q _ (I.hok.fresh (Nat.le_refl _))⟩
/-- d.add(t) -/
def rAddT (K : PySem.W.Frag) (P : Program) (w : World) : V → List V → Hp → VK → Prop := fun x xs H Q => ∃ (d t : Addr) (k : List Int) (L : List (Addr × List Int)), x = .ref d ∧ xs = [.ref t] ∧ H d = some (SetTO P w d L) ∧ (∀ p ∈ L, SqT K H p.1 (p.2.map V.int)) ∧ SqT K H t (k.map V.int) ∧ L.length + 1 < 64 ∧
  ∀ L', (k ∈ L.map (·.2) → L' = L) → (k ∉ L.map (·.2) → L'.Perm ((t, k) :: L)) → Q .non (upd H d (SetTO P w d L'))
theorem call_addT {pins : List (Addr × Obj)} {σ : L2.St} {H : Hp} {s : Shared} {Q : VK} {x : V} {xs : List V} {u : Value} {us : List Value} (hu : X.A.units + 1 < cLine) (I : L2.Inv X pins σ H s) (rx : RelV x u) (rxs : Vals xs us) (h : rAddT X.K X.prog X.w x xs H Q) :
    wpAny (model X.prog X.w) X.A (call (.builtin "set.add") (u :: us)) (EP X pins σ Q) X.xe s := by
  obtain ⟨d, t, k, L, rfl, rfl, hd, hL, ht, few, q⟩ := h
  cases rx
  match rxs with
  | .cons ry .nil =>
    cases ry
    have R0 : SetT0 X.prog X.w s.heap d L := (I.hok d _ hd).1
    obtain ⟨es, ep, tb, R⟩ := R0.full fun p hp => I.isT (hL p hp)
    have hk : L2.IsT X.prog X.w s.heap k t := I.isT ht
    have hT : s.TypeIs (.ref d) "set" := by
      obtain ⟨o, ho, hx, _⟩ := R.ob
      exact ⟨o, ho, hx.1⟩
    refine wpAny_call_entry F.slot_set_add hT F.entry_set_add ?_ (F.args_set_add_2 _ _)
    unfold Builtin.«set.add» Builtin.Frozenset.oneOther
    simp only [bind_assoc, List.isEmpty_nil]
    unfold setAdd Builtin.Frozenset.addrOf
    iterate 2
      refine wpAny_bind (wpAny_pure ?_)
      try dsimp only
    refine wpAny_bind (wpAny_holding (wpAny_bind (wpAny_pyHash_tuple (by simpa using hu) hk ?_)))
    refine add_at (s := { s with toks := s.toks + (k.length + 1) }) R hk (by simpa using hu) few fun b h' L' es' ep' t' sb R2 c1 c2 => ?_
    show wpAny _ _ (ret Value.none) _ _ _
    have there : ∃ u, h'.get? d = some u := by
      obtain ⟨o, ho, _⟩ := R2.ob
      exact ⟨o, ho⟩
    exact wpAny_pure ⟨_, rfl, .non, _, I.write (e := d) (t' := s.toks + (k.length + 1)) (by rw [hd]; trivial) (.inl rfl) (fun b u hb q => (sb.2 b hb).trans q) there (setTO_new R2.t0), rfl, q L' c1 c2⟩
def tAddT (K : PySem.W.Frag) (P : Program) (w : World) (to : TE) (t : TA) : TE := fun σ H Q => to σ H fun x H1 => (∃ d L, x = V.ref d ∧ H1 d = some (SetTO P w d L) ∧ (∀ p ∈ L, SqT K H1 p.1 (p.2.map V.int))) ∧ t σ H1 fun xs H2 => rAddT K P w x xs H2 Q
variable {o e : Expr} {es : List Expr} {to : TE} {t : TA} {apos cpos : Pos}
theorem pe_addT (hu : X.A.units + 1 < cLine) (ho : PE X o to) (ha : PA X (e :: es) t)
    (hbase : attributeBase o "add" X.env (eval o X.env) = eval o X.env := by rfl)
    (hfew : ((backTo cpos (starEach (e :: es) X.env)).all (fun x => !x.1) && (backToKw cpos (keywordEach [] X.env)).all (fun x => x.1.isSome)
      && decide ((e :: es).length + ([] : List Keyword).length + (if ([] : List Keyword).isEmpty then 0 else 1) < 30)) = true := by rfl)
    (hline : (apos.endLine == cpos.line) = true := by rfl) (hs : starEach (e :: es) X.env = (false, eval e X.env) :: starEach es X.env := by rfl) (hplain : (backTo cpos (starEach es X.env)).any (·.1) = false := by rfl) :
    PE X (.Call (.Attribute o "add" apos) (e :: es) [] cpos) (tAddT X.K X.prog X.w to t) := by
  refine ⟨fun pins s σ H Q I h => ?_⟩
  refine wpAny_Call_method_late hbase hfew hline rfl (thn (ho.run pins s σ H _ I h) fun v s1 ⟨x, H1, I1, r1, ⟨d, L, ex, hd, hL⟩, q1⟩ => ?_)
  subst ex
  cases r1
  have R0 : SetT0 X.prog X.w s1.heap d L := (I1.hok d _ hd).1
  obtain ⟨es', ep, tb, R⟩ := R0.full fun p hp => I1.isT (hL p hp)
  obtain ⟨ob, hob, hex, hdat⟩ := R.ob
  have hT : s1.TypeIs (.ref d) "set" := ⟨ob, hob, hex.1⟩
  refine ⟨"set", "set.add", F.plainAttrs_set, F.slot_set_add, F.type_set_add, hT, (fun _ z => ?_), ?_⟩
  · cases z
    exact ⟨ob, hob, hex.2.1⟩
  have hA := ha.run cpos pins s1 σ H1 _ I1 q1
  rw [hs] at hA ⊢
  refine Calls.callWith_builtin (by show (false || (backTo cpos (starEach es X.env)).any (·.1)) = false; rw [hplain] <;> rfl) (Calls.evalArgs_plain ?_)
  exact thn hA fun us s2 ⟨vs, H2, I2, r2, q2⟩ => call_addT (x := .ref d) hu I2 rfl r2 q2
end
end Pm
namespace Pm
open PySem PySem.Spec PyProof.Rows L2 SX
/-! ### conditions -/
/-- an offset and the signs -/
abbrev Cnd := (Int × Int) × List Nat
def CondO (c : Cnd) : HO := .tup [.int c.1.1, .int c.1.2, .str (S c.2)]
def refC (ks : List (Addr × Cnd)) : List V := ks.map fun q => V.ref q.1
def placeB (p : Int × Int) : Bool := (decide (-3 ≤ p.1) && decide (p.1 ≤ 3)) && ((decide (-3 ≤ p.2) && decide (p.2 ≤ 3)) && (decide (p.1 ≠ 0) || decide (p.2 ≠ 0)))
def badAt (i : Nat) (seen : List (Int × Int)) (c : Cnd) : Bool := decide (8 < i) || !placeB c.1 || decide (c.1 ∈ seen) || !diffB 35 c.2
def fstBad : Nat → List (Int × Int) → List Cnd → Option Nat
  | _, _, [] => none
  | i, seen, c :: r => if badAt i seen c then some i else fstBad (i + 1) (c.1 :: seen) r
structure UTx (K : PySem.W.Frag) (mg : Str → Option Value) : Prop where
  reach : ∃ u, mg "REACH" = some u ∧ RelV (.int 3) u
  most : ∃ u, mg "MOST_CONDITIONS" = some u ∧ RelV (.int 8) u
section
variable {P : Program} {w : World} {K : PySem.W.Frag} {mg : Str → Option Value} {base : Heap} {C CI : Addr}
theorem scEInvalidRule : FnScope ["self", "part"] ["self", "part"] (defScope cInvalidRuleInit) := ⟨rfl, rfl, rfl, by decide +kernel, rfl, by decide +kernel, by decide +kernel⟩
theorem okEInvalidRule {f C : Addr} {fd : FuncData} (F : Fun K "__init__" "InvalidRule.__init__" cInvalidRuleInit f fd) (T : OexC K C) (nx : PySem.W.findIn K (.ref C) "part" = some none) : FnOk P w K mg base CX0 1 f fd ["self", "part"] (spE1 C "part") := by
  refine F.ok scEInvalidRule (fun vs H Q E h => ?_) (fun cdv A outer s H vs Q E hr h => ?_)
  · obtain ⟨a, v, rfl, _⟩ := h
    rfl
  · obtain ⟨a, v, rfl, ha, k⟩ := h
    refine ⟨_, pss_one (ps_ost (pv 0) (pv 1)), ?_⟩
    refine ⟨_, rfl, _, rfl, a, C, rfl, T, nx, .inl ⟨ha, fun dx nd ne => ?_⟩⟩
    refine k _ dx upd_same (by rw [upd_ne ne, upd_same]) nd ne fun b o nb e => ?_
    rw [upd_ne nb, upd_ne (ne_of_none e nd)]
    exact e

def spPlace : Sp := fun vs H Q _ => ∃ dx dy, vs = [.int dx, .int dy] ∧ Q (.bl (placeB (dx, dy))) H
theorem scPlace : FnScope ["dx", "dy"] ["dx", "dy"] (defScope gIsPlace) := ⟨rfl, rfl, rfl, by decide +kernel, rfl, by decide +kernel, by decide +kernel⟩
theorem ok_place {f : Addr} {fd : FuncData} (F : Fun K "_is_place" "_is_place" gIsPlace f fd) (U : UTx K mg) : FnOk P w K mg base CX0 1 f fd ["dx", "dy"] spPlace := by
  refine F.ok scPlace (fun vs H Q E h => ?_) (fun cdv A outer s H vs Q E hr h => ?_)
  · obtain ⟨dx, dy, rfl, _⟩ := h
    rfl
  · obtain ⟨dx, dy, rfl, k⟩ := h
    obtain ⟨ur, hR, rR⟩ := U.reach
    refine ⟨_, pss_one (ps_ret (pe_and (pe_chain op_le op_le (pe_un un_neg (pe_glob (by rfl) hR rR)) (pv 0) (pe_glob (by rfl) hR rR)) (pe_and (pe_chain op_le op_le (pe_un un_neg (pe_glob (by rfl) hR rR)) (pv 1) (pe_glob (by rfl) hR rR))
      (pe_one (pe_or (pe_cmpR op_ne (pv 0) pe_int (nomark _)) (pe_one (pe_cmpR op_ne (pv 1) pe_int (nomark _)))))))), ?_⟩
    have q : ∀ b, placeB (dx, dy) = b → Q (.bl b) H := fun b e => by
      rw [e] at k
      exact k
    refine ⟨3, rfl, _, rfl, _, _, rfl, rfl, _, rfl, ite2 (fun a => ?_) (fun a => ?_)⟩
    · have a : -3 ≤ dx := of_decide_eq_true a
      refine ⟨_, _, rfl, rfl, _, rfl, ite2 (fun b => ?_) (fun b => ?_)⟩
      · have b : dx ≤ 3 := of_decide_eq_true b
        refine ⟨3, rfl, _, rfl, _, _, rfl, rfl, _, rfl, ite2 (fun c => ?_) (fun c => ?_)⟩
        · have c : -3 ≤ dy := of_decide_eq_true c
          refine ⟨_, _, rfl, rfl, _, rfl, ite2 (fun d => ?_) (fun d => ?_)⟩
          · have d : dy ≤ 3 := of_decide_eq_true d
            refine ⟨_, rfl, rfl, _, rfl, ?_⟩
            by_cases e : dx = 0
            · refine iteFe (by simp [e]) ⟨_, rfl, rfl, q _ ?_⟩
              unfold placeB
              simp [a, b, c, d, e]
            · refine iteTe (by simp [e]) (q _ ?_)
              unfold placeB
              simp [a, b, c, d, e]
          · have d : ¬ dy ≤ 3 := fun z => d (decide_eq_true z)
            exact q false (by unfold placeB; simp [d])
        · have c : ¬ -3 ≤ dy := fun z => c (decide_eq_true z)
          exact ⟨_, rfl, iteF (q false (by unfold placeB; simp [c]))⟩
      · have b : ¬ dx ≤ 3 := fun z => b (decide_eq_true z)
        exact q false (by unfold placeB; simp [b])
    · have a : ¬ -3 ≤ dx := fun z => a (decide_eq_true z)
      exact ⟨_, rfl, iteF (q false (by unfold placeB; simp [a]))⟩
end
end Pm
namespace Pm
open PySem PySem.Spec PyProof.Rows L2 SX
theorem hash_S : ("#" : Str) = S [35] := by decide +kernel
theorem walkS' {K : PySem.W.Frag} {a : Addr} {xs : List V} : Walk (ItS K a) xs.length (fun H => SqL K H a xs) (fun i H v H' => ∃ T x, v = .ref T ∧ H T = none ∧ H' = upd H T (.tup [.int ((i : Int) + 1), x]) ∧ xs[i]? = some x) := walkS
theorem refC_at {ks : List (Addr × Cnd)} {i : Nat} {x : V} (h : (refC ks)[i]? = some x) : ∃ t c, ks[i]? = some (t, c) ∧ x = .ref t := by
  unfold refC at h
  rw [List.getElem?_map] at h
  cases e : ks[i]? with
  | none =>
    rw [e] at h
    cases h
  | some q =>
    rw [e] at h
    cases h
    exact ⟨q.1, q.2, rfl, rfl⟩
/-- conditions in the heap: their list and each -/
structure CndsAt (H : Hp) (a : Addr) (ks : List (Addr × Cnd)) : Prop where
  lst : H a = some (.lst (refC ks))
  each : ∀ q ∈ ks, H q.1 = some (CondO q.2)
theorem CndsAt.same {H H' : Hp} {a : Addr} {ks : List (Addr × Cnd)} (h : CndsAt H a ks) (s : Same H H') : CndsAt H' a ks := ⟨s _ _ h.lst, fun q hq => s _ _ (h.each q hq)⟩
/-- the search, step by step -/
theorem fst_step {i : Nat} {seen : List (Int × Int)} {c : Cnd} {r : List Cnd} : fstBad i seen (c :: r) = if badAt i seen c then some i else fstBad (i + 1) (c.1 :: seen) r := rfl
def seenOf (cs : List Cnd) (i : Nat) : List (Int × Int) := ((cs.take i).map (·.1)).reverse
theorem seen_succ {cs : List Cnd} {i : Nat} {c : Cnd} (h : cs[i]? = some c) : seenOf cs (i + 1) = c.1 :: seenOf cs i := by
  unfold seenOf
  rw [List.take_add_one, h]
  simp
section
variable {P : Program} {w : World} {K : PySem.W.Frag} {mg : Str → Option Value} {base : Heap} {C CI : Addr}
def spCheck (CI : Addr) : Sp := fun vs H Q E => ∃ a ks, vs = [.ref a] ∧ CndsAt H a ks ∧ ks.length ≤ 1000 ∧ (∀ q ∈ ks, q.2.2.length ≤ 1000) ∧
  (∀ p, fstBad 1 [] (ks.map (·.2)) = some p → Lets E CI [("part", .int (p : Int))] H) ∧ (fstBad 1 [] (ks.map (·.2)) = none → ∀ H', Same H H' → Q .non H')
abbrev nCheck : List Str := ["conditions", "earlier", "part", "dx", "dy", "signs"]
theorem scCheck : FnScope nCheck ["conditions"] (defScope gCheckConditions) := ⟨rfl, rfl, rfl, by decide +kernel, rfl, by decide +kernel, by decide +kernel⟩
theorem ok_check {f g d e : Addr} {fd gd dd ed : FuncData} (F : Fun K "_check_conditions" "_check_conditions" gCheckConditions f fd) (G : Cl P w K mg base CX0 1 "_is_place" ["dx", "dy"] spPlace g gd) (D : Cl P w K mg base CX0 2 "are_different_signs" ["signs", "besides"] spDiff d dd)
    (Ex : EMk P w K mg base CI "InvalidRule" ["self", "part"] (spE1 CI "part") e ed) (T : PTxt K mg C) (R : STxt K mg) (U : UTx K mg) : FnOk P w K mg base (L2.CX P w) 3 f fd ["conditions"] (spCheck CI) := by
  refine F.okX scCheck (fun vs H Q E h => ?_) (fun cdv A outer s H vs Q E hr h => ?_)
  · obtain ⟨a, ks, rfl, _⟩ := h
    rfl
  · obtain ⟨a, ks, rfl, hc, few, each, bad, good⟩ := h
    have hr1 : Room 1 _ := hr.mono (by decide)
    have hr2 : Room 2 _ := hr
    have hu := hu_of hr
    obtain ⟨mc, cr, _, ⟨uE, hE⟩⟩ := T.cr
    obtain ⟨um, hM, rM⟩ := U.most
    refine ⟨_, (pss_cons (ps_set (i := 1) scCheck.nd rfl (.inl rfl) (pe_callTy0 cr_set0T (by rfl) R.set (by decide +kernel)))
      (pss_one (ps_for (passes_of rfl) rfl (pi_enumS (by rfl) T.enum (pa_cons (pv 0) pa_nil) (pk_cons pe_int pk_nil)) (pg_tup rfl (pgs_cons (pg_name (i := 2) scCheck.nd rfl (.inl rfl)) (pgs_cons (pg_tup rfl (pgs_cons (pg_name (i := 3) scCheck.nd rfl (.inl rfl)) (pgs_cons (pg_name (i := 4) scCheck.nd rfl (.inl rfl)) (pgs_cons (pg_name (i := 5) scCheck.nd rfl (.inl rfl)) pgs_nil)))) pgs_nil))) (pss_cons (ps_if (PW.pt (pw_or (pt_cmpR op_gt (pv 2) (pe_glob (by rfl) hM rM) (nomark _)) (pw_or (pt_not (pt_val (pe_call G.ok hr1 (by rfl) G.gl G.kp G.bd .nil pass0 (pa_cons (pv 3) (pa_cons (pv 4) pa_nil))))) (pw_or1 (pt_cmpR (op_inT hu) (pe_tup (pa_cons (pv 3) (pa_cons (pv 4) pa_nil))) (pv 1) (by rfl)))))) (pss_one (ps_raise rfl (takes_of rfl rfl rfl rfl) (pmk_oex Ex.T Ex.at_ Ex.ty Ex.ok hr2 Ex.bd .nil pass0 (by rfl) Ex.gl (pa_cons (pv 2) pa_nil)))) pss_nil)
        (pss_cons (ps_if (pt_not (pt_val (pe_call D.ok hr (by rfl) D.gl D.kp D.bd .nil pass0 (pa_cons (pv 5) (pa_cons (ClX.pe_cval (pe_glob (v := .ref C) (by rfl) T.gC rfl)) pa_nil))))) (pss_one (ps_raise rfl (takes_of rfl rfl rfl rfl) (pmk_oex Ex.T Ex.at_ Ex.ty Ex.ok hr2 Ex.bd .nil pass0 (by rfl) Ex.gl (pa_cons (pv 2) pa_nil)))) pss_nil)
        (pss_one (ps_expr (pe_addT hu (pv 1) (pa_cons (pe_tup (pa_cons (pv 3) (pa_cons (pv 4) pa_nil))) pa_nil))))))))), ?_⟩
    refine ⟨rfl, fun D0 nD0 => ?_⟩
    have s0 := same_upd (o := SetTO P w D0 []) nD0
    have hD0 : (upd H D0 (SetTO P w D0 [])) D0 = some (SetTO P w D0 []) := upd_same
    refine ⟨_, rfl, a, _, rfl, rfl, SqL.of (s0 _ _ hc.lst), for_it walkS (fun i σ G => ∃ y2 y3 y4 y5 L, σ = [some (.ref a), some (.ref D0), y2, y3, y4, y5] ∧ Same H G ∧ (∀ b o, b ≠ D0 → upd H D0 (SetTO P w D0 []) b = some o → G b = some o) ∧ G D0 = some (SetTO P w D0 L) ∧ (∀ p ∈ L, G p.1 = some (.tup (p.2.map V.int))) ∧
      (∀ c : Int × Int, [c.1, c.2] ∈ L.map (·.2) ↔ c ∈ seenOf (ks.map (·.2)) i) ∧ L.length ≤ i ∧ i ≤ 8 ∧ fstBad 1 [] (ks.map (·.2)) = fstBad (i + 1) (seenOf (ks.map (·.2)) i) ((ks.map (·.2)).drop i)) ⟨_, _, _, _, [], rfl, s0, fun _ _ _ e => e, hD0, (fun p hp => nomatch hp), (fun c => ⟨fun z => (nomatch z), fun z => (nomatch z)⟩), Nat.le_refl _, by decide, rfl⟩ (fun i σ G _ ⟨_, _, _, _, _, _, sG, _⟩ => SqL.of (sG _ _ hc.lst)) ?_ ?_⟩
    · rintro i x σ G G' hi ⟨y2, y3, y4, y5, L, rfl, sG, oG, hD, hL, hk, ll, i8, ef⟩ ⟨T1, x1, rfl, nT, rfl, gx⟩
      obtain ⟨t, c, hti, rfl⟩ := refC_at gx
      have mq : (t, c) ∈ ks := List.mem_of_getElem? hti
      have s1 := same_upd (o := .tup [.int ((i : Int) + 1), .ref t]) nT
      have s2 := sG.trans s1
      have ht := s2 _ _ (hc.each _ mq)
      have hci : (ks.map (·.2))[i]? = some c := by
        rw [List.getElem?_map, hti]
        rfl
      have edr : (ks.map (·.2)).drop i = c :: (ks.map (·.2)).drop (i + 1) := by
        obtain ⟨h1, h2⟩ := List.getElem?_eq_some_iff.mp hci
        rw [List.drop_eq_getElem_cons h1, h2]
      rw [edr, fst_step] at ef
      have isbad : badAt (i + 1) (seenOf (ks.map (·.2)) i) c = true → fstBad 1 [] (ks.map (·.2)) = some (i + 1) := fun e => by rw [ef, if_pos e]
      refine ⟨T1, _, rfl, SqT.of upd_same, rfl, _, _, rfl, _, _, rfl, t, _, rfl, SqT.of ht, rfl, _, _, rfl, _, _, rfl, _, _, rfl, rfl, rfl, ?_⟩
      refine ⟨_, rfl, _, _, rfl, rfl, _, rfl, ?_⟩
      by_cases b1 : 8 < i + 1
      · have hb := isbad (by unfold badAt; simp [b1])
        refine iteTe (decide_eq_true (by omega)) (iteT ?_)
        refine ⟨_, rfl, by show 1 ≤ 1000; decide, fun x nx => ⟨x, _, rfl, upd_same, fun H2 d h1 h2 nd ne sb => ⟨rfl, d, _, h1, h2, ?_, ?_⟩⟩⟩
        · rwa [upd_ne ne] at nd
        · exact bad _ hb d _ (back s2 (by rwa [upd_ne ne] at nd)) upd_same (s2.trans (on_way nx nd ne sb))
      refine iteFe (decide_eq_false (by omega)) ⟨_, rfl, _, rfl, _, _, rfl, _, rfl, ?_⟩
      cases b2 : placeB c.1 with
      | false =>
        have hb := isbad (by unfold badAt; simp [b2])
        refine iteTe rfl (iteT ?_)
        refine ⟨_, rfl, by show 1 ≤ 1000; decide, fun x nx => ⟨x, _, rfl, upd_same, fun H2 d h1 h2 nd ne sb => ⟨rfl, d, _, h1, h2, ?_, ?_⟩⟩⟩
        · rwa [upd_ne ne] at nd
        · exact bad _ hb d _ (back s2 (by rwa [upd_ne ne] at nd)) upd_same (s2.trans (on_way nx nd ne sb))
      | true =>
      refine iteFe rfl ⟨_, rfl, _, rfl, by show 2 ≤ sizeLine; decide, fun p np => ?_⟩
      have s3 := s2.trans (same_upd (o := .tup [.int c.1.1, .int c.1.2]) np)
      have hD2 : upd (upd G T1 (.tup [.int ((i : Int) + 1), .ref t])) p (.tup [.int c.1.1, .int c.1.2]) D0 = some (SetTO P w D0 L) := by
        rw [upd_ne (ne_of_none (s1 _ _ hD) np)]
        exact s1 _ _ hD
      have hL2 : ∀ q ∈ L, upd (upd G T1 (.tup [.int ((i : Int) + 1), .ref t])) p (.tup [.int c.1.1, .int c.1.2]) q.1 = some (.tup (q.2.map V.int)) := fun q hq => same_upd np _ _ (s1 _ _ (hL q hq))
      refine ⟨_, rfl, p, D0, [c.1.1, c.1.2], L, rfl, rfl, SqT.of upd_same, hD2, fun q hq => SqT.of (hL2 q hq), _, rfl, ?_⟩
      by_cases b3 : c.1 ∈ seenOf (ks.map (·.2)) i
      · have hb := isbad (by unfold badAt; simp [b3])
        refine iteTe (decide_eq_true ((hk c.1).mpr b3)) ?_
        refine ⟨_, rfl, by show 1 ≤ 1000; decide, fun x nx => ⟨x, _, rfl, upd_same, fun H2 d h1 h2 nd ne sb => ⟨rfl, d, _, h1, h2, ?_, ?_⟩⟩⟩
        · rwa [upd_ne ne] at nd
        · exact bad _ hb d _ (back s3 (by rwa [upd_ne ne] at nd)) upd_same (s3.trans (on_way nx nd ne sb))
      refine iteFe (decide_eq_false fun z => b3 ((hk c.1).mp z)) ?_
      refine ⟨_, rfl, C, mc, _, uE, rfl, cr, hE, c.2, 35, (by rw [hash_S]; rfl), each _ mq, fun G4 s4 => ⟨_, rfl, ?_⟩⟩
      cases b4 : diffB 35 c.2 with
      | false =>
        have hb := isbad (by unfold badAt; simp [b4])
        have s5 := s3.trans s4
        refine iteT ?_
        refine ⟨_, rfl, by show 1 ≤ 1000; decide, fun x nx => ⟨x, _, rfl, upd_same, fun H2 d h1 h2 nd ne sb => ⟨rfl, d, _, h1, h2, ?_, ?_⟩⟩⟩
        · rwa [upd_ne ne] at nd
        · exact bad _ hb d _ (back s5 (by rwa [upd_ne ne] at nd)) upd_same (s5.trans (on_way nx nd ne sb))
      | true =>
      refine iteF ?_
      refine ⟨_, rfl, ⟨D0, L, rfl, s4 _ _ hD2, fun q hq => SqT.of (s4 _ _ (hL2 q hq))⟩, _, rfl, _, rfl, by show 2 ≤ sizeLine; decide, fun p2 np2 => ?_⟩
      have s6 := same_upd (o := .tup [.int c.1.1, .int c.1.2]) np2
      have hD3 := s6 _ _ (s4 _ _ hD2)
      have new : [c.1.1, c.1.2] ∉ L.map (·.2) := fun z => b3 ((hk c.1).mp z)
      refine ⟨D0, p2, [c.1.1, c.1.2], L, rfl, rfl, hD3, fun q hq => SqT.of (s6 _ _ (s4 _ _ (hL2 q hq))), SqT.of upd_same, by omega, fun L' _ c2 => ?_⟩
      have pm := c2 new
      have s7 : ∀ b o, b ≠ D0 → upd G4 p2 (.tup [.int c.1.1, .int c.1.2]) b = some o → upd (upd G4 p2 (.tup [.int c.1.1, .int c.1.2])) D0 (SetTO P w D0 L') b = some o := fun b o nb e => by
        rw [upd_ne nb]
        exact e
      have sAll : Same G (upd G4 p2 (.tup [.int c.1.1, .int c.1.2])) := ((s1.trans (same_upd np)).trans s4).trans s6
      have np2D : p2 ≠ D0 := Ne.symm (ne_of_none (s4 _ _ hD2) np2)
      refine ⟨_, _, _, _, L', rfl, fun b o e => ?_, fun b o nb e => s7 b o nb (sAll _ _ (oG b o nb e)), upd_same, fun q hq => ?_, fun d => ?_, ?_, by omega, ?_⟩
      · exact s7 b o (ne_of_none e nD0) (sAll _ _ (sG _ _ e))
      · rcases List.mem_cons.mp (pm.mem_iff.mp hq) with z | z
        · subst z
          exact s7 _ _ np2D upd_same
        · refine s7 _ _ (fun y => ?_) (sAll _ _ (hL q z))
          have y2 := hL q z
          rw [y, hD] at y2
          cases y2
      · rw [(pm.map (·.2)).mem_iff, seen_succ hci, List.map_cons, List.mem_cons, List.mem_cons, hk d]
        constructor
        · rintro (z | z)
          · simp only [List.cons.injEq, and_true] at z
            exact .inl (Prod.ext z.1 z.2)
          · exact .inr z
        · rintro (z | z)
          · rw [z]
            exact .inl rfl
          · exact .inr z
      · rw [pm.length_eq, List.length_cons]
        omega
      · rw [ef, if_neg (by unfold badAt; simp [b1, b2, b3, b4]), seen_succ hci]
    · rintro σ G ⟨y2, y3, y4, y5, L, rfl, sG, oG, hD, hL, hk, ll, i8, ef⟩
      refine good ?_ G sG
      rw [ef, show (refC ks).length = (ks.map (·.2)).length by unfold refC; rw [List.length_map, List.length_map], List.drop_length]
      rfl
end
end Pm
namespace Pm
open PySem PySem.Spec PyProof.Rows L2 SX
/-- from top to bottom, then from left to right -/
def fl (p : Int × Int) : Int × Int := (p.2, p.1)
def Ord (cs : List Cnd) : Prop := cs.Pairwise fun p q => SrtO.lexB (fl q.1) (fl p.1) = false
def ascC (c : Cnd) : Cnd := (c.1, asc c.2)
def unS (s : Str) : List Nat := s.cps.toList
theorem S_unS (s : Str) : S (unS s) = s := by
  obtain ⟨a⟩ := s
  rfl
theorem unS_S (z : List Nat) : unS (S z) = z := by
  unfold unS
  simp
section
variable {P : Program} {w : World} {K : PySem.W.Frag} {mg : Str → Option Value} {base : Heap} {C CI : Addr}
def spNeed (CI : Addr) : Sp := fun vs H Q E => ∃ n c, vs = [.int n, .int c] ∧ (¬ (0 ≤ n ∧ n ≤ c) → Lets E CI [("part", .int 0)] H) ∧ (0 ≤ n ∧ n ≤ c → Q .non H)
theorem scNeed : FnScope ["need", "count"] ["need", "count"] (defScope gCheckNeed) := ⟨rfl, rfl, rfl, by decide +kernel, rfl, by decide +kernel, by decide +kernel⟩
theorem ok_need {f e : Addr} {fd ed : FuncData} (F : Fun K "_check_need" "_check_need" gCheckNeed f fd) (Ex : EMk P w K mg base CI "InvalidRule" ["self", "part"] (spE1 CI "part") e ed) : FnOk P w K mg base (L2.CX P w) 3 f fd ["need", "count"] (spNeed CI) := by
  refine F.okX scNeed (fun vs H Q E h => ?_) (fun cdv A outer s H vs Q E hr h => ?_)
  · obtain ⟨n, c, rfl, _⟩ := h
    rfl
  · obtain ⟨n, c, rfl, bad, good⟩ := h
    have hr2 : Room 2 _ := hr
    refine ⟨_, (pss_one (ps_if (pt_not (pt_chain op_le op_le pe_int (pv 0) (pv 1))) (pss_one (ps_raise rfl (takes_of rfl rfl rfl rfl) (pmk_oex Ex.T Ex.at_ Ex.ty Ex.ok hr2 Ex.bd .nil pass0 (by rfl) Ex.gl (pa_cons pe_int pa_nil)))) pss_nil)), ?_⟩
    have out : ¬ (0 ≤ n ∧ n ≤ c) → ∀ x, H x = none → ∀ H2 d, H2 x = some (exo x CI (some d)) → H2 d = some (exd d [("part", .int 0)]) → upd H x (exo x CI none) d = none → d ≠ x → SameBut x (upd H x (exo x CI none)) H2 → E (.ref CI) (some d) (upd (del H2 x) d (.xd [("part", .int 0)])) := fun nb x nx H2 d h1 h2 nd ne sb => by
      exact bad nb d _ (by rwa [upd_ne ne] at nd) upd_same (on_way nx nd ne sb)
    refine ⟨_, rfl, _, _, rfl, rfl, _, rfl, ite2 (fun a => ?_) (fun a => ?_)⟩
    · have a : 0 ≤ n := of_decide_eq_true a
      refine ⟨_, rfl, _, _, rfl, rfl, _, rfl, ?_⟩
      by_cases b : n ≤ c
      · exact iteFe (by rw [decide_eq_true b]; rfl) (good ⟨a, b⟩)
      · refine iteTe (by rw [decide_eq_false b]; rfl) ⟨by show 1 ≤ 1000; decide, fun x nx => ⟨x, _, rfl, upd_same, fun H2 d h1 h2 nd ne sb => ⟨rfl, d, _, h1, h2, ?_, ?_⟩⟩⟩
        · rwa [upd_ne ne] at nd
        · exact out (fun z => b z.2) x nx H2 d h1 h2 nd ne sb
    · have a : ¬ 0 ≤ n := fun z => a (decide_eq_true z)
      refine ⟨_, rfl, iteT ⟨by show 1 ≤ 1000; decide, fun x nx => ⟨x, _, rfl, upd_same, fun H2 d h1 h2 nd ne sb => ⟨rfl, d, _, h1, h2, ?_, ?_⟩⟩⟩⟩
      · rwa [upd_ne ne] at nd
      · exact out (fun z => a z.1) x nx H2 d h1 h2 nd ne sb
def New (H : Hp) (ms : List (Addr × Cnd)) : Prop := ∀ q ∈ ms, H q.1 = none
theorem New.app {H : Hp} {ms : List (Addr × Cnd)} {q : Addr × Cnd} (h : New H ms) (n : H q.1 = none) : New H (ms ++ [q]) := fun p m => by
  rcases List.mem_append.mp m with z | z
  · exact h p z
  · rw [List.mem_singleton.mp z]
    exact n
def spInOrder : Sp := fun vs H Q _ => ∃ a ks, vs = [.ref a] ∧ CndsAt H a ks ∧ ks.length ≤ 1000 ∧ (∀ q ∈ ks, q.2.2.length ≤ 1000) ∧ (ks.map fun q => q.2.1).Nodup ∧
  ∀ p ms H', Same H H' → H p = none → CndsAt H' p ms → New H ms → (ms.map (·.2)).Perm ((ks.map (·.2)).map ascC) → Ord (ms.map (·.2)) → Q (.ref p) H'
abbrev nInOrder : List Str := ["conditions", "dx", "dy", "signs", "flipped"]
theorem scInOrder : FnScope nInOrder ["conditions"] (defScope gInOrder) := ⟨rfl, rfl, rfl, by decide +kernel, rfl, by decide +kernel, by decide +kernel⟩
theorem ok_inorder {f g : Addr} {fd gd : FuncData} (F : Fun K "_in_order" "_in_order" gInOrder f fd) (G : Cl P w K mg base CX0 1 "in_ascii_order" ["signs"] spAsc g gd) (R : STxt K mg) : FnOk P w K mg base CX0 2 f fd ["conditions"] spInOrder := by
  refine F.ok scInOrder (fun vs H Q E h => ?_) (fun cdv A outer s H vs Q E hr h => ?_)
  · obtain ⟨a, ks, rfl, _⟩ := h
    rfl
  · obtain ⟨a, ks, rfl, hc, few, each, nd, k⟩ := h
    refine ⟨_, (pss_cons (ps_set (i := 4) scInOrder.nd rfl (.inl rfl) (pe_callB cr_sortedTr (by rfl) R.srt (by decide +kernel) (pa_cons (pe_lc (own := [("dx", 1), ("dy", 2), ("signs", 3)]) (g := (gTup K 3 (gCons (gName 1) (gCons (gName 2) (gCons (gName 3) gNil))))) (tt := tYes) rfl scInOrder.nd (pi_list (pv 0)) (blkOk_by (own := [("dx", 1), ("dy", 2), ("signs", 3)]) (N := nInOrder) (sc := defScope gInOrder) (by decide +kernel)) (fun _ _ _ _ _ => (pg_tup rfl (pgs_cons (pg_name (i := 1) scInOrder.nd rfl (.inl rfl)) (pgs_cons (pg_name (i := 2) scInOrder.nd rfl (.inl rfl)) (pgs_cons (pg_name (i := 3) scInOrder.nd rfl (.inl rfl)) pgs_nil))))) (fun _ _ _ _ _ => pts_nil) (fun _ _ _ _ _ => (pe_tup (pa_cons (pv 2) (pa_cons (pv 1) (pa_cons (pe_call G.ok hr (by rfl) G.gl G.kp G.bd .nil pass0 (pa_cons (pv 3) pa_nil)) pa_nil)))))) pa_nil)))
      (pss_one (ps_ret (pe_lc (own := [("dy", 2), ("dx", 1), ("signs", 3)]) (g := (gTup K 3 (gCons (gName 2) (gCons (gName 1) (gCons (gName 3) gNil))))) (tt := tYes) rfl scInOrder.nd (pi_list (pv 4)) (blkOk_by (own := [("dy", 2), ("dx", 1), ("signs", 3)]) (N := nInOrder) (sc := defScope gInOrder) (by decide +kernel)) (fun _ _ _ _ _ => (pg_tup rfl (pgs_cons (pg_name (i := 2) scInOrder.nd rfl (.inl rfl)) (pgs_cons (pg_name (i := 1) scInOrder.nd rfl (.inl rfl)) (pgs_cons (pg_name (i := 3) scInOrder.nd rfl (.inl rfl)) pgs_nil))))) (fun _ _ _ _ _ => pts_nil) (fun _ _ _ _ _ => (pe_tup (pa_cons (pv 1) (pa_cons (pv 2) (pa_cons (pv 3) pa_nil))))))))), ?_⟩
    refine ⟨.ref a, rfl, a, rfl, ⟨_, SqL.of hc.lst⟩, fun D nD => lc_list (K := K) (a := a) (xs := refC ks) (fun i G => ∃ ts : List Trip, Same H G ∧ G D = some (.lst (ts.map fun p => V.ref p.1)) ∧ (∀ p ∈ ts, G p.1 = some (TripO p)) ∧ ts.map (·.2) = (ks.take i).map fun q => (fl q.2.1, S (asc q.2.2))) ⟨[], same_upd nD, upd_same, (fun p hp => nomatch hp), rfl⟩ (fun i G _ ⟨ts, sm, _⟩ => SqL.of (sm _ _ hc.lst)) ?_ ?_⟩
    · rintro i x G hx ⟨ts, sm, hD, ht, et⟩
      obtain ⟨t, c, hi, rfl⟩ := refC_at hx
      have mq := List.mem_of_getElem? hi
      have htc := sm _ _ (hc.each _ mq)
      have li : i < ks.length := (List.getElem?_eq_some_iff.mp hi).1
      refine ⟨t, _, rfl, SqT.of htc, rfl, _, _, rfl, _, _, rfl, _, _, rfl, rfl, rfl, ?_⟩
      refine tyes (iteT ⟨_, rfl, _, rfl, _, rfl, c.2, rfl, each _ mq, fun G2 s2 => ⟨by show 3 ≤ sizeLine; decide, fun T nT => ?_⟩⟩)
      have s3 := s2.trans (same_upd (o := .tup [.int c.1.2, .int c.1.1, .str (S (asc c.2))]) nT)
      have nDT : D ≠ T := ne_of_none (s2 _ _ hD) nT
      refine ⟨ts.map fun p => V.ref p.1, s3 _ _ hD, ?_, ts ++ [(T, fl c.1, S (asc c.2))], fun b o e => ?_, ?_, fun p hp => ?_, ?_⟩
      · have := congrArg List.length et
        rw [List.length_map, List.length_map, List.length_take] at this
        rw [List.length_map]
        exact small1000 (by omega)
      · rw [upd_ne (ne_of_none e nD)]
        exact s3 _ _ (sm _ _ e)
      · rw [upd_same, List.map_append]
        rfl
      · have pD : ∀ q : Trip, upd G2 T (.tup [.int c.1.2, .int c.1.1, .str (S (asc c.2))]) q.1 = some (TripO q) → q.1 ≠ D := fun q e y => by
          rw [y, s3 _ _ hD] at e
          cases e
        rcases List.mem_append.mp hp with z | z
        · have y := s3 _ _ (ht p z)
          rw [upd_ne (pD p y)]
          exact y
        · rw [List.mem_singleton.mp z]
          rw [upd_ne nDT.symm]
          exact upd_same
      · rw [List.map_append, et, List.take_add_one, hi, List.map_append]
        rfl
    · rintro G ⟨ts, sm, hD, ht, et⟩
      rw [show (refC ks).length = ks.length from List.length_map _, List.take_of_length_le (Nat.le_refl _)] at et
      have ndt : (ts.map fun p => p.2.1).Nodup := by
        have e : ts.map (fun p => p.2.1) = (ks.map fun q => q.2.1).map fl := by
          have y := congrArg (List.map Prod.fst) et
          rw [List.map_map, List.map_map] at y
          rw [List.map_map]
          exact y
        rw [e]
        exact List.pairwise_map.mpr (nd.imp fun ne e => ne (Prod.ext (congrArg Prod.snd e) (congrArg Prod.fst e)))
      refine ⟨D, ts, rfl, SqL.of hD, ht, ndt, fun M d pm pw nd2 => ?_⟩
      have sM := same_upd (o := .lst (M.map fun p => V.ref p.1)) nd2
      have hM : ∀ p ∈ M, upd G d (.lst (M.map fun p => V.ref p.1)) p.1 = some (TripO p) := fun p hp => sM _ _ (ht p (pm.mem_iff.mp hp))
      have hd : upd G d (.lst (M.map fun p => V.ref p.1)) d = some (.lst (M.map fun p => V.ref p.1)) := upd_same
      generalize upd G d (.lst (M.map fun p => V.ref p.1)) = G1 at sM hM hd
      have s01 := sm.trans sM
      refine ⟨.ref d, rfl, d, rfl, ⟨_, SqL.of hd⟩, fun D2 nD2 => lc_list (K := K) (a := d) (xs := M.map fun p => V.ref p.1) (fun i G => ∃ ms : List (Addr × Cnd), Same G1 G ∧ G D2 = some (.lst (refC ms)) ∧ (∀ q ∈ ms, G q.1 = some (CondO q.2)) ∧ ms.map (·.2) = ((M.take i).map fun p => (fl p.2.1, unS p.2.2)) ∧ New H ms) ⟨[], same_upd nD2, upd_same, (fun p hp => nomatch hp), rfl, fun p hp => nomatch hp⟩ (fun i G _ ⟨ms, sm, _⟩ => SqL.of (sm _ _ hd)) ?_ ?_⟩
      · rintro i x G2 hx ⟨ms, sm2, hD2, hms, em, nw⟩
        rw [List.getElem?_map] at hx
        obtain ⟨p, hi, rfl⟩ : ∃ p, M[i]? = some p ∧ x = V.ref p.1 := by
          cases e : M[i]? with
          | none =>
            rw [e] at hx
            cases hx
          | some p =>
            rw [e] at hx
            cases hx
            exact ⟨p, rfl, rfl⟩
        have mp := List.mem_of_getElem? hi
        have htc := sm2 _ _ (hM p mp)
        refine ⟨p.1, _, rfl, SqT.of htc, rfl, _, _, rfl, _, _, rfl, _, _, rfl, rfl, rfl, ?_⟩
        refine tyes (iteT ⟨_, rfl, _, rfl, _, rfl, by show 3 ≤ sizeLine; decide, fun T nT => ?_⟩)
        have s3 := same_upd (o := .tup [.int p.2.1.2, .int p.2.1.1, .str p.2.2]) nT
        have nDT : D2 ≠ T := ne_of_none hD2 nT
        refine ⟨refC ms, s3 _ _ hD2, ?_, ms ++ [(T, fl p.2.1, unS p.2.2)], fun b o e => ?_, ?_, fun q hq => ?_, ?_, nw.app (back (s01.trans sm2) nT)⟩
        · have e1 := congrArg List.length em
          have e2 := pm.length_eq
          have e3 := congrArg List.length et
          rw [List.length_map, List.length_map, List.length_take] at e1
          rw [List.length_map, List.length_map] at e3
          rw [show (refC ms).length = ms.length from List.length_map _]
          exact small1000 (by omega)
        · rw [upd_ne (ne_of_none e nD2)]
          exact s3 _ _ (sm2 _ _ e)
        · rw [upd_same]
          unfold refC
          rw [List.map_append]
          rfl
        · rcases List.mem_append.mp hq with z | z
          · have y := s3 _ _ (hms q z)
            rw [upd_ne (fun e => ?_)]
            · exact y
            · rw [e, s3 _ _ hD2] at y
              cases y
          · rw [List.mem_singleton.mp z]
            rw [upd_ne nDT.symm, upd_same]
            show _ = some (HO.tup [.int (fl p.2.1).1, .int (fl p.2.1).2, .str (S (unS p.2.2))])
            rw [S_unS]
            rfl
        · rw [List.map_append, em, List.take_add_one, hi, List.map_append]
          rfl
      · rintro G2 ⟨ms, sm2, hD2, hms, em, nw⟩
        rw [List.length_map, List.take_of_length_le (Nat.le_refl _)] at em
        have sAll := s01.trans sm2
        refine k D2 ms G2 sAll (back s01 nD2) ⟨hD2, hms⟩ nw ?_ ?_
        · rw [em]
          have y := pm.map fun p : Trip => ((fl p.2.1, unS p.2.2) : Cnd)
          have e : (ts.map fun p : Trip => ((fl p.2.1, unS p.2.2) : Cnd)) = (ks.map (·.2)).map ascC := by
            have z := congrArg (List.map fun x : (Int × Int) × Str => ((fl x.1, unS x.2) : Cnd)) et
            rw [List.map_map, List.map_map] at z
            rw [List.map_map]
            refine z.trans (List.map_congr_left fun q _ => ?_)
            show ((fl (fl q.2.1), unS (S (asc q.2.2))) : Cnd) = ascC q.2
            rw [unS_S]
            rfl
          rw [e] at y
          exact y
        · unfold Ord
          rw [em]
          exact List.pairwise_map.mpr (pw.imp fun {p q} e => e)
end
end Pm
/-! ### more rules: sorted, deep ==, text[::-1], kinds of values -/
namespace Tr
open PySem PySem.Spec PyProof.Rows L2 SX
/-! text[::-1] -/
def tRevS (te : TE) : TE := fun σ H Q => te σ H fun x H1 => ∃ z : List Nat, x = .str (S z) ∧ z.length ≤ 100000 ∧ Q (.str (S z.reverse)) H1
theorem pe_revS {X : Cx} {e : Expr} {te : TE} {k : Nat} {p1 p2 p3 pos : Pos} (he : PE X e te) : PE X (.Subscript e (.Slice none none (some (.UnaryOp .USub (.Constant (.int 1) k p1) p2)) p3) pos) (tRevS te) := by
  refine ⟨fun pins s σ H Q I h => ?_⟩
  refine Subscript_ (thn (he.run pins s σ H _ I h) fun v s1 ⟨x, H1, I1, r1, q1⟩ => ?_)
  obtain ⟨z, ex, lz, q⟩ := q1
  subst ex
  obtain ⟨t, rfl⟩ := r1
  have hst : PO X (some (.UnaryOp .USub (.Constant (.int 1) k p1) p2)) (tPart (tUn (rU fun i => .int (-i)) (tC (.int 1)))) := po_some (pe_un un_neg pe_int)
  refine wpAny_Slice (thn (po_none.run pins s1 σ H1 (fun o H2 => o = none ∧ H2 = H1) I1 ⟨rfl, rfl⟩) fun vl s2 ⟨l, H2, I2, pl, el, e2⟩ => ?_)
  subst el e2
  refine thn (po_none.run pins s2 σ H2 (fun o H3 => o = none ∧ H3 = H2) I2 ⟨rfl, rfl⟩) fun vu s3 ⟨u, H3, I3, pu, eu, e3⟩ => ?_
  subst eu e3
  refine thn (hst.run pins s3 σ H3 (fun o H4 => o = some (-1) ∧ H4 = H3) I3 ⟨1, rfl, -1, rfl, rfl, rfl⟩) fun vs s4 ⟨o, H4, I4, ps, eo, e4⟩ => ?_
  subst eo e4
  have I5 : Inv X pins σ H4 { s4 with heap := s4.heap.push { cls := .type "slice", data := .fields #[vl, vu, vs] } } := I4.kept (t' := s4.toks) fun b ob q => Heap.get?_push_of_some _ q
  show wpAny (model X.prog X.w) X.A (subscriptTail e (.Slice none none (some (.UnaryOp .USub (.Constant (.int 1) k p1) p2)) p3) (.str (S z) t) (.ref s4.heap.objs.size)) (EP X pins σ Q) X.xe { s4 with heap := s4.heap.push { cls := .type "slice", data := .fields #[vl, vu, vs] } }
  refine tail_any (ops := [.str (S z) t, .ref s4.heap.objs.size]) (typeIs_str _ _ _) (F.slot_str_getitem.lookup) ?_ (by with_unfolding_all rfl)
  obtain ⟨l', rfl, el⟩ := IsPart.raw pl
  obtain ⟨u', rfl, eu⟩ := IsPart.raw pu
  obtain ⟨w', rfl, ew⟩ := IsPart.raw ps
  have hw : ∃ tw, w' = some (-1, tw) := by
    cases w' with
    | none => cases ew
    | some p => obtain ⟨a, b⟩ := p; cases ew; exact ⟨b, rfl⟩
  obtain ⟨tw, rfl⟩ := hw
  have hl : l' = none := by
    cases l' with
    | none => rfl
    | some p => cases el
  have hu : u' = none := by
    cases u' with
    | none => rfl
    | some p => cases eu
  subst hl hu
  refine wpAny_getItem_str_slice (l := none) (u := none) (st := some (-1, tw)) ⟨_, Heap.get?_push_size _ rfl, rfl, rfl⟩ rfl ?_
  have e : (⟨((Builtin.Str.strSliceIndices none none (-1) (S z).length).filterMap ((S z).cps[·]?)).toArray⟩ : Str) = S z.reverse := by
    rw [lenS, PyProof.Rows.picked_rev]
    have e2 : (List.range z.length).map (fun k => z.length - 1 - k) = (List.range z.length).reverse := PySem.W.krv_range z.length
    rw [e2, List.filterMap_reverse]
    have e3 := PySem.W.krv_all (S z).cps
    have e4 : (S z).cps.size = z.length := by rw [← Array.length_toList, cpsS]
    rw [e4, cpsS] at e3
    rw [e3]
  show Made.post (if ((-1 : Int) == 1 && _) = true then Made.val (.str (S z) t) else Made.str ⟨((Builtin.Str.strSliceIndices none none (-1) (S z).length).filterMap ((S z).cps[·]?)).toArray⟩) (EP X pins σ Q) _
  rw [if_neg (by simp), e]
  exact ⟨by rw [lenS, List.length_reverse]; exact sz5 lz, .str _, _, I5.tok _, ⟨_, rfl⟩, q⟩
section
variable {X : Cx} {B : Hp × Hp} {Γ : Env} {e a b c : Expr} {es : List Expr} {x y z : D} {pos : Pos} {u w : List Nat}
theorem t_revS {k : Nat} {p1 p2 p3 : Pos} (h : Ok X B e Γ (.tx u)) (l : u.length ≤ 100000) : Ok X B (.Subscript e (.Slice none none (some (.UnaryOp .USub (.Constant (.int 1) k p1) p2)) p3) pos) Γ (.tx u.reverse) := PE.weak (pe_revS h) fun σ H Q ⟨F, w, k⟩ => ⟨F, w, fun v F1 H1 w1 g1 r1 => by
  cases r1
  exact ⟨u, rfl, l, k _ F1 H1 w1 g1 (.str _)⟩⟩
/-! deep == of like data -/
mutual
def toPy : D → PyData
  | .non => .none
  | .bl b => .bool b
  | .int i => .int i
  | .str s => .str s
  | .tup xs => .tuple (toPys xs)
  | .lst xs => .list (toPys xs)
  | .obj _ _ => .none
  | .val _ => .none
def toPys : List D → List PyData
  | [] => []
  | x :: xs => toPy x :: toPys xs
end
mutual
/-- data alone -/
def plain : D → Bool
  | .obj _ _ => false
  | .val _ => false
  | .tup xs => plains xs
  | .lst xs => plains xs
  | _ => true
def plains : List D → Bool
  | [] => true
  | x :: xs => plain x && plains xs
end
mutual
theorem dp_rep {K : PySem.W.Frag} {F H : Hp} (fh : Same F H) : ∀ {v : V} {d : D}, Rep K F v d → plain d = true → Dp K H v (toPy d)
  | _, _, .non, _ => .non
  | _, _, .bl b, _ => .bl b
  | _, _, .int i, _ => .int i
  | _, _, .str s, _ => .str s
  | _, _, .tup h r, p => .tup (toft (fh _ _ h)) (dps_rep fh r (by rwa [plain] at p))
  | _, _, .lst h r, p => .lst (tofl (fh _ _ h)) (dps_rep fh r (by rwa [plain] at p))
  | _, _, .obj h r, p => by cases p
  | _, _, .val v, p => by cases p
theorem dps_rep {K : PySem.W.Frag} {F H : Hp} (fh : Same F H) : ∀ {v : List V} {d : List D}, Reps K F v d → plains d = true → DpAll K H v (toPys d)
  | _, _, .nil, _ => .nil
  | _, _, .cons h r, p => by
    rw [plains, Bool.and_eq_true] at p
    exact .cons (dp_rep fh h p.1) (dps_rep fh r p.2)
end
theorem t_eqD (hu : X.A.units + 64 < cLine) (ha : Ok X B a Γ x) (hb : Ok X B b Γ y) (h : plain x = true ∧ SeqAt.shaped (toPy x) = true ∧ x = y) : Ok X B (.Compare a [.Eq] [b] pos) Γ (.bl true) := ev_op (fun p q => pe_cmpR (op_eqD hu) p q (nomark _)) ha hb (r2_val fun F H fh v w rv rw' Q q => by
  obtain ⟨h1, h2, rfl⟩ := h
  refine ⟨_, _, dp_rep fh rv h1, dp_rep fh rw' h1, h2, h2, ?_⟩
  rw [SeqAt.eqv_refl _ (SeqAt.canLay_of_shaped h2)]
  exact q _ fun _ => .bl _)
theorem t_neD (hu : X.A.units + 64 < cLine) (ha : Ok X B a Γ x) (hb : Ok X B b Γ y) (h : plain x = true ∧ SeqAt.shaped (toPy x) = true ∧ x = y) : Ok X B (.Compare a [.NotEq] [b] pos) Γ (.bl false) := ev_op (fun p q => pe_cmpR (op_neD hu) p q (nomark _)) ha hb (r2_val fun F H fh v w rv rw' Q q => by
  obtain ⟨h1, h2, rfl⟩ := h
  refine ⟨_, _, dp_rep fh rv h1, dp_rep fh rw' h1, h2, h2, ?_⟩
  rw [SeqAt.eqv_refl _ (SeqAt.canLay_of_shaped h2)]
  exact q _ fun _ => .bl _)
/-! comparisons as tests -/
theorem o_op {r : R2} {p : Bool} (ho : ∀ {ta tb : TE}, PE X a ta → PE X b tb → PT X e (tTest (tOp r ta tb))) (ha : Ok X B a Γ x) (hb : Ok X B b Γ y) (h : R2T X.K r x y (.bl p)) : OkT X B e Γ p := PT.weak (ho ha hb) fun σ H Q ⟨F, w, k⟩ =>
  ⟨F, w, fun v F1 H1 w1 g1 r1 => ⟨F1, w1, fun u F2 H2 w2 g2 r2 => h F2 H2 w2.fh v u (r1.mono g2.f) r2 _ fun q F3 H3 g3 fh r3 => by
    cases r3
    exact ⟨p, rfl, k F3 H3 (w2.gr g3 fh) ((g1.trans g2).trans g3)⟩⟩⟩
theorem r2_inS {K : PySem.W.Frag} {n : Nat} : R2T K (fun x y H Q => ∃ (c : Nat) (z : Str), x = .str ⟨#[c]⟩ ∧ y = .str z ∧ Q (.bl (decide (c ∈ z.cps.toList))) H) (.tx [n]) (.tx w) (.bl (decide (n ∈ w))) := r2_val fun F H fh v w' rv rw Q q => by
  cases rv; cases rw
  refine ⟨n, S w, rfl, rfl, ?_⟩
  rw [cpsS]
  exact q _ fun _ => .bl _
theorem r2_notInS {K : PySem.W.Frag} {n : Nat} : R2T K (fun x y H Q => ∃ (c : Nat) (z : Str), x = .str ⟨#[c]⟩ ∧ y = .str z ∧ Q (.bl (!decide (c ∈ z.cps.toList))) H) (.tx [n]) (.tx w) (.bl (!decide (n ∈ w))) := r2_val fun F H fh v w' rv rw Q q => by
  cases rv; cases rw
  refine ⟨n, S w, rfl, rfl, ?_⟩
  rw [cpsS]
  exact q _ fun _ => .bl _
theorem r2_eqDD {K : PySem.W.Frag} (h : plain x = true ∧ SeqAt.shaped (toPy x) = true ∧ x = y) : R2T K (rEqD K) x y (.bl true) := r2_val fun F H fh v w rv rw' Q q => by
  obtain ⟨h1, h2, rfl⟩ := h
  refine ⟨_, _, dp_rep fh rv h1, dp_rep fh rw' h1, h2, h2, ?_⟩
  rw [SeqAt.eqv_refl _ (SeqAt.canLay_of_shaped h2)]
  exact q _ fun _ => .bl _
theorem r2_neDD {K : PySem.W.Frag} (h : plain x = true ∧ SeqAt.shaped (toPy x) = true ∧ x = y) : R2T K (rNeD K) x y (.bl false) := r2_val fun F H fh v w rv rw' Q q => by
  obtain ⟨h1, h2, rfl⟩ := h
  refine ⟨_, _, dp_rep fh rv h1, dp_rep fh rw' h1, h2, h2, ?_⟩
  rw [SeqAt.eqv_refl _ (SeqAt.canLay_of_shaped h2)]
  exact q _ fun _ => .bl _
/-! sorted(text), sorted(triples) -/
theorem rc_sortTx {K : PySem.W.Frag} (l : u.length ≤ 1000) : RCT K Pm.rSortedTx [.tx u] (.lst ((Pm.asc u).map fun c => .tx [c])) := fun F H fh vs r Q q => by
  cases r with
  | cons h r =>
    cases r
    cases h
    refine ⟨u, rfl, l, fun ys p pm pw n => ?_⟩
    rw [Pm.asc_of pm pw]
    refine q _ _ _ (Gr.new (o := .lst ((Pm.ones (Pm.asc u)).map V.str)) fh n) (same_both fh) (.lst upd_same ?_)
    have key : ∀ (G : Hp) (zs : List Nat), Reps K G ((Pm.ones zs).map V.str) (zs.map fun c => .tx [c]) := fun G zs => by
      induction zs with
      | nil => exact .nil
      | cons z zs ih => exact .cons (.str _) ih
    exact key _ _
/-- a triple: two numbers and a text -/
abbrev tripD (c : Pm.Cnd) : D := .tup [.int c.1.1, .int c.1.2, .tx c.2]
/-- in the order of the two numbers -/
def tsort (cs : List Pm.Cnd) : List Pm.Cnd := cs.mergeSort fun p q => !SrtO.lexB q.1 p.1
theorem lexB_iff (p q : Int × Int) : SrtO.lexB p q = true ↔ p.1 < q.1 ∨ (p.1 = q.1 ∧ p.2 < q.2) := by
  unfold SrtO.lexB
  by_cases h : p.1 = q.1
  · rw [if_pos h]
    simp [h]
  · rw [if_neg h]
    simp [h]
theorem tsort_perm (cs : List Pm.Cnd) : (tsort cs).Perm cs := List.mergeSort_perm _ _
theorem tsort_ord (cs : List Pm.Cnd) : (tsort cs).Pairwise fun p q => SrtO.lexB q.1 p.1 = false := by
  have h := List.pairwise_mergeSort (le := fun p q : Pm.Cnd => !SrtO.lexB q.1 p.1) (fun a b c h1 h2 => ?_) (fun a b => ?_) cs
  · exact h.imp fun e => by simpa using e
  · have n1 : ¬ SrtO.lexB b.1 a.1 = true := by simpa using h1
    have n2 : ¬ SrtO.lexB c.1 b.1 = true := by simpa using h2
    have n3 : ¬ SrtO.lexB c.1 a.1 = true := by
      rw [lexB_iff] at n1 n2 ⊢
      omega
    simpa using n3
  · by_cases h : SrtO.lexB b.1 a.1 = true
    · have : ¬ SrtO.lexB a.1 b.1 = true := by
        rw [lexB_iff] at h ⊢
        omega
      simp [this]
    · simp [h]
theorem tsort_uniq : ∀ {M N : List Pm.Cnd}, M.Perm N → (N.map (·.1)).Nodup → M.Pairwise (fun p q => SrtO.lexB q.1 p.1 = false) → N.Pairwise (fun p q => SrtO.lexB q.1 p.1 = false) → M = N
  | [], N, p, _, _, _ => List.Perm.nil_eq p
  | a :: M, [], p, _, _, _ => absurd p.length_eq (by simp)
  | a :: M, b :: N, p, nd, h1, h2 => by
    rw [List.pairwise_cons] at h1 h2
    rw [List.map_cons, List.nodup_cons] at nd
    have e : a = b := by
      by_cases e : a = b
      · exact e
      · have ha : a ∈ N := by
          rcases List.mem_cons.mp (p.mem_iff.mp List.mem_cons_self) with q | q
          · exact absurd q e
          · exact q
        have hb : b ∈ M := by
          rcases List.mem_cons.mp (p.mem_iff.mpr List.mem_cons_self) with q | q
          · exact absurd q.symm e
          · exact q
        have k1 := h1.1 b hb
        have k2 := h2.1 a ha
        have n1 : ¬ SrtO.lexB b.1 a.1 = true := by simp [k1]
        have n2 : ¬ SrtO.lexB a.1 b.1 = true := by simp [k2]
        rw [lexB_iff] at n1 n2
        have ek : a.1 = b.1 := Prod.ext (by omega) (by omega)
        exact absurd (List.mem_map.mpr ⟨a, ha, ek⟩) nd.1
    subst e
    rw [tsort_uniq (List.Perm.cons_inv p) nd.2 h1.2 h2.2]
theorem trips {K : PySem.W.Frag} {F : Hp} : ∀ {cs : List Pm.Cnd} {vs : List V}, Reps K F vs (cs.map tripD) → ∃ L : List Pm.Trip, vs = L.map (fun p => V.ref p.1) ∧ (∀ p ∈ L, F p.1 = some (Pm.TripO p)) ∧ L.map (·.2) = cs.map fun c => (c.1, S c.2)
  | [], _, .nil => ⟨[], rfl, (fun _ h => nomatch h), rfl⟩
  | c :: cs, _, .cons h r => by
    obtain ⟨L, e1, e2, e3⟩ := trips r
    cases h with
    | @tup a us _ h q =>
      have eu : us = [.int c.1.1, .int c.1.2, .str (S c.2)] := by
        cases q with
        | cons h1 q =>
          cases q with
          | cons h2 q =>
            cases q with
            | cons h3 q => cases q; cases h1; cases h2; cases h3; rfl
      subst eu
      refine ⟨(a, c.1, S c.2) :: L, by rw [e1]; rfl, fun p m => ?_, by rw [List.map_cons, e3]; rfl⟩
      rcases List.mem_cons.mp m with e | m
      · rw [e]
        exact h
      · exact e2 p m
theorem reps_trips {K : PySem.W.Frag} {F : Hp} : ∀ {L : List Pm.Trip} {cs : List Pm.Cnd}, (∀ p ∈ L, F p.1 = some (Pm.TripO p)) → L.map (·.2) = cs.map (fun c => (c.1, S c.2)) → Reps K F (L.map fun p => V.ref p.1) (cs.map tripD)
  | [], [], _, _ => .nil
  | [], _ :: _, _, e => by cases e
  | _ :: _, [], _, e => by cases e
  | p :: L, c :: cs, h, e => by
    rw [List.map_cons, List.map_cons, List.cons.injEq] at e
    have hp := h p List.mem_cons_self
    have e1 : p.2 = (c.1, S c.2) := e.1
    refine .cons (.tup (vs := [.int c.1.1, .int c.1.2, .str (S c.2)]) ?_ (.cons (.int _) (.cons (.int _) (.cons (.str _) .nil)))) (reps_trips (fun q m => h q (List.mem_cons_of_mem _ m)) e.2)
    rw [hp]
    unfold Pm.TripO
    rw [e1]
theorem rc_sortTr {K : PySem.W.Frag} {cs : List Pm.Cnd} (nd : (cs.map (·.1)).Nodup) : RCT K (Pm.rSortedTr K) [.lst (cs.map tripD)] (.lst ((tsort cs).map tripD)) := fun F H fh vs r Q q => by
  cases r with
  | cons h r =>
    cases r
    cases h with
    | @lst a us _ h1 r1 =>
      obtain ⟨L, rfl, e2, e3⟩ := trips r1
      have ek : L.map (fun p => p.2.1) = cs.map (·.1) := by
        have := congrArg (List.map Prod.fst) e3
        rw [List.map_map, List.map_map] at this
        exact this
      refine ⟨a, L, rfl, tofl (fh _ _ h1), fun p m => fh _ _ (e2 p m), by rw [ek]; exact nd, fun M d pm pw n => ?_⟩
      have g := Gr.new (o := .lst (M.map fun p => V.ref p.1)) fh n
      have hM : ∀ p ∈ M, F p.1 = some (Pm.TripO p) := fun p m => e2 p (pm.mem_iff.mp m)
      have eM : M.map (·.2) = (tsort cs).map fun c => (c.1, S c.2) := by
        have p1 : (M.map (fun p => (p.2.1, p.2.2.cps.toList))).Perm cs := by
          have := pm.map fun p : Pm.Trip => ((p.2.1, p.2.2.cps.toList) : Pm.Cnd)
          have e4 : L.map (fun p : Pm.Trip => ((p.2.1, p.2.2.cps.toList) : Pm.Cnd)) = cs := by
            have := congrArg (List.map fun x : (Int × Int) × Str => ((x.1, x.2.cps.toList) : Pm.Cnd)) e3
            rw [List.map_map, List.map_map] at this
            refine this.trans ?_
            refine (List.map_congr_left fun c _ => ?_).trans (List.map_id cs)
            show (c.1, (S c.2).cps.toList) = c
            rw [cpsS]
          rw [e4] at this
          exact this
        have e5 : M.map (fun p : Pm.Trip => ((p.2.1, p.2.2.cps.toList) : Pm.Cnd)) = tsort cs := by
          refine tsort_uniq (p1.trans (tsort_perm cs).symm) ?_ (List.pairwise_map.mpr pw) (tsort_ord cs)
          exact ((tsort_perm cs).map (·.1)).nodup_iff.mpr nd
        rw [← e5, List.map_map]
        refine List.map_congr_left fun p m => ?_
        obtain ⟨c, _, ec⟩ : ∃ c ∈ cs, p.2 = (c.1, S c.2) := by
          have : p.2 ∈ L.map (·.2) := List.mem_map.mpr ⟨p, pm.mem_iff.mp m, rfl⟩
          rw [e3] at this
          obtain ⟨c, hc, e⟩ := List.mem_map.mp this
          exact ⟨c, hc, e.symm⟩
        show p.2 = (p.2.1, S p.2.2.cps.toList)
        rw [ec, cpsS]
      exact q _ _ _ g (same_both fh) (.lst upd_same ((reps_trips hM eM).mono g.f))
theorem rm_joinS {K : PySem.W.Frag} (l : u.length ≤ 1000) : RMT K (rJoinT K) (.tx []) [.lst ((Pm.asc u).map fun c => .tx [c])] (.tx (Pm.asc u)) := by
  have h := rm_join (K := K) (u := []) (zs := (Pm.asc u).map fun c => [c]) 1 (fun z m => by obtain ⟨c, _, rfl⟩ := List.mem_map.mp m; exact Nat.le_refl _) (by
    rw [List.length_map, (Pm.asc_perm u).length_eq]
    show u.length * 1 ≤ _
    omega)
  rw [List.map_map, Pm.joinL_one] at h
  exact h
def rListO (K : PySem.W.Frag) : List V → Hp → VK → Prop := fun xs H Q => ∃ p ys, xs = [.ref p] ∧ (SqL K H p ys ∨ SqT K H p ys) ∧ ∀ l, H l = none → Q (.ref l) (upd H l (.lst ys))
theorem rc_list {K : PySem.W.Frag} {ds : List D} : RCT K (rListO K) [.lst ds] (.lst ds) := fun F H fh vs r Q q => by
  cases r with
  | cons h r =>
    cases r
    cases h with
    | @lst a us _ h1 r1 =>
      refine ⟨a, us, rfl, .inl (tofl (fh _ _ h1)), fun p n => ?_⟩
      have g := Gr.new (o := .lst us) fh n
      exact q _ _ _ g (same_both fh) (.lst upd_same (r1.mono g.f))
theorem s_appendM {α : Type} {s : Stmt} {i : Nat} (enc : α → D) (zs : List α) (k : α) (ho : ∀ {t : TA}, PA X es t → PS X s (tDrop (tBM X.K "list" rAppend (tVar i) t))) (g : Γ[i]? = some (.own (.l (zs.map enc)))) (h : OkA X B es Γ [enc k]) (l : zs.length < 100000) :
    OkS X B s Γ (.nx (Γ.set i (.own (.l ((zs ++ [k]).map enc))))) := by
  rw [List.map_append]
  exact s_append ho g h (by rw [List.length_map]; exact l)
/-- a test that is known to fail; a loop that only looks -/
theorem s_ifNo {c : Expr} {ss r : List Stmt} {ou : Out} (hc : OkT X B c Γ false) (hr : OkSs X B r Γ ou) : OkSs X B (.If c ss [] pos :: r) Γ ou :=
  PSs.weak (pss_cons (ps_if hc (PSs.when (p := False) (t := fun _ _ _ => True) fun z => z.elim) pss_nil) hr) fun D σ H ⟨F, w, k⟩ => ⟨F, w, fun F1 H1 w1 g1 => iteF ⟨F1, w1, k⟩⟩
theorem s_ifYes {c : Expr} {ss es r : List Stmt} {d : D} (hc : OkT X B c Γ true) (ha : OkSs X B ss Γ (.rt d)) : OkSs X B (.If c ss es pos :: r) Γ (.rt d) :=
  PSs.weak (pss_cons (ps_if hc ha (PSs.when (p := False) (t := fun _ _ _ => True) fun z => z.elim)) (PSs.when (p := False) (t := fun _ _ _ => True) fun z => z.elim)) fun D σ H ⟨F, w, k⟩ => ⟨F, w, fun F1 H1 w1 g1 => iteT ⟨F1, w1, k⟩⟩
theorem s_forNo {α : Type} {g : TG} {vs : List Nat} {body r : List Stmt} {s : Stmt} {tg : Expr} {ou : Out} (ks : List α) (enc : α → D) (bound : α → Env)
    (ho : ∀ {wi : TI} {tb : TS}, PI X tg e wi → PSs X body tb → PS X s (tFor wi g tb)) (hi : OkI X B tg e Γ (ks.map enc))
    (hg : ∀ (B : Hp × Hp) k, k ∈ ks → BindG X.K B vs g Γ (enc k) (bound k)) (hb : ∀ (B : Hp × Hp) k, k ∈ ks → OkSs X B body (bound k) (.nx Γ)) (hr : OkSs X B r Γ ou) : OkSs X B (s :: r) Γ ou := by
  have h := s_for (S := Unit) (vs := vs) (fun _ => Γ) (fun s _ => s) ks enc () (fun _ k => bound k) ho hi (fun B _ k m => hg B k m) fun B i k s h1 _ => hb B k (List.mem_of_getElem? h1)
  exact s_cons h hr
theorem foldl_app {α β : Type} (f : α → β) : ∀ (ks : List α) (s : List β), ks.foldl (fun s k => s ++ [f k]) s = s ++ ks.map f
  | [], s => by simp
  | k :: ks, s => by rw [List.foldl_cons, foldl_app f ks, List.map_cons, List.append_assoc]; rfl
/-! a def keeps its promise -/
theorem spG_len {K : PySem.W.Frag} {G : List D → D → Prop} {n : Nat} (h : ∀ ds d, G ds d → ds.length = n) : ∀ vs H Q E, spG K G vs H Q E → vs.length = n := fun vs H Q E ⟨ds, d, g, F, _, r, _⟩ => by rw [r.length, h ds d g]
end
end Tr
/-! ### objects that are made: __init__ and C(..) -/
namespace Tr
open PySem PySem.Spec PyProof.Rows L2 SX
def putD (f : Str) (v : D) : List (Str × D) → List (Str × D)
  | [] => [(f, v)]
  | (g, x) :: r => if g = f then (g, v) :: r else (g, x) :: putD f v r
theorem FReps.put {K : PySem.W.Frag} {F : Hp} {f : Str} {v : V} {d : D} (h : Rep K F v d) : ∀ {fv : List (Str × V)} {fs : List (Str × D)}, FReps K F fv fs → FReps K F (putF f v fv) (putD f d fs)
  | _, _, .nil => .cons h .nil
  | _, _, .cons (n := n) h0 r => by
    unfold putF putD
    by_cases e : n = f
    · rw [if_pos e, if_pos e]
      exact .cons h r
    · rw [if_neg e, if_neg e]
      exact .cons h0 (FReps.put h r)
theorem FReps.length {K : PySem.W.Frag} {F : Hp} : ∀ {fv : List (Str × V)} {fs : List (Str × D)}, FReps K F fv fs → fv.length = fs.length
  | _, _, .nil => rfl
  | _, _, .cons _ r => congrArg (· + 1) (FReps.length r)
/-- the heap without the thing at x -/
def wo (x : Addr) (H : Hp) : Hp := fun a => if a = x then none else H a
theorem wo_x (x : Addr) (H : Hp) : wo x H x = none := if_pos rfl
theorem wo_ne {x a : Addr} {H : Hp} (h : a ≠ x) : wo x H a = H a := if_neg h
theorem wo_same (x : Addr) (H : Hp) : Same (wo x H) H := fun a o e => by
  unfold wo at e
  split at e
  · cases e
  · exact e
/-- a promise of __init__: the new object at x gets the fields fs -/
def spI (K : PySem.W.Frag) (C : Addr) (G : List D → List (Str × D) → Prop) : Sp := fun vs H Q _ => ∃ ds fs, G ds fs ∧ ∃ x us dx F, vs = .ref x :: us ∧ H x = some (.ins C dx []) ∧ F x = none ∧ Same F H ∧ Reps K F us ds ∧
  ∀ F' H', Same F F' → (∀ a o, a ≠ x → H a = some o → H' a = some o) → (∀ a o, H a = some o → F a = none → F' a = none) → Same F' H' → (∃ fv, H' x = some (.ins C dx fv) ∧ FReps K F' fv fs) → Q .non H'
section
variable {X : Cx} {B : Hp × Hp} {Γ Γ' : Env} {e a b c o : Expr} {es : List Expr} {x y z d : D} {pos pos' : Pos} {s : Stmt} {i : Nat} {E : XK}
theorem s_expr (ho : ∀ {t : TE}, PE X e t → PS X s (tDrop t)) (h : Ok X B e Γ d) : OkS X B s Γ (.nx Γ) := PS.weak (ho h) fun D σ H ⟨F, w, k⟩ => ⟨F, w, fun v F' H' w' g r => k σ F' H' w'⟩
/-- self.f = e, while self is made -/
theorem s_fld {xa dx C : Addr} {f : Str} {fs : List (Str × D)} (ho : ∀ {tv : TE}, PE X e tv → PS X s (sFld X.K (tVar i) tv f)) (g : Γ[i]? = some (.own (.o xa dx C fs))) (h : Ok X B e Γ d) (c : Cls X.K C) (n : NoAttr X.K C f) (l : fs.length < 1000) :
    OkS X B s Γ (.nx (Γ.set i (.own (.o xa dx C (putD f d fs))))) := PS.weak (ho h) fun D σ H ⟨F, w, k⟩ => ⟨F, w, fun v F1 H1 w1 g1 r1 => by
  obtain ⟨p, hv, e, h0, hF, hp, r⟩ := w1.own g
  obtain ⟨rfl, fv, rfl, q⟩ := r.obj
  exact ⟨_, e, p, C, dx, fv, rfl, hp, c, n, by rw [q.length]; exact l, k _ F1 _ (w1.grow e g hp h0 hF (.o (q.put r1)))⟩⟩
/-- self.f read while self is made -/
theorem t_fldO {xa dx C : Addr} {f : Str} {fs : List (Str × D)} (ho : PE X e (tFld X.K (tVar i) f)) (g : Γ[i]? = some (.own (.o xa dx C fs))) (c : Cls X.K C) (n : NoAttr X.K C f) (l : fs.lookup f = some z) : Ok X B e Γ z := PE.weak ho fun σ H Q ⟨F, w, k⟩ => by
  obtain ⟨p, hv, e, h0, hF, hp, r⟩ := w.own g
  obtain ⟨rfl, fv, rfl, q⟩ := r.obj
  obtain ⟨v, ev, rv⟩ := q.look l
  exact ⟨_, e, p, C, dx, fv, v, rfl, hp, c, n, ev, k v F H w (Gr.refl _ _) rv⟩
/-- C(..) -/
theorem t_make {C : Addr} {sp : Sp} {ds : List D} {fs : List (Str × D)} (ho : ∀ {t : TA}, PA X es t → PE X e (tMake C sp [] E t)) (ha : OkA X B es Γ ds) (h : ∀ vs H Q, spI X.K C (fun ds' fs' => ds' = ds ∧ fs' = fs) vs H Q E → sp vs H Q E) : Ok X B e Γ (.obj C fs) :=
  PE.weak (ho ha) fun σ H Q ⟨F, w, k⟩ => ⟨F, w, fun vs F1 H1 w1 g1 r1 xa dx nx nd ne => by
    rw [List.append_nil]
    have keep : ∀ {a : Addr} {u : HO}, H1 a = some u → upd (upd H1 dx (.own xa)) xa (.ins C dx []) a = some u := fun {a u} e => by
      rw [upd_ne (ne_of_none e nx), upd_ne (ne_of_none e nd)]
      exact e
    refine h _ _ _ ⟨ds, fs, ⟨rfl, rfl⟩, xa, vs, dx, F1, rfl, upd_same, w1.fh.free nx, fun a u e => keep (w1.fh _ _ e), r1, fun F' H' sF sH ex fh hfv => ⟨rfl, ?_⟩⟩
    obtain ⟨fv, hx, hr⟩ := hfv
    have nF : F' xa = none := ex _ _ upd_same (w1.fh.free nx)
    have sx := sup (o := .ins C dx fv) nF
    have g : Gr F1 H1 (upd F' xa (.ins C dx fv)) H' := ⟨sF.trans sx, fun a u e => sH a u (ne_of_none e nx) (keep e), fun a u e n => by
      rw [upd_ne (ne_of_none e nx)]
      exact ex _ _ (keep e) n⟩
    have fh2 : Same (upd F' xa (.ins C dx fv)) H' := fun a u e => by
      by_cases y : a = xa
      · subst y
        rw [upd_same] at e
        rw [← e]
        exact hx
      · rw [upd_ne y] at e
        exact fh _ _ e
    exact k _ _ _ (w1.gr g fh2) (g1.trans g) (.obj upd_same (FReps.mono sx hr))⟩
theorem t_makeG {C : Addr} {G : List D → List (Str × D) → Prop} {ds : List D} {fs : List (Str × D)} (ho : ∀ {t : TA}, PA X es t → PE X e (tMake C (spI X.K C G) [] E t)) (ha : OkA X B es Γ ds) (h : G ds fs) : Ok X B e Γ (.obj C fs) :=
  t_make ho ha fun _ _ _ ⟨_, _, ⟨e1, e2⟩, r⟩ => ⟨ds, fs, h, by subst e1; subst e2; exact r⟩
end
/-- __init__ keeps its promise -/
theorem init_wish {K : PySem.W.Frag} {C : Addr} {N : List Str} {ds : List D} {fs : List (Str × D)} {vs us : List V} {xa dx : Addr} {F H : Hp} {Q : VK} {Γf : Env} (ev : vs = .ref xa :: us) (hx : H xa = some (.ins C dx [])) (nx : F xa = none) (fh : Same F H) (r : Reps K F us ds) (l : ds.length + 1 ≤ N.length)
    (k : ∀ F' H', Same F F' → (∀ a o, a ≠ xa → H a = some o → H' a = some o) → (∀ a o, H a = some o → F a = none → F' a = none) → Same F' H' → (∃ fv, H' xa = some (.ins C dx fv) ∧ FReps K F' fv fs) → Q .non H') (e0 : Γf[0]? = some (.own (.o xa dx C fs))) :
    tSt K (F, wo xa H) (.own (.o xa dx C []) :: ds.map Sl.d ++ List.replicate (N.length - (ds.length + 1)) .no) (.nx Γf) { nx := fun _ H' => Q .non H', rt := Q } (L2.start N vs) H := by
  subst ev
  have w0 := wd_start (K := K) (N := N.tail) fh r (by rw [r.length, List.length_tail]; omega)
  have es : L2.start N (.ref xa :: us) = some (.ref xa) :: L2.start N.tail us := by
    unfold L2.start
    rw [List.map_cons, List.length_cons, List.length_tail, List.cons_append]
    have : N.length - (us.length + 1) = N.length - 1 - us.length := by omega
    rw [this]
  have eg : (.own (.o xa dx C []) :: ds.map Sl.d ++ List.replicate (N.length - (ds.length + 1)) .no : Env) = .own (.o xa dx C []) :: (ds.map Sl.d ++ List.replicate (N.tail.length - ds.length) .no) := by
    rw [List.cons_append, List.length_tail]
    have : N.length - (ds.length + 1) = N.length - 1 - ds.length := by omega
    rw [this]
  rw [es, eg]
  have noown : ∀ (j : Nat) (c : Ow), (ds.map Sl.d ++ List.replicate (N.tail.length - ds.length) .no)[j]? = some (Sl.own c) → False := fun j c h => by
    by_cases lj : j < ds.length
    · rw [List.getElem?_append_left (by rw [List.length_map]; exact lj), List.getElem?_map] at h
      cases e : ds[j]? with
      | none => rw [e] at h; cases h
      | some d => rw [e] at h; cases h
    · rw [List.getElem?_append_right (by rw [List.length_map]; omega), List.getElem?_replicate] at h
      split at h <;> cases h
  refine ⟨F, ⟨Same.refl _, wo_same xa H, fh, fun _ _ _ h => h, by rw [List.length_cons, List.length_cons, w0.len], fun j o s h1 h2 => ?_, fun j m p xs ys ne h1 h2 h3 h4 => ?_⟩, fun σ' F' H' w' => ?_⟩
  · cases j with
    | zero =>
      cases h1; cases h2
      exact ⟨xa, _, rfl, wo_x xa H, nx, hx, .o .nil⟩
    | succ j =>
      have q := w0.sl j o s h1 h2
      cases s with
      | no => trivial
      | d x => exact q
      | own c => exact (noown j c h2).elim
  · cases j with
    | zero =>
      cases m with
      | zero => exact ne rfl
      | succ m => exact noown m ys h4
    | succ j => exact noown j xs h3
  · obtain ⟨p, ho, e, h0, hF, hp, q⟩ := w'.own e0
    obtain ⟨rfl, fv, rfl, qf⟩ := q.obj
    refine k F' H' w'.ff (fun a o n h => w'.hh a o (by show wo p H a = some o; rw [wo_ne n]; exact h)) (fun a o h n => ?_) w'.fh ⟨fv, hp, qf⟩
    by_cases y : a = p
    · rw [y]
      exact hF
    · exact w'.ex a o (by show wo p H a = some o; rw [wo_ne y]; exact h) n
end Tr
namespace Pm
open PySem PySem.Spec PyProof.Rows L2 SX NdefX
/-! ### a def whose first statement is super().m(e, ..) -/
/-- a def of the text that closes over __class__ (the class at D), its first parameter self -/
structure FunS (prog : Program) (K : PySem.W.Frag) (x qual : Str) (st : Stmt) (D f cc cda : Addr) (fd : FuncData) : Prop where
  ex : ∃ (oc : Value) (od : Option Addr) (dV kV doc pm : Value) (an : Option Addr) (ct : Value) (osl : Array (Option Value)),
    fd = PySem.W.fnX x qual (defArgs st) (defBody st) (defScope st) [("__class__", cc)] dV kV doc pm an (.ref cda) ct ∧ K.lookup f = some ⟨oc, od, .func fd, osl⟩ ∧ PySem.W.codeIn K (.ref cda) qual = true
  cell : ∃ (cl : Value) (cld : Option Addr) (csl : Array (Option Value)), K.lookup cc = some ⟨cl, cld, .cell (some (.ref D)), csl⟩
  code : ∃ (ccl : Value) (cdd : Option Addr) (vs : Array Value) (ccs : Array (Option Value)) (file : Str) (tf : Tok), K.lookup cda = some ⟨ccl, cdd, .fields vs, ccs⟩ ∧ vs[2]? = some (.str file tf) ∧ ((prog.main.file : Str) == file) = true
  cls : ∃ cd, PySem.W.clsIn K D = some cd
  top : (prog.main.scope.names.lookup ("super" : Str)).isSome = false
  any : PySem.W.nsIn K cStatics "thirdparty.any" = some none
  arg : ∃ ar : Arg, ((defArgs st).posonlyargs ++ (defArgs st).args).head? = some ar ∧ ar.arg = "self"
/-- the class C of self: below D; super() finds m at g -/
structure SupM (K : PySem.W.Frag) (C D : Addr) (m : Str) (g : Addr) : Prop where
  sub : PySem.W.mroIn K C (.ref D) = some true
  at_ : PySem.W.ks_superIn K C D m = some (some (.ref g))
  ty : PySem.W.typeIn K (.ref g) = some (.type "function")
  fi : PySem.W.fnIn K g = true
section
variable {CX CXf : CXT} {P : Program} {w : World} {K : PySem.W.Frag} {mg : Str → Option Value} {base : Heap} {N ps ps2 : List Str} {D f g C cc cda : Addr} {k j : Nat} {x qual m : Str} {st : Stmt} {fd gd : FuncData} {sp sp2 : Sp} {p0 p1 apos pos pos2 : Pos} {e : Expr} {es : List Expr} {rest : List Stmt} {pl : Sem Bool}
abbrev supNF (x qual : Str) (st : Stmt) (cc cda : Addr) : NF := ⟨x, qual, defArgs st, defBody st, defScope st, [("__class__", cc)], cda⟩
abbrev supCx (CX : CXT) (P : Program) (w : World) (K : PySem.W.Frag) (mg : Str → Option Value) (base : Heap) (N : List Str) (x qual : Str) (st : Stmt) (f cc cda : Addr) (A : Around) (outer : List Env) (s : Shared) (H : Hp) (E : XK) : Cx := ncx CX P w K mg base N (supNF x qual st cc cda) f A outer s H E
theorem supfn_of (F : FunS P K x qual st D f cc cda fd) (S : NScope N ps ["__class__"] (defScope st)) (gm : mg "super" = none) (ks : (defScope st).names.lookup ("super" : Str) = some .globalImplicit)
    (p0s : ps[0]? = some ("self" : Str)) (hat : (m == ("__class__" : Str)) = false)
    (hb : defBody st = .Expr (.Call (.Attribute (.Call (.Name "super" p0) [] [] p1) m apos) (e :: es) [] pos) pos2 :: rest)
    (hM : SupM K C D m g) (G : FnOk P w K mg base CXf j g gd ps2 sp2) (bG : Binds K gd ps2 [])
    (len : ∀ vs H Q E, sp vs H Q E → vs.length = ps.length)
    (hbody : ∀ (A : Around) (outer : List Env) (s : Shared) (H : Hp) (vs : List V) (Q : VK) (E : XK), Room k (A.deeper (envF (supNF x qual st cc cda) f s.heap.objs.size)) → sp vs H Q E →
      ∃ (t : TA) (u : TS) (xa dx : Addr) (fs : List (Str × V)) (E2 : XK), vs[0]? = some (.ref xa) ∧ H xa = some (.ins C dx fs) ∧ Room j (A.deeper (envF (supNF x qual st cc cda) f s.heap.objs.size)) ∧
        (∀ σ, PassesAt CXf (supCx CX P w K mg base N x qual st f cc cda A outer s H E) σ E2) ∧
        PA (supCx CX P w K mg base N x qual st f cc cda A outer s H E) (e :: es) t ∧ PSs (supCx CX P w K mg base N x qual st f cc cda A outer s H E) rest u ∧
        t (startF N vs [some (.ref D)]) H (fun us H1 => sp2 (.ref xa :: us) H1 (fun _ H2 => u { nx := fun _ H' => Q .non H', rt := Q } (startF N vs [some (.ref D)]) H2) E2))
    (ht : ∀ env : Env, eval (.Call (.Attribute (.Call (.Name "super" p0) [] [] p1) m apos) (e :: es) [] pos) env = (do
      let ov ← attributeBase (.Call (.Name "super" p0) [] [] p1) m env (eval (.Call (.Name "super" p0) [] [] p1) env)
      standAt apos.atName
      let (f, first) ← holding [ov] (getMethod ov m pl)
      callWith pos f first (backTo pos (starEach (e :: es) env)) []) := by intro _; rfl)
    (hst : ∀ env : Env, starEach (e :: es) env = (false, eval e env) :: starEach es env := by intro _; rfl) (hpl : ∀ env : Env, (backTo pos (starEach es env)).any (·.1) = false := by intro _; rfl)
    (hi : ∀ env : Env, env.scope = defScope st → interactive env = false := by intro _ z; unfold interactive; rw [z]; rfl)
    (hsw : ∀ env : Env, swapsWith (.Call (.Attribute (.Call (.Name "super" p0) [] [] p1) m apos) (e :: es) [] pos) none pos2.line env = pure false := by intro _; rfl) :
    FnOk P w K mg base CX (k + 1) f fd ps sp := by
  obtain ⟨oc, od, dV, kV, doc, pm, an, ct, osl, rfl, lk, hcd⟩ := F.ex
  obtain ⟨cl, cld, csl, lc⟩ := F.cell
  obtain ⟨ccl, cdd, cvs, ccs, file, tf, lcode, hvs, hfile⟩ := F.code
  obtain ⟨cdD, hD⟩ := F.cls
  obtain ⟨ar, har, hself⟩ := F.arg
  refine ⟨len, fun A outer s H args us vs Q E hr e0 hbind r hsp => ?_⟩
  have hl := len _ _ _ _ hsp
  have KX : K.In s.heap := e0.mod.kin.keeps fun b o e => (e0.bs b o e).1
  have lim : s.heap.NoLimit := e0.mod.nolimit.keeps fun b o e => (e0.bs b o e).1
  refine codeAny_call_function hr.depth (KX _ _ lk) rfl S.co S.gen rfl (PySem.W.codeRec_of KX hcd) (hbind _ _ _ _ ?_)
  refine wpAny_newFunctionEnv S.nocell (fun ⟨n, _⟩ hy => S.par n (List.of_mem_zip hy).1) (fun h₁ hns hsb => ⟨lim.fresh _ hsb, ?_⟩) S.kind
  show codeAny _ _ (.func (defBody st) (envF (supNF x qual st cc cda) f s.heap.objs.size)) _ _
  refine ks_codeAny_funcAt ?_
  have kp : ∀ b o, s.heap.get? b = some o → h₁.get? b = some o := fun b o e => hsb.extBut b o (Nat.ne_of_lt (Heap.lt_size e)) (Heap.get?_push_of_some _ e)
  obtain ⟨t, u, xa, dx, fs, E2, hv0, hxa, hrj, hx, ha, hrest, asked⟩ := hbody A outer s H vs Q E (hr.deeper _) hsp
  have one : ∀ {y : Str} {c : Addr}, List.lookup y [(("__class__" : Str), cc)] = some c → y = "__class__" ∧ c = cc := fun {y c} z => by
    simp only [List.lookup] at z
    split at z
    · rename_i q
      exact ⟨eq_of_beq q, (Option.some.inj z).symm⟩
    · cases z
  have hcc : s.heap.IsCell cc (some (.ref D)) := ⟨_, KX _ _ lc, rfl⟩
  have C0 : CellsAt (supNF x qual st cc cda).cl ["__class__"] [some (.ref D)] s.heap H := by
    refine ⟨rfl, fun y c z => ?_, fun y y' c z z' => (one z).1.trans (one z').1.symm, fun i y hi => ?_⟩
    · rw [(one z).2]
      exact ⟨(e0.bs _ _ (e0.mod.kin _ _ lc)).2, _, hcc⟩
    · match i, hi with
      | 0, hi =>
        cases hi
        refine ⟨cc, by simp [List.lookup], fun v hv => ?_⟩
        have hv : (some (V.ref D) : Option V) = some v := by simpa using hv
        cases hv
        exact ⟨.ref D, rfl, hcc⟩
  have I : L2.Inv (supCx CX P w K mg base N x qual st f cc cda A outer s H E) [] (startF N vs [some (.ref D)]) H { s with heap := h₁, toks := s.toks + (ps.zip us).length } := inv_startN S hr.hd e0 hl r C0 hns kp
  generalize { s with heap := h₁, toks := s.toks + (ps.zip us).length } = s1 at I ⊢
  have KX1 : K.In s1.heap := I.kIn
  rw [hb]
  refine ks_wpAt_execs_cons (ks_wpAt_Expr_any (ks_wpAt_MethodCall (pl := pl) ?_ (ht _)) (hi _ rfl) (hsw _))
  -- super()
  have kc : (defScope st).names.lookup ("__class__" : Str) = some .free := S.frk _ List.mem_cons_self
  refine ks_wpAt_super_base (env := envF (supNF x qual st cc cda) f s.heap.objs.size) ks kc hat rfl (KX1 _ _ lk) rfl har rfl (KX1 _ _ lcode) rfl hvs hfile F.top ?_
  obtain ⟨mb, hb1, hb2⟩ := I.mod.blt
  have X := supCx CX P w K mg base N x qual st f cc cda A outer s H E
  refine PySem.W.ks_loadName_global S.kind ks (Calls.loadGlobal_builtin (I.mod.glob.keeps I.bk) gm (hb1.keeps I.bk) ((hb2 "super" (by decide)).trans (by first | boot_by_name | rfl | kernel_rfl)) ⟨rfl, ?_⟩)
  refine wpAny_loadName_free (c := cc) S.kind kc (by simp [List.lookup]) ⟨_, KX1 _ _ lc, rfl⟩ ?_
  rw [hself]
  obtain ⟨m0, hn0, hl0⟩ := I.loc
  have pre0 : N[0]? = some ("self" : Str) := by
    have y := congrArg (fun l => l[0]?) S.pre
    have p0 : 0 < ps.length := (List.getElem?_eq_some_iff.mp p0s).1
    rw [List.getElem?_take_of_lt (by omega), List.getElem?_append_left p0] at y
    exact y.trans p0s
  have st0 : (startF N vs [some (.ref D)])[0]? = some (some (.ref xa)) := by
    have v0 : 0 < vs.length := (List.getElem?_eq_some_iff.mp hv0).1
    unfold startF
    rw [List.getElem?_append_left (by rw [List.length_map]; exact v0), List.getElem?_map, hv0]
    rfl
  obtain ⟨u0, ru0, lu0⟩ := hl0 0 "self" (.ref xa) pre0 st0 (.inl (S.par _ (List.mem_of_getElem? p0s)))
  obtain rfl : u0 = Value.ref xa := ru0
  have ld : m0 ("self" : Str) = some (.ref xa) := by
    rcases lu0 with ⟨_, z⟩ | ⟨z, _⟩
    · exact z
    · rcases z with z | z
      · have := (S.par _ (List.mem_of_getElem? p0s)).symm.trans z
        cases this
      · have := (S.par _ (List.mem_of_getElem? p0s)).symm.trans z
        cases this
  refine wpAny_loadName_local S.kind (S.par _ (List.mem_of_getElem? p0s)) hn0 ld ?_
  obtain ⟨oD, hD1, hD2⟩ : ∃ oD, s1.heap.get? D = some oD ∧ oD.data = .cls cdD := by
    have hD' := hD
    unfold PySem.W.clsIn at hD'
    split at hD'
    · rename_i c d cd' sl ho
      cases hD'
      exact ⟨_, KX1 _ _ ho, rfl⟩
    · cases hD'
  obtain ⟨mA, O, _, _, _, _⟩ := ins_get I.hok hxa
  obtain ⟨odd, J, _⟩ := O.look
  obtain ⟨hh, gg, dd, tt, oss⟩ := s1
  refine ks_wpAny_isType_cls hD1 hD2 ⟨rfl, ?_⟩
  refine ks_wpAny_call_super hD1 hD2 J.at_ J.cls (fun c z => ?_) (PySem.W.looks_mroIn KX1 hM.sub) (fun h' hso k' => ?_)
  · have y := J.no
    unfold PySem.W.notCls at y
    rw [z] at y
    exact Bool.noConfusion y
  have I2 : L2.Inv (supCx CX P w K mg base N x qual st f cc cda A outer s H E) [] (startF N vs [some (.ref D)]) H ⟨h', gg, dd, tt, oss⟩ := I.kept (t' := tt) k'
  have KX2 : K.In h' := I2.kIn
  have J2 : ∃ ox odx, PySem.W.InstAt h' xa ox C odx := by
    obtain ⟨mA, O, _, _, _, _⟩ := ins_get I2.hok hxa
    obtain ⟨od2, J2, _⟩ := O.look
    exact ⟨_, _, J2⟩
  obtain ⟨ox2, odx2, J2⟩ := J2
  cases hc : PySem.W.clsIn K C with
  | none =>
    have z := hM.at_
    unfold PySem.W.ks_superIn at z
    rw [hc] at z
    cases z
  | some cd =>
    have hm := hM.at_
    unfold PySem.W.ks_superIn at hm
    rw [hc] at hm
    obtain ⟨of, hof, hofc⟩ : ∃ of, h'.get? g = some of ∧ of.cls = .type "function" := by
      have ht' : (K.lookup g).map (·.cls) = some (.type "function") := hM.ty
      cases z : K.lookup g with
      | none => rw [z] at ht'; cases ht'
      | some of => rw [z] at ht'; exact ⟨of, KX2 _ _ z, Option.some.inj ht'⟩
    refine ks_wpAny_getMethod_super hso (PySem.W.looks_opaque KX2 F.any) (l₀ := cd.mro) (fun A Q E s k q => wpAny_bind ((PySem.W.looks_clsIn KX2 hc) A _ E s k (wpAny_pure q))) rfl KX2 hm hof hofc (PySem.W.ks_ne KX2 J2 hc) hat ?_
    have I3 := ClX.met_new (g := g) (C := xa) I2
    refine ClX.callwith_cm (X := supCx CX P w K mg base N x qual st f cc cda A outer s H E) I3 (ClX.base_none I2 (Nat.le_refl _)) hM.fi (thn (ha.run pos _ _ _ H _ I3 asked) fun us2 s3 ⟨vs2, H2, I4, rv2, q2⟩ => ⟨⟨ClX.pin_at I4, I4.kIn⟩, ?_⟩) (hst _) (hpl _)
    have l2 : (Value.ref xa :: us2).length = ps2.length := by
      rw [← G.len _ _ _ _ q2, List.length_cons, List.length_cons, rv2.length]
    have bnd := bG s3 (.ref xa :: us2) I4.kIn (by rw [List.append_nil]; exact l2)
    rw [List.append_nil] at bnd
    refine thn (Q := EP (supCx CX P w K mg base N x qual st f cc cda A outer s H E) ((h'.objs.size, PySem.W.methodObj (.ref g) (.ref xa)) :: []) (startF N vs [some (.ref D)]) (fun _ H2 => u { nx := fun _ H' => Q .non H', rt := Q } (startF N vs [some (.ref D)]) H2))
      (wpAny_call (PySem.W.method_call (ClX.pin_at I4) (codeAny_mono (G.run (A.deeper (envF (supNF x qual st cc cda) f s.heap.objs.size)) (supCx CX P w K mg base N x qual st f cc cda A outer s H E).stack s3 H2 ⟨.ref xa :: us2, []⟩ (.ref xa :: us2) (.ref xa :: vs2) _ E2 hrj I4.env0 bnd (.cons rfl rv2) q2) fun r s' z => ?_))) fun _ s4 z => ?_
    · cases r with
      | error er => exact hx _ _ H2 s3 er s' I4 z
      | ok fl =>
        cases fl with
        | ret u => exact I4.after z
        | next => exact z.elim
        | brk => exact z.elim
        | cont => exact z.elim
    · obtain ⟨v5, H5, I5, _, q5⟩ := ClX.unpinE z
      refine wpAt_of_wpAny (wpAny_mono (hrest.run [] _ _ H5 _ I5 q5) (fun fl s' hs => ?_) fun e s' hs => hs)
      have fin : ∀ {σ' : L2.St} {H' : Hp} {v : V} {u : Value}, L2.Inv (supCx CX P w K mg base N x qual st f cc cda A outer s H E) [] σ' H' s' → L2.RelV v u → Q v H' → CE outer P w H s Q u s' :=
        fun {σ' H' v u} J rv q => ⟨v, H', J.os, J.bare, J.base, J.hok, rv, q⟩
      cases fl with
      | ret u =>
        obtain ⟨v, σ', H', J, rv, q⟩ := hs
        exact fin J rv q
      | next =>
        obtain ⟨σ', H', J, q⟩ := hs
        exact fin (v := V.non) (u := Value.none) J rfl q
      | brk =>
        obtain ⟨_, _, _, q⟩ := hs
        exact False.elim q
      | cont =>
        obtain ⟨_, _, _, q⟩ := hs
        exact False.elim q
end
end Pm
namespace Pm
open PySem PySem.Spec PyProof.Rows L2 SX NdefX
/-! ### rules -/
structure RCls (K : PySem.W.Frag) (C : Addr) : Prop where
  cl : L2.Cls K C
  nS : NoAttr K C "stone"
  nC : NoAttr K C "_conditions"
  nN : NoAttr K C "need"
def faultR (st : List Nat) (cs : List Cnd) : Option Nat := if stoneB st then fstBad 1 [] cs else some 0
theorem fst_none : ∀ {cs : List Cnd} {i : Nat} {seen : List (Int × Int)}, fstBad i seen cs = none → (cs.map (·.1)).Nodup ∧ (∀ c ∈ cs, c.1 ∉ seen) ∧ (∀ c ∈ cs, placeB c.1 = true ∧ diffB 35 c.2 = true) ∧ (cs ≠ [] → i + cs.length ≤ 9)
  | [], _, _, _ => ⟨List.nodup_nil, (fun c m => nomatch m), (fun c m => nomatch m), fun z => absurd rfl z⟩
  | c :: r, i, seen, h => by
    rw [fst_step] at h
    split at h
    · cases h
    rename_i nb
    obtain ⟨h1, h2, h3, h4⟩ := fst_none h
    unfold badAt at nb
    simp only [Bool.or_eq_true, Bool.not_eq_true', decide_eq_true_eq, not_or, Bool.not_eq_false] at nb
    obtain ⟨⟨⟨a, b⟩, c1⟩, d⟩ := nb
    refine ⟨List.nodup_cons.mpr ⟨fun m => ?_, h1⟩, fun x m => ?_, fun x m => ?_, fun _ => ?_⟩
    · obtain ⟨x, mx, e⟩ := List.mem_map.mp m
      exact h2 x mx (by rw [e]; exact List.mem_cons_self)
    · rcases List.mem_cons.mp m with e | m
      · rw [e]
        exact c1
      · exact fun y => h2 x m (List.mem_cons_of_mem _ y)
    · rcases List.mem_cons.mp m with e | m
      · rw [e]
        exact ⟨b, d⟩
      · exact h3 x m
    · by_cases e : r = []
      · rw [e, List.length_singleton]
        omega
      · have := h4 e
        rw [List.length_cons]
        omega
section
variable {P : Program} {w : World} {K : PySem.W.Frag} {mg : Str → Option Value} {base : Heap} {C CI : Addr}
/-- an error that leaves a constructor: the object at r is lost -/
def LetsB (r : Addr) (E : XK) (C : Addr) (fs : List (Str × V)) (H : Hp) : Prop := ∀ d H', H d = none → H' d = some (.xd fs) → SameBut r H H' → E (.ref C) (some d) H'
theorem LetsB.lets {r : Addr} {E : XK} {C : Addr} {fs : List (Str × V)} {H : Hp} (h : LetsB r E C fs H) : Lets E C fs H := fun d H' nd hd sg => h d H' nd hd (same_sb sg)
def spRuleInit (CI : Addr) (K : PySem.W.Frag) : Sp := fun vs H Q E => ∃ r dx C st a ks, vs = [.ref r, .str (S st), .ref a] ∧ RCls K C ∧ H r = some (.ins C dx []) ∧ CndsAt H a ks ∧ st.length ≤ 1000 ∧ ks.length ≤ 1000 ∧ (∀ q ∈ ks, q.2.2.length ≤ 1000) ∧
  (∀ p, faultR st (ks.map (·.2)) = some p → LetsB r E CI [("part", .int (p : Int))] H) ∧
  (faultR st (ks.map (·.2)) = none → ∀ H' l ms, SameBut r H H' → H l = none → H' r = some (.ins C dx [("stone", .str (S st)), ("_conditions", .ref l)]) → CndsAt H' l ms → New H ms → (ms.map (·.2)).Perm ((ks.map (·.2)).map ascC) → Ord (ms.map (·.2)) → Q .non H')
theorem scRuleInit : FnScope ["self", "stone", "conditions"] ["self", "stone", "conditions"] (defScope cRuleInit) := ⟨rfl, rfl, rfl, by decide +kernel, rfl, by decide +kernel, by decide +kernel⟩
theorem ok_ruleinit {f i c o e : Addr} {fd di dc do_ ed : FuncData} (F : Fun K "__init__" "Rule.__init__" cRuleInit f fd) (Is : Cl P w K mg base CX0 1 "is_stone" ["sign"] spStone i di) (Ck : Cl P w K mg base (L2.CX P w) 3 "_check_conditions" ["conditions"] (spCheck CI) c dc) (Io : Cl P w K mg base CX0 2 "_in_order" ["conditions"] spInOrder o do_)
    (Ex : EMk P w K mg base CI "InvalidRule" ["self", "part"] (spE1 CI "part") e ed) : FnOk P w K mg base (L2.CX P w) 4 f fd ["self", "stone", "conditions"] (spRuleInit CI K) := by
  refine F.okX scRuleInit (fun vs H Q E h => ?_) (fun cdv A outer s H vs Q E hr h => ?_)
  · obtain ⟨r, dx, C, st, a, ks, rfl, _⟩ := h
    rfl
  · obtain ⟨r, dx, C, st, a, ks, rfl, T, hr0, hc, fs, few, each, bad, good⟩ := h
    have hr1 : Room 1 _ := hr.mono (by decide)
    have hr2 : Room 2 _ := hr.mono (by decide)
    refine ⟨_, (pss_cons (ps_if (pt_not (pt_val (pe_call Is.ok hr1 (by rfl) Is.gl Is.kp Is.bd .nil pass0 (pa_cons (pv 1) pa_nil)))) (pss_one (ps_raise rfl (takes_of rfl rfl rfl rfl) (pmk_oex Ex.T Ex.at_ Ex.ty Ex.ok hr2 Ex.bd .nil pass0 (by rfl) Ex.gl (pa_cons pe_int pa_nil)))) pss_nil)
      (pss_cons (ps_expr (pe_callS (E := fun _ => E) Ck.ok hr (by rfl) Ck.gl Ck.kp Ck.bd (fun σ pins H s e s' I c => passes_call (takes_of rfl rfl rfl rfl) (fun _ _ _ _ z => z) pins σ H s e s' I c) (pa_cons (pv 2) pa_nil)))
      (pss_cons (ps_fld (pv 0) (pv 1) rfl)
      (pss_one (ps_fld (pv 0) (pe_call Io.ok hr2 (by rfl) Io.gl Io.kp Io.bd .nil pass0 (pa_cons (pv 2) pa_nil)) rfl))))), ?_⟩
    refine ⟨_, rfl, st, rfl, fs, _, rfl, ?_⟩
    cases e0 : stoneB st with
    | false =>
      refine iteT ⟨by show 1 ≤ 1000; decide, fun x nx => ⟨x, _, rfl, upd_same, fun H2 d h1 h2 nd ne sb => ⟨rfl, d, _, h1, h2, ?_, ?_⟩⟩⟩
      · rwa [upd_ne ne] at nd
      · exact bad 0 (by unfold faultR; rw [e0]; rfl) d _ (by rwa [upd_ne ne] at nd) upd_same (same_sb (on_way nx nd ne sb))
    | true =>
      have ef : faultR st (ks.map (·.2)) = fstBad 1 [] (ks.map (·.2)) := by unfold faultR; rw [e0]; rfl
      refine iteF ?_
      refine ⟨_, rfl, a, ks, rfl, hc, few, each, fun p hp => (bad p (ef.trans hp)).lets, fun hn H1 s1 => ?_⟩
      have nd : (ks.map fun q => q.2.1).Nodup := by
        have y := (fst_none hn).1
        rw [List.map_map] at y
        exact y
      refine ⟨_, rfl, _, rfl, r, C, dx, [], rfl, s1 _ _ hr0, T.cl, T.nS, by show 0 < 1000; decide, ?_⟩
      have ner : ∀ b o, b ≠ r → H b = some o → upd H1 r (.ins C dx [("stone", V.str (S st))]) b = some o := fun b o nb e => by
        rw [upd_ne nb]
        exact s1 _ _ e
      have nar : a ≠ r := ne_of hc.lst hr0 (by intro z; cases z)
      have hc2 : CndsAt (upd H1 r (.ins C dx [("stone", V.str (S st))])) a ks := ⟨ner _ _ nar hc.lst, fun q hq => ner _ _ (ne_of (hc.each q hq) hr0 (by intro z; cases z)) (hc.each q hq)⟩
      refine ⟨_, rfl, a, ks, rfl, hc2, few, each, nd, fun l ms H2 s2 nl hm nw pm od => ?_⟩
      have hr2' : H2 r = some (.ins C dx [("stone", V.str (S st))]) := s2 _ _ upd_same
      refine ⟨_, rfl, r, C, dx, _, rfl, hr2', T.cl, T.nC, by show 1 < 1000; decide, ?_⟩
      have nl0 : H l = none := by
        cases z : H l with
        | none => rfl
        | some o =>
          have y : l ≠ r := fun e => by
            rw [e, upd_same] at nl
            cases nl
          have y2 := (ner _ _ y z).symm.trans nl
          cases y2
      have nw0 : New H ms := fun q hq => by
        cases z : H q.1 with
        | none => rfl
        | some o =>
          have y : q.1 ≠ r := fun e => by
            have n2 : upd H1 r (.ins C dx [("stone", V.str (S st))]) q.1 = none := nw q hq
            rw [e, upd_same] at n2
            cases n2
          have y2 := (ner _ _ y z).symm.trans (nw q hq)
          cases y2
      have nlr : l ≠ r := ne_of hm.lst hr2' (by intro z; cases z)
      refine good (ef.trans hn) _ l ms (fun b o nb e => ?_) nl0 (by rw [upd_same]; rfl) ⟨?_, fun q hq => ?_⟩ nw0 pm od
      · rw [upd_ne nb]
        exact s2 _ _ (ner _ _ nb e)
      · rw [upd_ne nlr]
        exact hm.lst
      · rw [upd_ne (ne_of (hm.each q hq) hr2' (by intro z; cases z))]
        exact hm.each q hq
end
end Pm
namespace Pm
open PySem PySem.Spec PyProof.Rows L2 SX NdefX
/-- what a rule with a need refuses -/
def faultC (st : List Nat) (cs : List Cnd) (n : Int) : Option Nat := match faultR st cs with
  | some p => some p
  | none => if 0 ≤ n ∧ n ≤ (cs.length : Int) then none else some 0
def faultS (cs : List Cnd) (n : Int) : Option Nat := match fstBad 1 [] cs with
  | some p => some p
  | none => if 0 ≤ n ∧ n ≤ (cs.length : Int) then none else some 0
section
variable {P : Program} {w : World} {K : PySem.W.Frag} {mg : Str → Option Value} {base : Heap} {C CI D : Addr}
def spCountInit (CI C : Addr) (K : PySem.W.Frag) : Sp := fun vs H Q E => ∃ r dx st a ks n, vs = [.ref r, .str (S st), .ref a, .int n] ∧ H r = some (.ins C dx []) ∧ CndsAt H a ks ∧ st.length ≤ 1000 ∧ ks.length ≤ 1000 ∧ (∀ q ∈ ks, q.2.2.length ≤ 1000) ∧
  (∀ p, faultC st (ks.map (·.2)) n = some p → LetsB r E CI [("part", .int (p : Int))] H) ∧
  (faultC st (ks.map (·.2)) n = none → ∀ H' l ms, SameBut r H H' → H l = none → H' r = some (.ins C dx [("stone", .str (S st)), ("_conditions", .ref l), ("need", .int n)]) → CndsAt H' l ms → New H ms → (ms.map (·.2)).Perm ((ks.map (·.2)).map ascC) → Ord (ms.map (·.2)) → Q .non H')
abbrev nCountInit : List Str := ["self", "stone", "conditions", "need", "__class__"]
theorem scCountInit : NScope nCountInit ["self", "stone", "conditions", "need"] ["__class__"] (defScope cCountRuleInit) := nscope_by (by decide +kernel)
theorem ok_countinit {f cc cda g c : Addr} {fd gd dc : FuncData} (F : FunS P K "__init__" "CountRule.__init__" cCountRuleInit C f cc cda fd) (gm : mg "super" = none) (hM : SupM K C C "__init__" g) (G : FnOk P w K mg base (L2.CX P w) 4 g gd ["self", "stone", "conditions"] (spRuleInit CI K)) (bG : Binds K gd ["self", "stone", "conditions"] [])
    (Nd : Cl P w K mg base (L2.CX P w) 3 "_check_need" ["need", "count"] (spNeed CI) c dc) (L : LTxt K mg) (T : RCls K C) : FnOk P w K mg base (L2.CX P w) 5 f fd ["self", "stone", "conditions", "need"] (spCountInit CI C K) := by
  refine supfn_of (k := 4) (j := 4) F scCountInit gm rfl rfl rfl rfl hM G bG (fun vs H Q E h => ?_) (fun A outer s H vs Q E hr h => ?_)
  · obtain ⟨r, dx, st, a, ks, n, rfl, _⟩ := h
    rfl
  · obtain ⟨r, dx, st, a, ks, n, rfl, hr0, hc, fs, few, each, bad, good⟩ := h
    have hr3 : Room 3 _ := hr.mono (by decide)
    refine ⟨_, _, r, dx, [], E, rfl, hr0, hr, fun σ pins H s e s' I c => passes_call (takes_of rfl rfl rfl rfl) (fun _ _ _ _ z => z) pins σ H s e s' I c, (pa_cons (pv 1) (pa_cons (pv 2) pa_nil)), (pss_cons (ps_expr (pe_callS (E := fun _ => E) Nd.ok hr3 (by rfl) Nd.gl Nd.kp Nd.bd (fun σ pins H s e s' I c => passes_call (takes_of rfl rfl rfl rfl) (fun _ _ _ _ z => z) pins σ H s e s' I c) (pa_cons (pv 3) (pa_cons (pe_callB call_len_seq (by rfl) L.len PySem.boot_len (pa_cons (pv 2) pa_nil)) pa_nil))))
      (pss_one (ps_fld (pv 0) (pv 3) rfl))), ?_⟩
    refine ⟨_, rfl, _, rfl, r, dx, C, st, a, ks, rfl, T, hr0, hc, fs, few, each, fun p hp => bad p (by unfold faultC; rw [hp]), fun hn H1 l ms s1 nl hr1 hm nw pm od => ?_⟩
    have nar : a ≠ r := ne_of hc.lst hr0 (by intro z; cases z)
    have len : (refC ks).length = (ks.map (·.2)).length := by unfold refC; rw [List.length_map, List.length_map]
    refine ⟨_, rfl, _, rfl, a, _, rfl, .inl (SqL.of (s1 _ _ nar hc.lst)), n, _, rfl, fun nb => ?_, fun ok => ?_⟩
    · have lt : LetsB r E CI [("part", .int 0)] H := bad 0 (by
        unfold faultC
        rw [hn]
        show (if _ then _ else _) = _
        rw [if_neg (by rw [← len]; exact nb)])
      intro d H' nd hd sg
      have nd0 : H d = none := by
        cases z : H d with
        | none => rfl
        | some o =>
          have y : d ≠ r := fun e => by
            rw [e, hr1] at nd
            cases nd
          rw [s1 _ _ y z] at nd
          cases nd
      exact lt d H' nd0 hd (sb_trans s1 (same_sb sg))
    · refine ⟨_, rfl, _, rfl, r, C, dx, _, rfl, hr1, T.cl, T.nN, by show 2 < 1000; decide, ?_⟩
      have nlr : l ≠ r := ne_of hm.lst hr1 (by intro z; cases z)
      refine good (by unfold faultC; rw [hn]; exact if_pos (by rw [← len]; exact ok)) _ l ms (fun b o nb e => ?_) nl (by rw [upd_same]; rfl) ⟨?_, fun q hq => ?_⟩ nw pm od
      · rw [upd_ne nb]
        exact s1 _ _ nb e
      · rw [upd_ne nlr]
        exact hm.lst
      · rw [upd_ne (ne_of (hm.each q hq) hr1 (by intro z; cases z))]
        exact hm.each q hq
end
end Pm
namespace Pm
open PySem PySem.Spec PyProof.Rows L2 SX NdefX
theorem emp_S : ("" : Str) = S [] := by decide +kernel
def alphaL : List Nat := unS alphaS
theorem alphaL_S : S alphaL = alphaS := S_unS _
theorem alphaL_len : alphaL.length = 26 := by decide +kernel
/-- pairs of ints in the heap -/
def PairO (p : Int × Int) : HO := .tup [.int p.1, .int p.2]
structure PairsAt (H : Hp) (a : Addr) (ps : List (Addr × (Int × Int))) : Prop where
  lst : H a = some (.lst (ps.map fun q => V.ref q.1))
  each : ∀ q ∈ ps, H q.1 = some (PairO q.2)
def wideC (p : Int × Int) : Cnd := (p, alphaL)
section
variable {P : Program} {w : World} {K : PySem.W.Frag} {mg : Str → Option Value} {base : Heap} {C CI D : Addr}
def spSameInit (CI C : Addr) (K : PySem.W.Frag) : Sp := fun vs H Q E => ∃ r dx a ps n, vs = [.ref r, .ref a, .int n] ∧ H r = some (.ins C dx []) ∧ PairsAt H a ps ∧ ps.length ≤ 1000 ∧
  (∀ p, faultS (ps.map fun q => wideC q.2) n = some p → LetsB r E CI [("part", .int (p : Int))] H) ∧
  (faultS (ps.map fun q => wideC q.2) n = none → ∀ H' l ms, SameBut r H H' → H l = none → H' r = some (.ins C dx [("stone", .str ""), ("need", .int n), ("_conditions", .ref l)]) → CndsAt H' l ms → New H ms → (ms.map (·.2)).Perm ((ps.map fun q => wideC q.2).map ascC) → Ord (ms.map (·.2)) → Q .non H')
abbrev nSameInit : List Str := ["self", "places", "need", "conditions", "dx", "dy"]
theorem scSameInit : FnScope nSameInit ["self", "places", "need"] (defScope cSameRuleInit) := ⟨rfl, rfl, rfl, by decide +kernel, rfl, by decide +kernel, by decide +kernel⟩
theorem ok_sameinit {f c o d : Addr} {fd dc do_ dd : FuncData} (F : Fun K "__init__" "SameRule.__init__" cSameRuleInit f fd) (Ck : Cl P w K mg base (L2.CX P w) 3 "_check_conditions" ["conditions"] (spCheck CI) c dc) (Io : Cl P w K mg base CX0 2 "_in_order" ["conditions"] spInOrder o do_)
    (Nd : Cl P w K mg base (L2.CX P w) 3 "_check_need" ["need", "count"] (spNeed CI) d dd) (L : LTxt K mg) (Tx : PTxt K mg D) (T : RCls K C) : FnOk P w K mg base (L2.CX P w) 5 f fd ["self", "places", "need"] (spSameInit CI C K) := by
  refine F.okX scSameInit (fun vs H Q E h => ?_) (fun cdv A outer s H vs Q E hr h => ?_)
  · obtain ⟨r, dx, a, ps, n, rfl, _⟩ := h
    rfl
  · obtain ⟨r, dx, a, ps, n, rfl, hr0, hp, few, bad, good⟩ := h
    obtain ⟨uS, hS, rS⟩ := Tx.stones
    have hr2 : Room 2 _ := hr.mono (by decide)
    have hr3 : Room 3 _ := hr.mono (by decide)
    refine ⟨_, (pss_cons (ps_setLc (i := 3) (own := [("dx", 4), ("dy", 5)]) (g := (gTup K 2 (gCons (gName 4) (gCons (gName 5) gNil)))) (tt := tYes) rfl scSameInit.nd rfl rfl (sw_true rfl rfl rfl (by decide +kernel)) (pi_list (pv 1)) (blkOk_by (own := [("dx", 4), ("dy", 5)]) (N := nSameInit) (sc := defScope cSameRuleInit) (by decide +kernel)) (fun _ _ _ _ _ => (pg_tup rfl (pgs_cons (pg_name (i := 4) scSameInit.nd rfl (.inl rfl)) (pgs_cons (pg_name (i := 5) scSameInit.nd rfl (.inl rfl)) pgs_nil)))) (fun _ _ _ _ _ => pts_nil) (fun _ _ _ _ _ => (pe_tup (pa_cons (pv 4) (pa_cons (pv 5) (pa_cons (pe_glob (by rfl) hS rS) pa_nil))))))
      (pss_cons (ps_expr (pe_callS (E := fun _ => E) Ck.ok hr3 (by rfl) Ck.gl Ck.kp Ck.bd (fun σ pins H s e s' I c => passes_call (takes_of rfl rfl rfl rfl) (fun _ _ _ _ z => z) pins σ H s e s' I c) (pa_cons (pv 3) pa_nil)))
      (pss_cons (ps_expr (pe_callS (E := fun _ => E) Nd.ok hr3 (by rfl) Nd.gl Nd.kp Nd.bd (fun σ pins H s e s' I c => passes_call (takes_of rfl rfl rfl rfl) (fun _ _ _ _ z => z) pins σ H s e s' I c) (pa_cons (pv 2) (pa_cons (pe_callB call_len_seq (by rfl) L.len PySem.boot_len (pa_cons (pv 3) pa_nil)) pa_nil))))
      (pss_cons (ps_fld (pv 0) pe_str rfl)
      (pss_cons (ps_fld (pv 0) (pv 2) rfl)
      (pss_one (ps_fld (pv 0) (pe_call Io.ok hr2 (by rfl) Io.gl Io.kp Io.bd .nil pass0 (pa_cons (pv 3) pa_nil)) rfl))))))), ?_⟩
    refine ⟨.ref a, rfl, a, rfl, ⟨_, SqL.of hp.lst⟩, fun D nD => lc_list (K := K) (a := a) (xs := ps.map fun q => V.ref q.1) (fun i G => ∃ ks : List (Addr × Cnd), Same H G ∧ G D = some (.lst (refC ks)) ∧ (∀ q ∈ ks, G q.1 = some (CondO q.2)) ∧ ks.map (·.2) = (ps.take i).map fun q => wideC q.2) ⟨[], same_upd nD, upd_same, (fun p hp => nomatch hp), rfl⟩ (fun i G _ ⟨ts, sm, _⟩ => SqL.of (sm _ _ hp.lst)) ?_ ?_⟩
    · rintro i x G hx ⟨ks, sm, hD, hks, ek⟩
      rw [List.getElem?_map] at hx
      obtain ⟨q, hi, rfl⟩ : ∃ q, ps[i]? = some q ∧ x = V.ref q.1 := by
        cases e : ps[i]? with
        | none =>
          rw [e] at hx
          cases hx
        | some p =>
          rw [e] at hx
          cases hx
          exact ⟨p, rfl, rfl⟩
      have htc := sm _ _ (hp.each q (List.mem_of_getElem? hi))
      have li : i < ps.length := (List.getElem?_eq_some_iff.mp hi).1
      refine ⟨q.1, _, rfl, SqT.of htc, rfl, _, _, rfl, _, _, rfl, rfl, rfl, ?_⟩
      refine tyes (iteT ⟨_, rfl, _, rfl, by show 3 ≤ sizeLine; decide, fun T nT => ?_⟩)
      have s3 := same_upd (o := .tup [.int q.2.1, .int q.2.2, .str alphaS]) nT
      have nDT : D ≠ T := ne_of_none hD nT
      refine ⟨refC ks, s3 _ _ hD, ?_, ks ++ [(T, wideC q.2)], fun b o e => ?_, ?_, fun p hp => ?_, ?_⟩
      · have := congrArg List.length ek
        rw [List.length_map, List.length_map, List.length_take] at this
        rw [show (refC ks).length = ks.length from List.length_map _]
        exact small1000 (by omega)
      · rw [upd_ne (ne_of_none e nD)]
        exact s3 _ _ (sm _ _ e)
      · rw [upd_same]
        unfold refC
        rw [List.map_append]
        rfl
      · rcases List.mem_append.mp hp with z | z
        · have y := s3 _ _ (hks p z)
          rw [upd_ne (fun e => ?_)]
          · exact y
          · rw [e, s3 _ _ hD] at y
            cases y
        · rw [List.mem_singleton.mp z]
          rw [upd_ne nDT.symm, upd_same]
          show _ = some (HO.tup [.int q.2.1, .int q.2.2, .str (S alphaL)])
          rw [alphaL_S]
      · rw [List.map_append, ek, List.take_add_one, hi, List.map_append]
        rfl
    · rintro G ⟨ks, sm, hD, hks, ek⟩
      rw [List.length_map, List.take_of_length_le (Nat.le_refl _)] at ek
      have lk : ks.length = ps.length := by
        have := congrArg List.length ek
        rwa [List.length_map, List.length_map] at this
      have hcG : CndsAt G D ks := ⟨hD, hks⟩
      have each : ∀ q ∈ ks, q.2.2.length ≤ 1000 := fun q hq => by
        have m : q.2 ∈ ks.map (·.2) := List.mem_map.mpr ⟨q, hq, rfl⟩
        rw [ek] at m
        obtain ⟨p, _, e⟩ := List.mem_map.mp m
        rw [← e]
        show alphaL.length ≤ 1000
        rw [alphaL_len]
        decide
      have back2 : ∀ {G2 : Hp}, Same H G2 → ∀ p, faultS (ps.map fun q => wideC q.2) n = some p → Lets E CI [("part", .int (p : Int))] G2 := fun {G2} sg p e d H' nd hd s => bad p e d H' (back sg nd) hd (same_sb (sg.trans s))
      refine ⟨_, rfl, D, ks, rfl, hcG, by omega, each, fun p hf => back2 sm p (by unfold faultS; rw [← ek, hf]), fun hn G1 s1 => ?_⟩
      have len : (refC ks).length = (ps.map fun q => wideC q.2).length := by
        unfold refC
        rw [List.length_map, List.length_map, lk]
      have hn2 : fstBad 1 [] (ps.map fun q => wideC q.2) = none := by rw [← ek]; exact hn
      refine ⟨_, rfl, _, rfl, D, _, rfl, .inl (SqL.of (s1 _ _ hD)), n, _, rfl, fun nb => back2 (sm.trans s1) 0 ?_, fun ok => ?_⟩
      · unfold faultS
        rw [hn2]
        exact if_neg (by rw [← len]; exact nb)
      have sG1 := sm.trans s1
      have hrG := sG1 _ _ hr0
      refine ⟨_, rfl, r, C, dx, [], rfl, hrG, T.cl, T.nS, by show 0 < 1000; decide, ?_⟩
      refine ⟨_, rfl, _, rfl, r, C, dx, _, rfl, upd_same, T.cl, T.nN, by show 1 < 1000; decide, ?_⟩
      have hcU : CndsAt (upd (upd G1 r (.ins C dx [("stone", .str "")])) r (.ins C dx [("stone", .str ""), ("need", .int n)])) D ks := by
        refine ⟨?_, fun q hq => ?_⟩
        · have ne := ne_of (s1 _ _ hD) hrG (by intro z; cases z)
          rw [upd_ne ne, upd_ne ne]
          exact s1 _ _ hD
        · have y := s1 _ _ (hks q hq)
          have ne := ne_of y hrG (by intro z; cases z)
          rw [upd_ne ne, upd_ne ne]
          exact y
      have nd : (ks.map fun q => q.2.1).Nodup := by
        have y := (fst_none hn).1
        rw [List.map_map] at y
        exact y
      refine ⟨_, rfl, D, ks, rfl, hcU, by omega, each, nd, fun l ms H2 s2 nl hm nw pm od => ?_⟩
      have hr2' : H2 r = some (.ins C dx [("stone", .str ""), ("need", .int n)]) := s2 _ _ upd_same
      refine ⟨_, rfl, r, C, dx, _, rfl, hr2', T.cl, T.nC, by show 2 < 1000; decide, ?_⟩
      have sbU : SameBut r H (upd (upd G1 r (.ins C dx [("stone", .str "")])) r (.ins C dx [("stone", .str ""), ("need", .int n)])) := fun b o nb e => by
        rw [upd_ne nb, upd_ne nb]
        exact sG1 _ _ e
      have nl0 : H l = none := by
        cases z : H l with
        | none => rfl
        | some o =>
          have y : l ≠ r := fun e => by
            have nl2 : upd (upd G1 r (.ins C dx [("stone", .str "")])) r (.ins C dx [("stone", .str ""), ("need", .int n)]) l = none := nl
            rw [e, upd_same] at nl2
            cases nl2
          have y2 := (sbU l _ y z).symm.trans nl
          cases y2
      have nw0 : New H ms := fun q hq => by
        cases z : H q.1 with
        | none => rfl
        | some o =>
          have y : q.1 ≠ r := fun e => by
            have n2 : upd (upd G1 r (.ins C dx [("stone", .str "")])) r (.ins C dx [("stone", .str ""), ("need", .int n)]) q.1 = none := nw q hq
            rw [e, upd_same] at n2
            cases n2
          have y2 := (sbU _ _ y z).symm.trans (nw q hq)
          cases y2
      have nlr : l ≠ r := ne_of hm.lst hr2' (by intro z; cases z)
      refine good (by unfold faultS; rw [hn2]; exact if_pos (by rw [← len]; exact ok)) _ l ms (fun b o nb e => ?_) nl0 (by rw [upd_same]; rfl) ⟨?_, fun q hq => ?_⟩ nw0 (by rw [← ek]; exact pm) od
      · rw [upd_ne nb]
        exact s2 _ _ (sbU b o nb e)
      · rw [upd_ne nlr]
        exact hm.lst
      · rw [upd_ne (ne_of (hm.each q hq) hr2' (by intro z; cases z))]
        exact hm.each q hq
end
end Pm
namespace Pm
open PySem PySem.Spec PyProof.Rows L2 SX
/-! ### digits and small numbers of a rule's line -/
abbrev digS : Str := "0123456789"
def Dig (c : Nat) : Prop := 48 ≤ c ∧ c ≤ 57
instance (c : Nat) : Decidable (Dig c) := by unfold Dig; infer_instance
def digB : List Nat → Bool
  | [c] => decide (Dig c)
  | _ => false
theorem dig_mem (c : Nat) : c ∈ digS.cps.toList ↔ Dig c := by
  have e : digS.cps.toList = List.range' 48 10 := by decide +kernel
  rw [e, List.mem_range'_1]
  unfold Dig
  omega
theorem digB_ne {z : List Nat} (h : z.length ≠ 1) : digB z = false := by
  match z, h with
  | [], _ => rfl
  | [_], h => exact absurd rfl h
  | _ :: _ :: _, _ => rfl
structure DTx (K : PySem.W.Frag) (mg : Str → Option Value) : Prop where
  digits : ∃ u, mg "_DIGITS" = some u ∧ RelV (.str digS) u
section
variable {P : Program} {w : World} {K : PySem.W.Frag} {mg : Str → Option Value} {base : Heap} {C : Addr}
def spDigit : Sp := fun vs H Q _ => ∃ z, vs = [.str (S z)] ∧ z.length ≤ 1000 ∧ Q (.bl (digB z)) H
theorem scDigit : FnScope ["text"] ["text"] (defScope gIsDigit) := ⟨rfl, rfl, rfl, by decide +kernel, rfl, by decide +kernel, by decide +kernel⟩
theorem ok_digit {f : Addr} {fd : FuncData} (F : Fun K "_is_digit" "_is_digit" gIsDigit f fd) (L : LTxt K mg) (T : DTx K mg) : FnOk P w K mg base CX0 1 f fd ["text"] spDigit := by
  refine F.ok scDigit (fun vs H Q E h => ?_) (fun cdv A outer s H vs Q E hr h => ?_)
  · obtain ⟨z, rfl, _⟩ := h
    rfl
  · obtain ⟨z, rfl, few, k⟩ := h
    obtain ⟨u, hu, ru⟩ := T.digits
    refine ⟨_, pss_one (ps_ret (pe_and (pe_cmpR op_eq (pe_callB call_len_str (by rfl) L.len PySem.boot_len (pa_cons (pv 0) pa_nil)) pe_int (nomark _)) (pe_one (pe_cmpR op_in_sign (pv 0) (pe_glob (by rfl) hu ru) (by rfl))))), ?_⟩
    refine ⟨_, rfl, _, rfl, by rw [len_S]; exact small_line few, rfl, _, rfl, ite2 (fun e => ?_) (fun e => ?_)⟩
    · have e1 : z.length = 1 := by
        have := of_decide_eq_true e
        simp only [V.int.injEq] at this
        rw [len_S] at this
        omega
      obtain ⟨c, rfl⟩ := len_one e1
      refine ⟨_, rfl, c, _, rfl, rfl, ?_⟩
      have y : decide (c ∈ digS.cps.toList) = digB [c] := decide_eq_decide.mpr (dig_mem c)
      rw [y]
      exact k
    · have e1 : z.length ≠ 1 := fun y => e (decide_eq_true (by rw [len_S, y]; rfl))
      rw [digB_ne e1] at k
      exact k
end
end Pm
namespace Pm
open PySem PySem.Spec PyProof.Rows L2 SX 
theorem cps_S (z : List Nat) : (S z).cps.toList = z := by
  show z.toArray.toList = z
  simp
def noMin : List Nat → List Nat
  | 45 :: r => r
  | z => z
def numB (z : List Nat) : Bool := !decide (z = [45, 48]) && digB (noMin z)
theorem minus_S : ("-" : Str) = S [45] := by decide +kernel
theorem noMin_len (z : List Nat) : (noMin z).length ≤ z.length := by
  unfold noMin
  split
  · rw [List.length_cons]
    omega
  · exact Nat.le_refl _
theorem noMin_eq : ∀ z : List Nat, noMin z = if z.take 1 = [45] then z.drop 1 else z
  | [] => by rw [if_neg (by decide)]; rfl
  | c :: r => by
    by_cases h : c = 45
    · subst h
      rw [if_pos (show (45 :: r).take 1 = [45] from rfl)]
      rfl
    · rw [if_neg (show ¬ (c :: r).take 1 = [45] from fun e => h (List.cons.inj e).1)]
      unfold noMin
      split
      · rename_i e
        exact absurd (List.cons.inj e).1 h
      · rfl
theorem remove_S (z : List Nat) : Txt.removeprefix (S z) (S [45]) = S (noMin z) := by
  rw [PySem.StrLaws.removeprefix_eq, noMin_eq]
  have e1 : PySem.Builtin.Str.subAt (S z) (S [45]) 0 = decide (z.take 1 = [45]) := by
    rw [PySem.StrLaws.subAt_eq, cps_S z, cps_S [45], List.drop_zero]
    rw [Bool.eq_iff_iff]
    simp [len_S]
  rw [e1, len_S, len_S, cps_S z]
  by_cases h : z.take 1 = [45]
  · rw [if_pos h, if_pos]
    · have : (z.drop 1).take (z.length - 1) = z.drop 1 := List.take_of_length_le (by rw [List.length_drop]; exact Nat.le_refl _)
      show (⟨((z.drop 1).take (z.length - 1)).toArray⟩ : Str) = S (z.drop 1)
      rw [this]
    · rw [decide_eq_true h, Bool.and_true]
      refine decide_eq_true ?_
      have := congrArg List.length h
      rw [List.length_take] at this
      show 0 + 1 ≤ z.length
      simp at this
      omega
  · rw [if_neg h, if_neg]
    rw [decide_eq_false h, Bool.and_false]
    decide
section
variable {P : Program} {w : World} {K : PySem.W.Frag} {mg : Str → Option Value} {base : Heap} {C : Addr}
def spNumber : Sp := fun vs H Q _ => ∃ z, vs = [.str (S z)] ∧ z.length ≤ 1000 ∧ Q (.bl (numB z)) H
theorem scNumber : FnScope ["text"] ["text"] (defScope gIsNumber) := ⟨rfl, rfl, rfl, by decide +kernel, rfl, by decide +kernel, by decide +kernel⟩
theorem ok_number {f g : Addr} {fd gd : FuncData} (F : Fun K "_is_number" "_is_number" gIsNumber f fd) (G : Cl P w K mg base CX0 1 "_is_digit" ["text"] spDigit g gd) : FnOk P w K mg base CX0 2 f fd ["text"] spNumber := by
  refine F.ok scNumber (fun vs H Q E h => ?_) (fun cdv A outer s H vs Q E hr h => ?_)
  · obtain ⟨z, rfl, _⟩ := h
    rfl
  · obtain ⟨z, rfl, few, k⟩ := h
    refine ⟨_, pss_one (ps_ret (pe_and (pe_cmpR op_ne (pv 0) pe_str (nomark _)) (pe_one (pe_call G.ok hr (by rfl) G.gl G.kp G.bd .nil pass0 (pa_cons (pe_bm PySem.F.plainAttrs_str PySem.F.slot_str_removeprefix PySem.F.type_str_removeprefix mt_removeprefix (pv 0) (pa_cons pe_str pa_nil)) pa_nil))))), ?_⟩
    have e0 : ("-0" : Str) = S [45, 48] := by decide +kernel
    have e1 : decide (V.str (S z) = V.str ("-0" : Str)) = decide (z = [45, 48]) := by
      rw [e0]
      refine decide_eq_decide.mpr ⟨fun h => S_inj (V.str.inj h), fun h => by rw [h]⟩
    unfold numB at k
    rw [← e1] at k
    refine ⟨_, rfl, rfl, _, rfl, ite2 (fun e => ?_) (fun e => ?_)⟩
    · rw [show decide (V.str (S z) = V.str ("-0" : Str)) = false by simpa using e] at k
      refine ⟨_, rfl, rfl, S z, S [45], rfl, by rw [← minus_S], by rw [len_S]; exact small_line few, ?_⟩
      rw [remove_S]
      exact ⟨noMin z, rfl, Nat.le_trans (noMin_len z) few, k⟩
    · rw [show decide (V.str (S z) = V.str ("-0" : Str)) = true by simpa using e] at k
      simpa using k
end
end Pm
namespace Pm
open PySem PySem.Spec PyProof.Rows L2 SX NdefX Tr
/-- drawn signs of a condition -/
structure Sgn (y : List Nat) : Prop where
  ne : y ≠ []
  nd : y.Nodup
  all : ∀ c ∈ y, c = 35 ∨ Let c
  few : y.length ≤ 27
theorem Sgn.diff {y : List Nat} (h : Sgn y) : diffB 35 y = true := by
  unfold diffB
  rw [decide_eq_true h.ne, decide_eq_true h.nd, Bool.true_and, Bool.true_and, List.all_eq_true]
  intro c m
  rcases h.all c m with e | e
  · rw [decide_eq_true e]
    rfl
  · rw [decide_eq_true e, Bool.or_true]
theorem pal_at {z : List Nat} (h : Pal z) {n : Int} (n0 : 0 ≤ n) (n3 : n < 3) : ∃ c, atI z n = some c ∧ Let c := by
  obtain ⟨j, rfl⟩ : ∃ j : Nat, n = (j : Int) := ⟨n.toNat, by omega⟩
  have hj : j < z.length := by rw [h.len]; omega
  exact ⟨z[j], atI_nat (List.getElem?_eq_getElem hj), h.good (List.getElem_mem hj)⟩
theorem CndsAt.sb {H H' : Hp} {b l p : Addr} {ks : List (Addr × Cnd)} (h : CndsAt H p ks) (pb : p ≠ b) (hb : BagL H b l) (s : SameBut b H H') : CndsAt H' p ks := by
  obtain ⟨xs, e⟩ := bag_b hb
  exact ⟨s _ _ pb h.lst, fun q hq => s _ _ (ne_of (h.each q hq) e (by intro z; cases z)) (h.each q hq)⟩
def kindT (κ : Nat) : Str := if κ = 0 then "all" else if κ = 1 then "count" else "same"
structure GoodR (κ : Nat) (hue : Nat) (cs : List Cnd) (need : Int) : Prop where
  k3 : κ < 3
  hue : Let hue
  few : cs.length ≤ 8
  nd : (cs.map (·.1)).Nodup
  each : ∀ c ∈ cs, placeB c.1 = true ∧ Sgn c.2
  n0 : 0 ≤ need
  n1 : need ≤ (cs.length : Int)
  all : κ = 0 → need = (cs.length : Int)
/-- the law's own rule at t, its parts at pl -/
structure RuleT (H : Hp) (t pl : Addr) (κ hue : Nat) (ks : List (Addr × Cnd)) (need : Int) : Prop where
  at_ : H t = some (.tup [.str (kindT κ), .str (S [hue]), .ref pl, .int need])
  cs : CndsAt H pl ks
  good : GoodR κ hue (ks.map (·.2)) need
theorem RuleT.same {H H' : Hp} {t pl : Addr} {κ hue : Nat} {ks : List (Addr × Cnd)} {need : Int} (h : RuleT H t pl κ hue ks need) (s : Same H H') : RuleT H' t pl κ hue ks need := ⟨s _ _ h.at_, h.cs.same s, h.good⟩
theorem kinds_at : ∀ n : Int, 0 ≤ n → n < 3 → ∃ κ : Nat, κ < 3 ∧ n = (κ : Int) ∧ atI [V.str "all", V.str "count", V.str "same"] n = some (.str (kindT κ)) := by
  intro n h0 h1
  obtain ⟨j, rfl⟩ : ∃ j : Nat, n = (j : Int) := ⟨n.toNat, by omega⟩
  have hj : j < 3 := by omega
  match j, hj with
  | 0, _ => exact ⟨0, by decide, rfl, rfl⟩
  | 1, _ => exact ⟨1, by decide, rfl, rfl⟩
  | 2, _ => exact ⟨2, by decide, rfl, rfl⟩
theorem kind_all {κ : Nat} (h : κ < 3) : decide (V.str (kindT κ) = V.str "all") = decide (κ = 0) := by
  match κ, h with
  | 0, _ => decide +kernel
  | 1, _ => decide +kernel
  | 2, _ => decide +kernel
theorem kind_count {κ : Nat} (h : κ < 3) : decide (V.str (kindT κ) = V.str "count") = decide (κ = 1) := by
  match κ, h with
  | 0, _ => decide +kernel
  | 1, _ => decide +kernel
  | 2, _ => decide +kernel
theorem kind_same {κ : Nat} (h : κ < 3) : decide (V.str (kindT κ) = V.str "same") = decide (κ = 2) := by
  match κ, h with
  | 0, _ => decide +kernel
  | 1, _ => decide +kernel
  | 2, _ => decide +kernel
theorem lex_eq {p q : Int × Int} (h1 : SrtO.lexB p q = false) (h2 : SrtO.lexB q p = false) : p = q := by
  have a := SrtO.lexB_no.mp h1
  have b := SrtO.lexB_no.mp h2
  exact Prod.ext (by omega) (by omega)
theorem ord_uniq : ∀ {M N : List Cnd}, M.Perm N → (N.map (·.1)).Nodup → Ord M → Ord N → M = N
  | [], N, p, _, _, _ => List.Perm.nil_eq p
  | a :: M, [], p, _, _, _ => absurd p.length_eq (by simp)
  | a :: M, b :: N, p, nd, h1, h2 => by
    have ha := List.pairwise_cons.mp h1
    have hb := List.pairwise_cons.mp h2
    have ab : a = b := by
      have m1 : a ∈ b :: N := p.mem_iff.mp List.mem_cons_self
      have m2 : b ∈ a :: M := p.mem_iff.mpr List.mem_cons_self
      rcases List.mem_cons.mp m1 with e | e
      · exact e
      · rcases List.mem_cons.mp m2 with e2 | e2
        · exact e2.symm
        · have k := lex_eq (hb.1 a e) (ha.1 b e2)
          have k2 : a.1 = b.1 := Prod.ext (congrArg Prod.snd k) (congrArg Prod.fst k)
          exact absurd (by show b.1 ∈ _; rw [← k2]; exact List.mem_map.mpr ⟨a, e, rfl⟩) (List.nodup_cons.mp nd).1
    subst ab
    rw [ord_uniq p.cons_inv (List.nodup_cons.mp nd).2 ha.2 hb.2]
theorem ord_map {M : List Cnd} (f : Cnd → Cnd) (hf : ∀ c, (f c).1 = c.1) (h : Ord M) : Ord (M.map f) := List.pairwise_map.mpr (h.imp fun e => by rw [hf, hf]; exact e)
/-- what sep.join(texts) asks -/
def rJoinC (K : PySem.W.Frag) : V → List V → Hp → VK → Prop := fun x xs H Q => ∃ a p, ∃ ys : List Str, x = .str a ∧ xs = [.ref p] ∧ (SqL K H p (ys.map V.str) ∨ SqT K H p (ys.map V.str)) ∧ (ys.map (·.length)).sum + ys.length * a.length ≤ 16777216 ∧ Q (.str (Txt.join a ys)) H
/-- what is due for a stone -/
def dueOf (κ : Nat) (z : List Nat) (ms : List Cnd) : List Cnd := ms.map fun c => (c.1, if κ = 2 then z else asc c.2)
def lows : List Str := ["lays", "conditions", "KIND", "slack", "clashes", "fits", "written", "_condition_words"]
/-- a rule at r: kind 0 all, 1 count, 2 same -/
def RuleAt (C : Addr) (H : Hp) (r : Addr) (κ : Nat) (st : List Nat) (need : Int) (ms : List Cnd) : Prop := ∃ dx fs l ks, H r = some (.ins C dx fs) ∧ fs.lookup ("stone" : Str) = some (.str (S st)) ∧ fs.lookup ("_conditions" : Str) = some (.ref l) ∧ (κ ≠ 0 → fs.lookup ("need" : Str) = some (.int need)) ∧
  (∀ m ∈ lows, fs.lookup m = none) ∧ CndsAt H l ks ∧ ks.map (·.2) = ms
theorem RuleAt.same {C : Addr} {H H' : Hp} {r : Addr} {κ : Nat} {st : List Nat} {need : Int} {ms : List Cnd} (h : RuleAt C H r κ st need ms) (s : Same H H') : RuleAt C H' r κ st need ms := by
  obtain ⟨dx, fs, l, ks, a, b, c, d, e, f, g⟩ := h
  exact ⟨dx, fs, l, ks, s _ _ a, b, c, d, e, f.same s, g⟩
def laysB (κ : Nat) (st z : List Nat) : Bool := if κ = 2 then stoneB z else decide (z = st)
def condsOf (κ : Nat) (z : List Nat) (ms : List Cnd) : List Cnd := if κ = 2 then ms.map fun c => (c.1, z) else ms
def slackOf (κ : Nat) (need : Int) (ms : List Cnd) : Int := if κ = 0 then 0 else (ms.length : Int) - need
def spLays (C : Addr) (κ : Nat) : Sp := fun vs H Q _ => ∃ r st need ms z, vs = [.ref r, .str (S z)] ∧ RuleAt C H r κ st need ms ∧ z.length ≤ 1000 ∧ Q (.bl (laysB κ st z)) H
abbrev nCondS : List Str := ["self", "stone", "dx", "dy", "_"]
def spSlack (C : Addr) (κ : Nat) : Sp := fun vs H Q _ => ∃ r st need ms, vs = [.ref r] ∧ RuleAt C H r κ st need ms ∧ ms.length ≤ 1000 ∧ Q (.int (slackOf κ need ms)) H
def spLenR (C : Addr) (κ : Nat) : Sp := fun vs H Q _ => ∃ r st need ms, vs = [.ref r] ∧ RuleAt C H r κ st need ms ∧ Q (.int (ms.length : Int)) H
def cutA (c : Nat) (z : List Nat) : List Nat := z.takeWhile (· != c)
def cutB (c : Nat) (z : List Nat) : List Nat := (z.dropWhile (· != c)).drop 1
theorem cutA_len (c : Nat) (z : List Nat) : (cutA c z).length ≤ z.length := (List.takeWhile_sublist _).length_le
theorem cutB_len (c : Nat) (z : List Nat) : (cutB c z).length ≤ z.length := ((List.drop_sublist _ _).trans (List.dropWhile_sublist _)).length_le
theorem cut_app {c : Nat} {p : List Nat} (q : List Nat) (h : c ∉ p) : cutA c (p ++ (c :: q)) = p ∧ cutB c (p ++ (c :: q)) = q := by
  induction p with
  | nil =>
    unfold cutA cutB
    simp
  | cons d r ih =>
    have hd : d ≠ c := fun e => h (by rw [e]; exact List.mem_cons_self ..)
    have ih := ih (fun m => h (List.mem_cons_of_mem _ m))
    unfold cutA cutB at ih ⊢
    have e : (d != c) = true := by simpa using hd
    rw [List.cons_append, List.takeWhile_cons, e, if_pos rfl, List.dropWhile_cons, e, if_pos rfl]
    exact ⟨by rw [ih.1], ih.2⟩
theorem cut_no {c : Nat} : ∀ {z : List Nat}, c ∉ z → cutA c z = z ∧ cutB c z = []
  | [], _ => ⟨rfl, rfl⟩
  | d :: r, h => by
    have hd : d ≠ c := fun e => h (by rw [e]; exact List.mem_cons_self ..)
    have ih := cut_no (z := r) (fun m => h (List.mem_cons_of_mem _ m))
    unfold cutA cutB at ih ⊢
    have e : (d != c) = true := by simpa using hd
    rw [List.takeWhile_cons, e, if_pos rfl, List.dropWhile_cons, e, if_pos rfl]
    exact ⟨by rw [ih.1], ih.2⟩
theorem split_mem {c : Nat} : ∀ {z : List Nat}, c ∈ z → ∃ p q, z = p ++ (c :: q) ∧ c ∉ p
  | [], h => nomatch h
  | d :: r, h => by
    by_cases e : d = c
    · exact ⟨[], r, by rw [e]; rfl, fun m => nomatch m⟩
    · obtain ⟨p, q, e1, n⟩ := split_mem (c := c) (z := r) (by
        rcases List.mem_cons.mp h with y | y
        · exact absurd y.symm e
        · exact y)
      refine ⟨d :: p, q, by rw [e1]; rfl, fun m => ?_⟩
      rcases List.mem_cons.mp m with y | y
      · exact e y.symm
      · exact n y
theorem part_S (c : Nat) (z : List Nat) : ∃ m, Txt.partition (S z) (S [c]) = (S (cutA c z), m, S (cutB c z)) := by
  by_cases h : c ∈ z
  · obtain ⟨p, q, rfl, n⟩ := split_mem h
    obtain ⟨e1, e2⟩ := cut_app q n
    rw [e1, e2]
    exact ⟨_, partition_some (by simp) (par_head (sep := []) q n)⟩
  · obtain ⟨e1, e2⟩ := cut_no h
    rw [e1, e2]
    exact ⟨_, partition_none (by simp) (par_head_none (sep := []) h)⟩
def numV : List Nat → Int
  | [c] => (c : Int) - 48
  | [_, c] => 48 - (c : Int)
  | _ => 0
theorem digB_is {z : List Nat} (h : digB z = true) : ∃ c, z = [c] ∧ 48 ≤ c ∧ c ≤ 57 := by
  match z, h with
  | [c], h => exact ⟨c, rfl, of_decide_eq_true h⟩
theorem numB_is {z : List Nat} (h : numB z = true) : (∃ d, d < 10 ∧ z = [48 + d]) ∨ ∃ d, 1 ≤ d ∧ d < 10 ∧ z = [45, 48 + d] := by
  unfold numB at h
  rw [Bool.and_eq_true] at h
  obtain ⟨h1, h2⟩ := h
  have h1 : z ≠ [45, 48] := by simpa using h1
  obtain ⟨c, e, c0, c9⟩ := digB_is h2
  unfold noMin at e
  split at e
  · rename_i r
    right
    have c8 : c ≠ 48 := fun y => h1 (by rw [e, y])
    have ec : 48 + (c - 48) = c := by omega
    exact ⟨c - 48, by omega, by omega, by rw [e, ec]⟩
  · left
    have ec : 48 + (c - 48) = c := by omega
    exact ⟨c - 48, by omega, by rw [e, ec]⟩
theorem int_dig : ∀ d, d < 10 → intText? (S [48 + d]) = some (d : Int) := by decide +kernel
theorem int_neg : ∀ d, d < 10 → intText? (S [45, 48 + d]) = some (-(d : Int)) := by decide +kernel
theorem int_num {z : List Nat} (h : numB z = true) : intText? (S z) = some (numV z) ∧ z.length ≤ 2 := by
  rcases numB_is h with ⟨d, hd, rfl⟩ | ⟨d, _, hd, rfl⟩
  · have e : numV [48 + d] = (d : Int) := by
      show ((48 + d : Nat) : Int) - 48 = d
      omega
    exact ⟨by rw [int_dig d hd, e], by show 1 ≤ 2; decide⟩
  · have e : numV [45, 48 + d] = -(d : Int) := by
      show 48 - ((48 + d : Nat) : Int) = -d
      omega
    exact ⟨by rw [int_neg d hd, e], by show 2 ≤ 2; decide⟩
theorem comma_S : ("," : Str) = S [44] := by decide +kernel
theorem colon_S : (":" : Str) = S [58] := by decide +kernel
theorem none_S : ("" : Str) = S [] := by decide +kernel
def readP (z : List Nat) : Option (Int × Int) := if numB (cutA 44 z) = true ∧ numB (cutB 44 z) = true then some (numV (cutA 44 z), numV (cutB 44 z)) else none
def PairT (p : Int × Int) : HO := .tup [.int p.1, .int p.2]
def readC (z : List Nat) : Option Cnd := if cutB 58 z = [] then none else (readP (cutA 58 z)).map fun p => (p, cutB 58 z)
def tiny (i : Int) : Prop := -9 ≤ i ∧ i ≤ 9
def numT (i : Int) : List Nat := if i < 0 then [45, 48 + i.natAbs] else [48 + i.natAbs]
theorem txt_pos : ∀ n : Nat, n < 10 → Str.ofString (toString (Int.ofNat n)) = S [48 + n] := by decide +kernel
theorem txt_neg1 : ∀ n : Nat, n < 9 → Str.ofString (toString (Int.negSucc n)) = S [45, 48 + (n + 1)] := by decide +kernel
theorem toS {i : Int} (h : tiny i) : Str.ofString (toString i) = S (numT i) := by
  obtain ⟨h1, h2⟩ := h
  cases i with
  | ofNat n =>
    have hn : n < 10 := by
      have : (n : Int) ≤ 9 := h2
      omega
    rw [txt_pos n hn]
    unfold numT
    rw [if_neg (by show ¬ ((n : Int) < 0); omega)]
    rfl
  | negSucc n =>
    have hn : n < 9 := by omega
    rw [txt_neg1 n hn]
    unfold numT
    rw [if_pos (Int.negSucc_lt_zero n)]
    rfl
theorem numT_len (i : Int) : (numT i).length ≤ 2 := by
  unfold numT
  split
  · exact Nat.le_refl _
  · show 1 ≤ 2
    decide
theorem log_tiny {i : Int} (h : tiny i) : i.natAbs.log2 < 1920 := by
  have k : ∀ n : Nat, n < 10 → n.log2 < 1920 := by decide +kernel
  obtain ⟨h1, h2⟩ := h
  exact k _ (by omega)
def pwT (p : Int × Int) : List Nat := ([] ++ numT p.1 ++ [44]) ++ numT p.2
def cwT (c : Cnd) : List Nat := (pwT c.1 ++ [58]) ++ c.2
theorem pwT_len (p : Int × Int) : (pwT p).length ≤ 5 := by
  have h1 := numT_len p.1
  have h2 := numT_len p.2
  unfold pwT
  rw [List.length_append, List.length_append, List.length_append]
  show 0 + (numT p.1).length + 1 + (numT p.2).length ≤ 5
  omega
theorem empty_S : Str.empty = S [] := by decide +kernel
theorem pw_js {p : Int × Int} (h1 : tiny p.1) (h2 : tiny p.2) : (Str.empty ++ Str.ofString (toString p.1)).length ≤ sizeLine ∧ (Str.empty ++ Str.ofString (toString p.1) ++ ("," : Str)).length ≤ sizeLine ∧ (Str.empty ++ Str.ofString (toString p.1) ++ ("," : Str) ++ Str.ofString (toString p.2)).length ≤ sizeLine ∧
    Str.empty ++ Str.ofString (toString p.1) ++ ("," : Str) ++ Str.ofString (toString p.2) = S (pwT p) := by
  rw [toS h1, toS h2, empty_S, comma_S, S_cat, S_cat, S_cat, len_S, len_S, len_S]
  have a := numT_len p.1
  have l := pwT_len p
  refine ⟨small_line ?_, small_line ?_, small_line ?_, rfl⟩
  · show (numT p.1).length ≤ 1000
    omega
  · rw [List.length_append]
    show (numT p.1).length + 1 ≤ 1000
    omega
  · unfold pwT at l
    omega
theorem cw_js {c : Cnd} (lz : c.2.length ≤ 1000) : (S (pwT c.1) ++ (":" : Str)).length ≤ sizeLine ∧ (S (pwT c.1) ++ (":" : Str) ++ S c.2).length ≤ sizeLine ∧ S (pwT c.1) ++ (":" : Str) ++ S c.2 = S (cwT c) := by
  rw [colon_S, S_cat, S_cat, len_S, len_S]
  have l := pwT_len c.1
  refine ⟨small_line ?_, ?_, rfl⟩
  · rw [List.length_append]
    show (pwT c.1).length + 1 ≤ 1000
    omega
  · rw [List.length_append, List.length_append, sizeLine_eq]
    show (pwT c.1).length + 1 + c.2.length ≤ _
    omega
theorem cwT_len (c : Cnd) (lz : c.2.length ≤ 1000) : (cwT c).length ≤ 1006 := by
  have l := pwT_len c.1
  unfold cwT
  rw [List.length_append, List.length_append]
  show (pwT c.1).length + 1 + c.2.length ≤ 1006
  omega
def txtV (ws : List (List Nat)) : List V := (ws.map S).map V.str
theorem txtV_len (ws : List (List Nat)) : (txtV ws).length = ws.length := by
  unfold txtV
  rw [List.length_map, List.length_map]
theorem txtV_app (a b : List (List Nat)) : txtV (a ++ b) = txtV a ++ txtV b := by
  unfold txtV
  rw [List.map_append, List.map_append]
def Tiny (ms : List Cnd) : Prop := ms.length ≤ 1000 ∧ ∀ c ∈ ms, tiny c.1.1 ∧ tiny c.1.2 ∧ c.2.length ≤ 1000
def allL : List Nat := [97, 108, 108]
def sameL : List Nat := [115, 97, 109, 101]
def headT (κ : Nat) (st : List Nat) (need : Int) : List (List Nat) := if κ = 0 then [st, allL] else if κ = 1 then [st, numT need] else [sameL, numT need]
def wordsT (κ : Nat) (st : List Nat) (need : Int) (ms : List Cnd) : List (List Nat) := headT κ st need ++ (if κ = 2 then ms.map fun c => pwT c.1 else ms.map cwT)
def lineT (κ : Nat) (st : List Nat) (need : Int) (ms : List Cnd) : List Nat := TL.joinL [32] (wordsT κ st need ms)
theorem sum_le (n : Nat) : ∀ l : List Nat, (∀ x ∈ l, x ≤ n) → l.sum ≤ l.length * n
  | [], _ => by simp
  | x :: l, h => by
    have h1 := sum_le n l fun y hy => h y (List.mem_cons_of_mem _ hy)
    have h2 := h x List.mem_cons_self
    rw [List.sum_cons, List.length_cons, Nat.add_mul, Nat.one_mul]
    omega
theorem words_fit {ws : List (List Nat)} (h : ∀ z ∈ ws, z.length ≤ 1006) (few : ws.length ≤ 1002) : ((ws.map S).map (·.length)).sum + (ws.map S).length * (S [32]).length ≤ 16777216 := by
  have z := sum_le 1006 ((ws.map S).map (·.length)) fun x hx => by
    obtain ⟨y, hy, rfl⟩ := List.mem_map.mp hx
    obtain ⟨c, hc, rfl⟩ := List.mem_map.mp hy
    rw [len_S]
    exact h c hc
  rw [List.length_map, List.length_map] at z
  rw [len_S, List.length_map]
  have : ws.length * 1006 ≤ 1002 * 1006 := Nat.mul_le_mul_right _ few
  show _ + ws.length * 1 ≤ _
  omega
theorem space_S : (" " : Str) = S [32] := by decide +kernel
theorem all_S : ("all" : Str) = S allL := by decide +kernel
theorem same_S : ("same" : Str) = S sameL := by decide +kernel
def spWritten (C : Addr) (κ : Nat) : Sp := fun vs H Q _ => ∃ r st need ms, vs = [.ref r] ∧ RuleAt C H r κ st need ms ∧ Tiny ms ∧ tiny need ∧ st.length ≤ 1000 ∧ ∀ H', Same H H' → Q (.str (S (lineT κ st need ms))) H'
theorem headT_len {κ : Nat} {st : List Nat} {need : Int} (ls : st.length ≤ 1000) : ∀ z ∈ headT κ st need, z.length ≤ 1006 := by
  have a := numT_len need
  intro z m
  unfold headT at m
  split at m
  · rcases List.mem_cons.mp m with rfl | m
    · omega
    · rw [List.mem_singleton.mp m]
      show 3 ≤ 1006
      decide
  · split at m
    · rcases List.mem_cons.mp m with rfl | m
      · omega
      · rw [List.mem_singleton.mp m]
        omega
    · rcases List.mem_cons.mp m with rfl | m
      · show 4 ≤ 1006
        decide
      · rw [List.mem_singleton.mp m]
        omega
theorem headT_two (κ : Nat) (st : List Nat) (need : Int) : (headT κ st need).length = 2 := by
  unfold headT
  split
  · rfl
  · split <;> rfl
theorem wordsT_fit {κ : Nat} {st : List Nat} {need : Int} {ms : List Cnd} (t : Tiny ms) (ls : st.length ≤ 1000) : (∀ z ∈ wordsT κ st need ms, z.length ≤ 1006) ∧ (wordsT κ st need ms).length ≤ 1002 := by
  obtain ⟨few, each⟩ := t
  refine ⟨fun z m => ?_, ?_⟩
  · unfold wordsT at m
    rcases List.mem_append.mp m with m | m
    · exact headT_len ls z m
    · split at m
      · obtain ⟨c, _, rfl⟩ := List.mem_map.mp m
        have := pwT_len c.1
        omega
      · obtain ⟨c, hc, rfl⟩ := List.mem_map.mp m
        exact cwT_len c (each c hc).2.2
  · unfold wordsT
    rw [List.length_append, headT_two]
    split <;> rw [List.length_map] <;> omega
theorem join_line (κ : Nat) (st : List Nat) (need : Int) (ms : List Cnd) : Txt.join (" " : Str) ((wordsT κ st need ms).map S) = S (lineT κ st need ms) := by
  rw [space_S, join_S]
  rfl
def dN (c : Cnd) : PyData := .tuple [.int c.1.1, .int c.1.2, .str (S c.2)]
theorem strOk_S {z : List Nat} (h : ∀ c ∈ z, c < 256) : PyData.strOk (S z) = true := by
  show (S z).cps.all (· < 0x110000) = true
  rw [Array.all_eq_true]
  intro i hi
  have m := h _ (List.getElem_mem (l := z) (n := i) (by simpa using hi))
  exact decide_eq_true (Nat.lt_of_lt_of_le (by simpa using m) (by decide))
def Low3 (M : List Cnd) : Prop := ∀ c ∈ M, ∀ x ∈ c.2, x < 256
theorem dNs_lay : ∀ {M : List Cnd}, Low3 M → PyData.canLayAll0 (M.map dN) = true
  | [], _ => rfl
  | c :: M, h => by
    have e1 := dNs_lay (M := M) fun q m => h q (List.mem_cons_of_mem _ m)
    have e2 : PyData.strOk (S c.2) = true := strOk_S (h c List.mem_cons_self)
    simp [PyData.canLayAll0, dN, PyData.canLay0, e1, e2]
theorem dNs_depth : ∀ M : List Cnd, PyData.depthAll (M.map dN) ≤ 1
  | [] => by simp [PyData.depthAll]
  | c :: M => by
    have := dNs_depth M
    simp [PyData.depthAll, dN, PyData.depth]
    omega
theorem dNs_shaped {M : List Cnd} (h : Low3 M) : SeqAt.shaped (.list (M.map dN)) = true := by
  have := dNs_depth M
  simp [SeqAt.shaped, PyData.canLay0, dNs_lay h, PyData.depth]
  omega
theorem dp_cnds {K : PySem.W.Frag} {H : Hp} {p : Addr} {ks : List (Addr × Cnd)} (h : CndsAt H p ks) : Dp K H (.ref p) (.list ((ks.map (·.2)).map dN)) := by
  refine .lst (SqL.of h.lst) ?_
  have e := h.each
  clear h
  unfold refC
  induction ks with
  | nil => exact .nil
  | cons q ks ih => exact .cons (.tup (SqT.of (e q List.mem_cons_self)) (.cons (.int _) (.cons (.int _) (.cons (.str _) .nil)))) (ih fun q' m => e q' (List.mem_cons_of_mem _ m))
def Made (κ hue : Nat) (st : List Nat) (cs ms : List Cnd) : Prop := Ord ms ∧ ((κ ≠ 2 ∧ st = [hue] ∧ ms.Perm (cs.map ascC)) ∨ (κ = 2 ∧ st = [] ∧ ms.Perm (cs.map fun c => ascC (wideC c.1))))
theorem Made.len {κ hue : Nat} {st : List Nat} {cs ms : List Cnd} (h : Made κ hue st cs ms) : ms.length = cs.length := by
  rcases h.2 with ⟨_, _, p⟩ | ⟨_, _, p⟩ <;> rw [p.length_eq, List.length_map]
theorem Made.due {κ hue : Nat} {st : List Nat} {cs ms ms' : List Cnd} {z : List Nat} (h : Made κ hue st cs ms) (nd : (cs.map (·.1)).Nodup) (p : ms'.Perm cs) (o : Ord ms') : condsOf κ z ms = dueOf κ z ms' := by
  have nd' : (ms'.map (·.1)).Nodup := (p.map (·.1)).nodup_iff.mpr nd
  obtain ⟨om, h⟩ := h
  rcases h with ⟨k2, _, pm⟩ | ⟨k2, _, pm⟩
  · have e : dueOf κ z ms' = ms'.map ascC := List.map_congr_left fun c _ => by
      rw [if_neg k2]
      rfl
    unfold condsOf
    rw [e, if_neg k2]
    refine ord_uniq (pm.trans (p.map ascC).symm) ?_ om (ord_map _ (fun _ => rfl) o)
    rw [List.map_map]
    exact nd'
  · have e : dueOf κ z ms' = ms'.map fun c => (c.1, z) := List.map_congr_left fun c _ => by rw [if_pos k2]
    unfold condsOf
    rw [e, if_pos k2]
    have pm2 := pm.map fun c : Cnd => ((c.1, z) : Cnd)
    rw [List.map_map] at pm2
    refine ord_uniq (pm2.trans ((p.map fun c : Cnd => ((c.1, z) : Cnd)).symm)) ?_ (ord_map _ (fun _ => rfl) om) (ord_map _ (fun _ => rfl) o)
    rw [List.map_map]
    exact nd'
theorem Made.low {κ hue : Nat} {st : List Nat} {cs ms : List Cnd} {z : List Nat} (h : Made κ hue st cs ms) (g : ∀ c ∈ cs, ∀ x ∈ c.2, x < 256) (hz : ∀ c ∈ z, c < 256) : Low3 (condsOf κ z ms) := by
  intro c m x hx
  unfold condsOf at m
  rcases h.2 with ⟨k2, _, pm⟩ | ⟨k2, _, pm⟩
  · rw [if_neg k2] at m
    obtain ⟨d, hd, rfl⟩ := List.mem_map.mp (pm.mem_iff.mp m)
    exact g d hd x ((asc_perm d.2).mem_iff.mp hx)
  · rw [if_pos k2] at m
    obtain ⟨d, hd, rfl⟩ := List.mem_map.mp m
    exact hz x hx
theorem Made.lays {κ hue : Nat} {st : List Nat} {cs ms : List Cnd} (h : Made κ hue st cs ms) (hl : Let hue) (z : List Nat) : (stoneB z && (decide (κ = 2) || decide (z = [hue]))) = laysB κ st z := by
  unfold laysB
  rcases h.2 with ⟨k2, e, _⟩ | ⟨k2, e, _⟩
  · rw [if_neg k2, decide_eq_false k2, Bool.false_or, e]
    by_cases y : z = [hue]
    · rw [y]
      show (decide (Let hue) && _) = _
      rw [decide_eq_true hl]
      simp
    · rw [decide_eq_false y, Bool.and_false]
  · rw [if_pos k2, decide_eq_true k2, Bool.true_or, Bool.and_true]
theorem GoodR.low {κ hue : Nat} {cs : List Cnd} {need : Int} (h : GoodR κ hue cs need) : ∀ c ∈ cs, ∀ x ∈ c.2, x < 256 := fun c m x hx => by
  rcases (h.each c m).2.all x hx with e | e
  · omega
  · unfold Let at e
    omega
theorem same_updO {H H2 : Hp} {p : Addr} {o : HO} (s : Same H H2) (np : H p = none) : Same H (upd H2 p o) := fun a x e => by
  have ne : a ≠ p := by
    rintro rfl
    rw [np] at e
    cases e
  rw [upd_ne ne]
  exact s a x e
def dW (z : List Nat) : PyData := .tuple [.str "wrong", .str (S z), .bool true]
theorem eqD {d : PyData} (h : SeqAt.shaped d = true) : (!PyData.eqv d d) = false := by
  rw [SeqAt.eqv_refl d (SeqAt.canLay_of_shaped h)]
  rfl
theorem dW_shaped {z : List Nat} (h : ∀ c ∈ z, c < 256) : SeqAt.shaped (dW z) = true := by
  have e : PyData.strOk (S z) = true := strOk_S h
  have e2 : PyData.strOk ("wrong" : Str) = true := by decide +kernel
  simp [SeqAt.shaped, dW, PyData.canLayAll0, PyData.canLay0, PyData.depth, PyData.depthAll, e, e2]
theorem dpW {K : PySem.W.Frag} {H : Hp} {z : List Nat} : DpAll K H [.str "wrong", .str (S z), .bl true] [.str "wrong", .str (S z), .bool true] := .cons (.str _) (.cons (.str _) (.cons (.bl _) .nil))
theorem few_conds {κ : Nat} {z : List Nat} {ms : List Cnd} (h : ms.length ≤ 1000) : (condsOf κ z ms).length ≤ 1000 := by
  unfold condsOf
  by_cases k : κ = 2
  · rw [if_pos k, List.length_map]
    exact h
  · rw [if_neg k]
    exact h
theorem fst_good : ∀ {cs : List Cnd} {i : Nat} {seen : List (Int × Int)}, (cs.map (·.1)).Nodup → (∀ c ∈ cs, c.1 ∉ seen) → (∀ c ∈ cs, placeB c.1 = true ∧ diffB 35 c.2 = true) → i + cs.length ≤ 9 → fstBad i seen cs = none
  | [], _, _, _, _, _, _ => rfl
  | c :: r, i, seen, nd, ns, ok, few => by
    rw [fst_step]
    have h1 : badAt i seen c = false := by
      unfold badAt
      obtain ⟨a, b⟩ := ok c List.mem_cons_self
      rw [a, b, decide_eq_false (ns c List.mem_cons_self), decide_eq_false (by rw [List.length_cons] at few; omega)]
      rfl
    rw [h1]
    rw [List.map_cons, List.nodup_cons] at nd
    refine fst_good nd.2 (fun d m => ?_) (fun d m => ok d (List.mem_cons_of_mem _ m)) (by rw [List.length_cons] at few; omega)
    intro m2
    rcases List.mem_cons.mp m2 with e | e
    · exact nd.1 (e ▸ List.mem_map.mpr ⟨d, m, rfl⟩)
    · exact ns d (List.mem_cons_of_mem _ m) e
theorem stone_good {hue : Nat} (h : Let hue) : stoneB [hue] = true := by
  show decide (Let hue) = true
  exact decide_eq_true h
theorem GoodR.fst {κ hue : Nat} {cs : List Cnd} {need : Int} (h : GoodR κ hue cs need) : fstBad 1 [] cs = none := fst_good h.nd (fun _ _ m => nomatch m) (fun c m => ⟨(h.each c m).1, ((h.each c m).2).diff⟩) (by have := h.few; omega)
theorem GoodR.faultR {κ hue : Nat} {cs : List Cnd} {need : Int} (h : GoodR κ hue cs need) : faultR [hue] cs = none := by
  unfold Pm.faultR
  rw [stone_good h.hue, h.fst]
  rfl
theorem GoodR.faultC {κ hue : Nat} {cs : List Cnd} {need : Int} (h : GoodR κ hue cs need) : faultC [hue] cs need = none := by
  unfold Pm.faultC
  rw [h.faultR]
  exact if_pos ⟨h.n0, h.n1⟩
theorem GoodR.faultS {κ hue : Nat} {cs : List Cnd} {need : Int} (h : GoodR κ hue cs need) : faultS (cs.map fun c => wideC c.1) need = none := by
  unfold Pm.faultS
  have e : fstBad 1 [] (cs.map fun c => wideC c.1) = none := by
    refine fst_good ?_ (fun _ _ m => nomatch m) (fun c m => ?_) (by have := h.few; rw [List.length_map]; omega)
    · rw [List.map_map]
      exact h.nd
    · obtain ⟨d, hd, rfl⟩ := List.mem_map.mp m
      exact ⟨(h.each d hd).1, by show diffB 35 alphaL = true; decide +kernel⟩
  rw [e, List.length_map]
  exact if_pos ⟨h.n0, h.n1⟩
theorem pairMore {ks : List (Addr × Cnd)} {G G3 H0 : Hp} {D T tt : Addr} {c : Cnd} {i : Nat} {ns : List (Addr × (Int × Int))} (lm : ks.length ≤ 1000) (nD : H0 D = none) (sm : Same H0 G) (hD : G D = some (.lst (ns.map fun q => V.ref q.1))) (hns : ∀ q ∈ ns, G q.1 = some (PairO q.2))
    (en : ns.map (·.2) = (ks.take i).map fun q => q.2.1) (hi : ks[i]? = some (tt, c)) (s3 : Same G G3) (nT : G3 T = none) :
    (ns.map fun q => V.ref q.1).length < sizeLine ∧ ∃ ns' : List (Addr × (Int × Int)), Same H0 (upd (upd G3 T (PairO c.1)) D (.lst ((ns.map fun q => V.ref q.1) ++ [.ref T]))) ∧
      upd (upd G3 T (PairO c.1)) D (.lst ((ns.map fun q => V.ref q.1) ++ [.ref T])) D = some (.lst (ns'.map fun q => V.ref q.1)) ∧ (∀ q ∈ ns', upd (upd G3 T (PairO c.1)) D (.lst ((ns.map fun q => V.ref q.1) ++ [.ref T])) q.1 = some (PairO q.2)) ∧ ns'.map (·.2) = (ks.take (i + 1)).map fun q => q.2.1 := by
  have s4 := s3.trans (same_upd (o := PairO c.1) nT)
  have nDT : D ≠ T := ne_of_none (s3 _ _ hD) nT
  have li : i < ks.length := (List.getElem?_eq_some_iff.mp hi).1
  refine ⟨?_, ns ++ [(T, c.1)], fun b o e => ?_, ?_, fun q hq => ?_, ?_⟩
  · have e1 := congrArg List.length en
    rw [List.length_map, List.length_map, List.length_take] at e1
    rw [show (ns.map fun q => V.ref q.1).length = ns.length from List.length_map _]
    exact small1000 (by omega)
  · rw [upd_ne (ne_of_none e nD)]
    exact s4 _ _ (sm _ _ e)
  · rw [upd_same, List.map_append]
    rfl
  · rcases List.mem_append.mp hq with z | z
    · have y := s4 _ _ (hns q z)
      rw [upd_ne (fun e => ?_)]
      · exact y
      · rw [e, s4 _ _ hD] at y
        cases y
    · rw [List.mem_singleton.mp z]
      rw [upd_ne nDT.symm, upd_same]
  · rw [List.map_append, en, List.take_add_one, hi, List.map_append]
    rfl
theorem made_same {C : Addr} {H : Hp} {x dx : Addr} (nx : H x = none) (nd : H dx = none) : Same H (upd (upd H dx (.own x)) x (.ins C dx [])) := fun b o e => by
  rw [upd_ne (ne_of_none e nx), upd_ne (ne_of_none e nd)]
  exact e
theorem made_but {C : Addr} {H H' : Hp} {x dx : Addr} (nx : H x = none) (nd : H dx = none) (s : SameBut x (upd (upd H dx (.own x)) x (.ins C dx [])) H') : Same H H' := fun b o e => by
  have ne : b ≠ x := ne_of_none e nx
  exact s b o ne (made_same nx nd _ _ e)
def clsOf (CR CC CS : Addr) (κ : Nat) : Addr := if κ = 0 then CR else if κ = 1 then CC else CS
theorem low2 {a b : V} : ∀ m ∈ lows, List.lookup m [(("stone" : Str), a), ("_conditions", b)] = none := by
  intro m hm
  simp only [lows, List.mem_cons, List.not_mem_nil, or_false] at hm
  rcases hm with rfl | rfl | rfl | rfl | rfl | rfl | rfl | rfl <;> rfl
theorem low3 {a b c : V} : ∀ m ∈ lows, List.lookup m [(("stone" : Str), a), ("_conditions", b), ("need", c)] = none := by
  intro m hm
  simp only [lows, List.mem_cons, List.not_mem_nil, or_false] at hm
  rcases hm with rfl | rfl | rfl | rfl | rfl | rfl | rfl | rfl <;> rfl
theorem low3s {a b c : V} : ∀ m ∈ lows, List.lookup m [(("stone" : Str), a), ("need", b), ("_conditions", c)] = none := by
  intro m hm
  simp only [lows, List.mem_cons, List.not_mem_nil, or_false] at hm
  rcases hm with rfl | rfl | rfl | rfl | rfl | rfl | rfl | rfl <;> rfl
def fvD (κ : Nat) (st : List Nat) (need : Int) (l : Addr) : List (Str × V) := if κ = 0 then [("stone", .str (S st)), ("_conditions", .ref l)] else if κ = 1 then [("stone", .str (S st)), ("_conditions", .ref l), ("need", .int need)] else [("stone", .str (S st)), ("need", .int need), ("_conditions", .ref l)]
def RuleE (C : Addr) (H : Hp) (r : Addr) (κ : Nat) (st : List Nat) (need : Int) (ms : List Cnd) : Prop := ∃ dx l ks, H r = some (.ins C dx (fvD κ st need l)) ∧ CndsAt H l ks ∧ ks.map (·.2) = ms
theorem RuleE.same {C : Addr} {H H' : Hp} {r : Addr} {κ : Nat} {st : List Nat} {need : Int} {ms : List Cnd} (h : RuleE C H r κ st need ms) (s : Same H H') : RuleE C H' r κ st need ms := by
  obtain ⟨dx, l, ks, a, b, c⟩ := h
  exact ⟨dx, l, ks, s _ _ a, b.same s, c⟩
theorem lowsV {κ : Nat} {st : List Nat} {need : Int} {l : Addr} : ∀ m ∈ lows, (fvD κ st need l).lookup m = none := by
  unfold fvD
  by_cases h0 : κ = 0
  · rw [if_pos h0]
    exact low2
  · rw [if_neg h0]
    by_cases h1 : κ = 1
    · rw [if_pos h1]
      exact low3
    · rw [if_neg h1]
      exact low3s
theorem RuleE.at {C : Addr} {H : Hp} {r : Addr} {κ : Nat} {st : List Nat} {need : Int} {ms : List Cnd} (h : RuleE C H r κ st need ms) : RuleAt C H r κ st need ms := by
  obtain ⟨dx, l, ks, a, b, c⟩ := h
  refine ⟨dx, _, l, ks, a, ?_, ?_, ?_, lowsV, b, c⟩
  · unfold fvD
    split
    · rfl
    · split <;> rfl
  · unfold fvD
    split
    · rfl
    · split <;> rfl
  · intro k0
    unfold fvD
    rw [if_neg k0]
    split <;> rfl
theorem tOrW {t u : TT} {σ : L2.St} {G : Hp} {Q : Bool → Hp → Prop} {b c : Bool} (ht : ∀ Q' : Bool → Hp → Prop, Q' b G → t σ G Q') (hu : ∀ Q' : Bool → Hp → Prop, Q' c G → u σ G Q') (h : Q (b || c) G) : tOr t u σ G Q := by
  refine ht _ ?_
  cases b
  · exact iteF (hu _ h)
  · exact iteT h
theorem tNotW {t : TT} {σ : L2.St} {G : Hp} {Q : Bool → Hp → Prop} {b : Bool} (ht : ∀ Q' : Bool → Hp → Prop, Q' b G → t σ G Q') (h : Q (!b) G) : tNot t σ G Q := ht _ h
theorem num_dig : ∀ n, n < 10 → numB [48 + n] = true := by decide +kernel
theorem num_neg : ∀ n, n < 10 → 1 ≤ n → numB [45, 48 + n] = true := by decide +kernel
theorem numT_ok {i : Int} (h : tiny i) : numB (numT i) = true ∧ numV (numT i) = i ∧ ∀ c ∈ numT i, c = 45 ∨ Dig c := by
  obtain ⟨h1, h2⟩ := h
  unfold numT
  by_cases n : i < 0
  · rw [if_pos n]
    refine ⟨num_neg _ (by omega) (by omega), by show 48 - (((48 + i.natAbs : Nat) : Int)) = i; omega, fun c m => ?_⟩
    rcases List.mem_cons.mp m with e | m
    · exact .inl e
    · rw [List.mem_singleton.mp m]
      right
      unfold Dig
      omega
  · rw [if_neg n]
    refine ⟨num_dig _ (by omega), by show ((48 + i.natAbs : Nat) : Int) - 48 = i; omega, fun c m => ?_⟩
    rw [List.mem_singleton.mp m]
    right
    unfold Dig
    omega
theorem numT_no {i : Int} (h : tiny i) {c : Nat} (n45 : c ≠ 45) (nd : ¬ Dig c) : c ∉ numT i := fun m => by
  rcases (numT_ok h).2.2 c m with e | e
  · exact n45 e
  · exact nd e
theorem pwT_is (p : Int × Int) : pwT p = numT p.1 ++ (44 :: numT p.2) := by
  unfold pwT
  simp
theorem cwT_is (c : Cnd) : cwT c = pwT c.1 ++ (58 :: c.2) := by
  unfold cwT
  simp
theorem pwT_no {p : Int × Int} (h1 : tiny p.1) (h2 : tiny p.2) {c : Nat} (n45 : c ≠ 45) (nd : ¬ Dig c) (n44 : c ≠ 44) : c ∉ pwT p := fun m => by
  rw [pwT_is] at m
  rcases List.mem_append.mp m with m | m
  · exact numT_no h1 n45 nd m
  · rcases List.mem_cons.mp m with e | m
    · exact n44 e
    · exact numT_no h2 n45 nd m
theorem readP_pw {p : Int × Int} (h1 : tiny p.1) (h2 : tiny p.2) : readP (pwT p) = some p := by
  obtain ⟨a1, a2, _⟩ := numT_ok h1
  obtain ⟨b1, b2, _⟩ := numT_ok h2
  obtain ⟨e1, e2⟩ := cut_app (c := 44) (numT p.2) (numT_no h1 (c := 44) (by decide) (by decide))
  unfold readP
  rw [pwT_is, e1, e2, if_pos ⟨a1, b1⟩, a2, b2]
theorem readC_cw {c : Cnd} (h1 : tiny c.1.1) (h2 : tiny c.1.2) (ne : c.2 ≠ []) : readC (cwT c) = some c := by
  obtain ⟨e1, e2⟩ := cut_app (c := 58) c.2 (pwT_no h1 h2 (c := 58) (by decide) (by decide) (by decide))
  unfold readC
  rw [cwT_is, e1, e2, if_neg ne, readP_pw h1 h2]
  rfl
theorem place_tiny {p : Int × Int} (h : placeB p = true) : tiny p.1 ∧ tiny p.2 := by
  unfold placeB at h
  simp only [Bool.and_eq_true, decide_eq_true_eq] at h
  obtain ⟨⟨a, b⟩, ⟨c, d⟩, _⟩ := h
  exact ⟨⟨by omega, by omega⟩, ⟨by omega, by omega⟩⟩
theorem GoodR.tiny {κ hue : Nat} {cs : List Cnd} {need : Int} (h : GoodR κ hue cs need) : Tiny cs ∧ Pm.tiny need := by
  have few := h.few
  have a := h.n0
  have b := h.n1
  refine ⟨⟨by omega, fun c m => ?_⟩, ⟨by omega, by omega⟩⟩
  obtain ⟨p, s⟩ := h.each c m
  have := s.few
  exact ⟨(place_tiny p).1, (place_tiny p).2, by omega⟩
theorem GoodR.each_tiny {κ hue : Nat} {cs : List Cnd} {need : Int} (h : GoodR κ hue cs need) {c : Cnd} (m : c ∈ cs) : Pm.tiny c.1.1 ∧ Pm.tiny c.1.2 ∧ c.2 ≠ [] ∧ c.2.length ≤ 27 := by
  obtain ⟨p, s⟩ := h.each c m
  exact ⟨(place_tiny p).1, (place_tiny p).2, s.ne, s.few⟩
def h1T (κ hue : Nat) : List Nat := if κ = 2 then sameL else [hue]
def h2T (κ : Nat) (need : Int) : List Nat := if κ = 0 then allL else numT need
def tailT (κ : Nat) (cs : List Cnd) : List (List Nat) := if κ = 2 then cs.map (fun c => pwT c.1) else cs.map cwT
theorem words_is {κ hue : Nat} {cs : List Cnd} {need : Int} (k3 : κ < 3) : wordsT κ [hue] need cs = h1T κ hue :: h2T κ need :: tailT κ cs := by
  match κ, k3 with
  | 0, _ => rfl
  | 1, _ => rfl
  | 2, _ => rfl
theorem words_no {κ hue : Nat} {cs : List Cnd} {need : Int} (h : GoodR κ hue cs need) : ∀ z ∈ wordsT κ [hue] need cs, 32 ∉ z := by
  obtain ⟨_, tn⟩ := h.tiny
  intro z m
  rw [words_is h.k3] at m
  rcases List.mem_cons.mp m with rfl | m
  · unfold h1T
    split
    · decide
    · intro y
      have e := List.mem_singleton.mp y
      have := h.hue
      rw [← e] at this
      unfold Let at this
      omega
  · rcases List.mem_cons.mp m with rfl | m
    · unfold h2T
      split
      · decide
      · exact numT_no tn (by decide) (by decide)
    · unfold tailT at m
      split at m
      · obtain ⟨c, hc, rfl⟩ := List.mem_map.mp m
        obtain ⟨a, b, _⟩ := h.each_tiny hc
        exact pwT_no a b (by decide) (by decide) (by decide)
      · obtain ⟨c, hc, rfl⟩ := List.mem_map.mp m
        obtain ⟨a, b, _⟩ := h.each_tiny hc
        rw [cwT_is]
        intro y
        rcases List.mem_append.mp y with y | y
        · exact pwT_no a b (by decide) (by decide) (by decide) y
        · rcases List.mem_cons.mp y with e | y
          · cases e
          · rcases (h.each c hc).2.all 32 y with e | e
            · cases e
            · unfold Let at e
              omega
theorem words_ne {κ hue : Nat} {cs : List Cnd} {need : Int} (k3 : κ < 3) : wordsT κ [hue] need cs ≠ [] := by
  rw [words_is k3]
  exact List.cons_ne_nil _ _
theorem split_line {κ hue : Nat} {cs : List Cnd} {need : Int} (h : GoodR κ hue cs need) : Txt.split (S (lineT κ [hue] need cs)) (S [32]) = (wordsT κ [hue] need cs).map S := by
  rw [split_S (by decide) (by decide)]
  unfold lineT
  rw [spl_join (words_ne h.k3) (words_no h)]
theorem joinL_len : ∀ ws : List (List Nat), (TL.joinL [32] ws).length ≤ (ws.map (·.length)).sum + ws.length
  | [] => Nat.le_refl _
  | [p] => by
    show p.length ≤ _
    rw [List.map_cons, List.sum_cons]
    omega
  | p :: q :: r => by
    have ih := joinL_len (q :: r)
    show (p ++ ([32] ++ TL.joinL [32] (q :: r))).length ≤ _
    rw [List.length_append, List.length_append]
    have e1 : ((p :: q :: r).map (·.length)).sum = p.length + ((q :: r).map (·.length)).sum := by rw [List.map_cons, List.sum_cons]
    have e2 : (p :: q :: r).length = (q :: r).length + 1 := rfl
    rw [e1, e2]
    show p.length + (1 + _) ≤ _
    omega
theorem line_len {κ hue : Nat} {cs : List Cnd} {need : Int} (h : GoodR κ hue cs need) : (lineT κ [hue] need cs).length ≤ 20000 := by
  have a := joinL_len (wordsT κ [hue] need cs)
  have fit := wordsT_fit (κ := κ) (st := [hue]) (need := need) h.tiny.1 (by show 1 ≤ 1000; decide)
  have z := sum_le 1006 ((wordsT κ [hue] need cs).map (·.length)) fun x hx => by
    obtain ⟨y, hy, rfl⟩ := List.mem_map.mp hx
    exact fit.1 y hy
  have ln : (wordsT κ [hue] need cs).length ≤ 10 := by
    have := h.few
    rw [words_is h.k3]
    unfold tailT
    split <;> simp <;> omega
  rw [List.length_map] at z
  have : (wordsT κ [hue] need cs).length * 1006 ≤ 10 * 1006 := Nat.mul_le_mul_right _ ln
  unfold lineT
  omega
theorem h1_same {κ hue : Nat} : decide (V.str (S (h1T κ hue)) = V.str ("same" : Str)) = decide (κ = 2) := by
  rw [same_S]
  refine decide_eq_decide.mpr ⟨fun e => ?_, fun e => by rw [h1T, if_pos e]⟩
  have e := S_inj (V.str.inj e)
  unfold h1T at e
  split at e
  · assumption
  · cases e
theorem h1_stone {κ hue : Nat} (h : Let hue) (k2 : κ ≠ 2) : stoneB (h1T κ hue) = true := by
  unfold h1T
  rw [if_neg k2]
  exact stone_good h
theorem h2_all {κ : Nat} {need : Int} : decide (V.str (S (h2T κ need)) = V.str ("all" : Str)) = decide (κ = 0) := by
  rw [all_S]
  refine decide_eq_decide.mpr ⟨fun e => ?_, fun e => by rw [h2T, if_pos e]⟩
  have e := S_inj (V.str.inj e)
  unfold h2T at e
  split at e
  · assumption
  · have := numT_len need
    rw [e] at this
    exact absurd this (by decide)
theorem h2_dig {κ : Nat} {need : Int} (n0 : 0 ≤ need) (n8 : need ≤ 8) : digB (h2T κ need) = decide (κ ≠ 0) := by
  unfold h2T
  by_cases k0 : κ = 0
  · rw [if_pos k0, decide_eq_false (by simp [k0])]
    rfl
  · rw [if_neg k0, decide_eq_true k0]
    unfold numT
    rw [if_neg (by omega)]
    refine decide_eq_true ?_
    unfold Dig
    omega
theorem h2_int {κ : Nat} {need : Int} (t : tiny need) (k0 : κ ≠ 0) : intText? (S (h2T κ need)) = some need ∧ (S (h2T κ need)).length ≤ 640 := by
  obtain ⟨a, b, _⟩ := numT_ok t
  obtain ⟨c, d⟩ := int_num a
  unfold h2T
  rw [if_neg k0, c, b, len_S]
  exact ⟨rfl, by omega⟩
theorem txtV_at {α : Type} {f : α → List Nat} {cs : List α} {i : Nat} {x : V} (h : (txtV (cs.map f))[i]? = some x) : ∃ c, cs[i]? = some c ∧ x = .str (S (f c)) := by
  unfold txtV at h
  rw [List.getElem?_map, List.getElem?_map, List.getElem?_map] at h
  cases e : cs[i]? with
  | none =>
    rw [e] at h
    cases h
  | some c =>
    rw [e] at h
    cases h
    exact ⟨c, rfl, rfl⟩
def YEnS (xs : List V) : Nat → Hp → V → Hp → Prop := fun i H v H' => ∃ T x, v = .ref T ∧ H T = none ∧ H' = upd H T (.tup [.int ((i : Int) + 1), x]) ∧ xs[i]? = some x
theorem walk_enS {K : PySem.W.Frag} {a : Addr} {xs : List V} : Walk (ItS K a) xs.length (fun H => SqL K H a xs) (YEnS xs) :=
  ⟨fun i H hi q => ⟨xs, xs[i], q, by simp [hi]⟩, fun H q => ⟨xs, q, rfl⟩, fun i H v H' hi q ⟨T, x, e1, n, e2, k⟩ => ⟨T, x, e1, n, e2, k xs q⟩⟩
theorem listMore {α : Type} {G H0 : Hp} {D t : Addr} {ns : List (Addr × α)} {O : α → HO} {x : α} (nD : H0 D = none) (sm : Same H0 G) (hD : G D = some (.lst (ns.map fun q => V.ref q.1))) (hns : ∀ q ∈ ns, G q.1 = some (O q.2)) (ht : G t = some (O x)) (nl : ∀ a ys, O a ≠ .lst ys) :
    Same H0 (upd G D (.lst ((ns.map fun q => V.ref q.1) ++ [.ref t]))) ∧ upd G D (.lst ((ns.map fun q => V.ref q.1) ++ [.ref t])) D = some (.lst ((ns ++ [(t, x)]).map fun q => V.ref q.1)) ∧ ∀ q ∈ ns ++ [(t, x)], upd G D (.lst ((ns.map fun q => V.ref q.1) ++ [.ref t])) q.1 = some (O q.2) := by
  refine ⟨fun b o e => ?_, ?_, fun q m => ?_⟩
  · rw [upd_ne (ne_of_none e nD)]
    exact sm _ _ e
  · rw [upd_same, List.map_append]
    rfl
  · have k : ∀ {a : Addr} {y : α}, G a = some (O y) → a ≠ D := fun h e => by
      rw [e, hD] at h
      exact nl _ _ (Option.some.inj h).symm
    rcases List.mem_append.mp m with m | m
    · rw [upd_ne (k (hns q m))]
      exact hns q m
    · rw [List.mem_singleton.mp m, upd_ne (k ht)]
      exact ht
def kindL (κ : Nat) : List Nat := if κ = 0 then [97, 108, 108] else if κ = 1 then [99, 111, 117, 110, 116] else [115, 97, 109, 101]
theorem kindL_S (κ : Nat) : kindT κ = S (kindL κ) := by
  unfold kindT kindL
  by_cases h0 : κ = 0
  · rw [if_pos h0, if_pos h0]
    decide +kernel
  · rw [if_neg h0, if_neg h0]
    by_cases h1 : κ = 1
    · rw [if_pos h1, if_pos h1]
      decide +kernel
    · rw [if_neg h1, if_neg h1]
      decide +kernel
theorem kindL_same {κ : Nat} (h : κ < 3) : decide (kindL κ = [115, 97, 109, 101]) = decide (κ = 2) := by
  match κ, h with
  | 0, _ => rfl
  | 1, _ => rfl
  | 2, _ => rfl
theorem kindL_all {κ : Nat} (h : κ < 3) : decide (kindL κ = [97, 108, 108]) = decide (κ = 0) := by
  match κ, h with
  | 0, _ => rfl
  | 1, _ => rfl
  | 2, _ => rfl
abbrev ruleD (κ hue : Nat) (cs : List Cnd) (need : Int) : D := .tup [.tx (kindL κ), .tx [hue], .lst (cs.map tripD), .int need]
def flC (c : Cnd) : Cnd := (fl c.1, c.2)
def ordC (cs : List Cnd) : List Cnd := (tsort (cs.map flC)).map flC
theorem flC_flC (c : Cnd) : flC (flC c) = c := rfl
theorem ordC_perm (cs : List Cnd) : (ordC cs).Perm cs := by
  have h := (tsort_perm (cs.map flC)).map flC
  rw [List.map_map] at h
  have e : cs.map (flC ∘ flC) = cs := (List.map_congr_left fun c _ => rfl).trans (List.map_id cs)
  rw [e] at h
  exact h
theorem ordC_ord (cs : List Cnd) : Ord (ordC cs) := List.pairwise_map.mpr ((tsort_ord (cs.map flC)).imp fun {a b} h => h)
/-- drawn rules, as far as the law's own defs ask -/
structure RuleOk (κ hue : Nat) (cs : List Cnd) (need : Int) : Prop where
  k3 : κ < 3
  nd : (cs.map (·.1)).Nodup
  few : cs.length ≤ 8
  each : ∀ c ∈ cs, tiny c.1.1 ∧ tiny c.1.2 ∧ c.2.length ≤ 27
  need : tiny need
theorem GoodR.ok {κ hue : Nat} {cs : List Cnd} {need : Int} (h : GoodR κ hue cs need) : RuleOk κ hue cs need :=
  ⟨h.k3, h.nd, h.few, fun c m => ⟨(h.each_tiny m).1, (h.each_tiny m).2.1, (h.each_tiny m).2.2.2⟩, h.tiny.2⟩
def gSorted (ds : List D) (d : D) : Prop := ∃ κ hue cs need, RuleOk κ hue cs need ∧ ds = [ruleD κ hue cs need] ∧ d = .lst ((ordC cs).map tripD)
theorem RuleOk.ord {κ hue : Nat} {cs : List Cnd} {need : Int} (h : RuleOk κ hue cs need) : (ordC cs).length ≤ 8 ∧ ∀ c ∈ ordC cs, tiny c.1.1 ∧ tiny c.1.2 ∧ c.2.length ≤ 27 :=
  ⟨by rw [(ordC_perm cs).length_eq]; exact h.few, fun c m => h.each c ((ordC_perm cs).mem_iff.mp m)⟩
def gDue (ds : List D) (d : D) : Prop := ∃ κ hue cs need z, RuleOk κ hue cs need ∧ ds = [ruleD κ hue cs need, .tx z] ∧ d = .lst ((dueOf κ z (ordC cs)).map tripD)
def wordW (κ : Nat) (c : Cnd) : List Nat := pwT c.1 ++ (bif decide (kindL κ = [115, 97, 109, 101]) then [] else [58] ++ asc c.2)
def headW (κ hue : Nat) (need : Int) : List (List Nat) := bif decide (kindL κ = [115, 97, 109, 101]) then [[115, 97, 109, 101], numT need] else bif decide (kindL κ = [97, 108, 108]) then [[hue], [97, 108, 108]] else [[hue], numT need]
def writT (κ hue : Nat) (cs : List Cnd) (need : Int) : List Nat := TL.joinL [32] (headW κ hue need ++ (ordC cs).map (wordW κ))
def gWritten (ds : List D) (d : D) : Prop := ∃ κ hue cs need, RuleOk κ hue cs need ∧ ds = [ruleD κ hue cs need] ∧ d = .tx (writT κ hue cs need)
theorem headW_len (κ hue : Nat) (need : Int) : (headW κ hue need).length = 2 := by
  unfold headW
  cases decide (kindL κ = [115, 97, 109, 101]) <;> cases decide (kindL κ = [97, 108, 108]) <;> rfl
theorem headW_each {κ hue : Nat} {need : Int} : ∀ z ∈ headW κ hue need, z.length ≤ 50 := by
  intro z m
  have h := numT_len need
  unfold headW at m
  generalize decide (kindL κ = [115, 97, 109, 101]) = b1 at m
  generalize decide (kindL κ = [97, 108, 108]) = b2 at m
  cases b1 <;> cases b2 <;>
  · rcases List.mem_cons.mp m with rfl | m
    · simp
    · rw [List.mem_singleton.mp m]
      simp
      try omega
theorem tailW {κ : Nat} {c : Cnd} (h : c.2.length ≤ 27) : (bif decide (kindL κ = [115, 97, 109, 101]) then [] else [58] ++ asc c.2).length ≤ 28 := by
  have b := (asc_perm c.2).length_eq
  cases decide (kindL κ = [115, 97, 109, 101])
  · show ([58] ++ asc c.2).length ≤ 28
    rw [List.length_append]
    show 1 + _ ≤ 28
    omega
  · show 0 ≤ 28
    omega
theorem wordW_len {κ : Nat} {c : Cnd} (h : c.2.length ≤ 27) : (wordW κ c).length ≤ 50 := by
  have a := pwT_len c.1
  have b := (asc_perm c.2).length_eq
  unfold wordW
  rw [List.length_append]
  cases decide (kindL κ = [115, 97, 109, 101])
  · show _ + ([58] ++ asc c.2).length ≤ 50
    rw [List.length_append]
    show _ + (1 + _) ≤ 50
    omega
  · show _ + 0 ≤ 50
    omega
def fsD (κ : Nat) (st : List Nat) (need : Int) (ms : List Cnd) : List (Str × D) := if κ = 0 then [("stone", .tx st), ("_conditions", .lst (ms.map tripD))] else if κ = 1 then [("stone", .tx st), ("_conditions", .lst (ms.map tripD)), ("need", .int need)] else [("stone", .tx st), ("need", .int need), ("_conditions", .lst (ms.map tripD))]
abbrev objD (C : Addr) (κ : Nat) (st : List Nat) (need : Int) (ms : List Cnd) : D := .obj C (fsD κ st need ms)
theorem reps_cnds {K : PySem.W.Frag} {F : Hp} : ∀ {ms : List Cnd} {vs : List V}, Reps K F vs (ms.map tripD) → ∃ ks : List (Addr × Cnd), vs = refC ks ∧ (∀ q ∈ ks, F q.1 = some (CondO q.2)) ∧ ks.map (·.2) = ms
  | [], _, .nil => ⟨[], rfl, (fun _ h => nomatch h), rfl⟩
  | c :: cs, _, .cons h r => by
    obtain ⟨L, e1, e2, e3⟩ := reps_cnds r
    cases h with
    | @tup a us _ h q =>
      have eu : us = [.int c.1.1, .int c.1.2, .str (S c.2)] := by
        cases q with
        | cons h1 q =>
          cases q with
          | cons h2 q =>
            cases q with
            | cons h3 q => cases q; cases h1; cases h2; cases h3; rfl
      subst eu
      refine ⟨(a, c) :: L, by rw [e1]; rfl, fun p m => ?_, by rw [List.map_cons, e3]⟩
      rcases List.mem_cons.mp m with e | m
      · rw [e]
        exact h
      · exact e2 p m
theorem cnds_reps {K : PySem.W.Frag} {F : Hp} : ∀ {ks : List (Addr × Cnd)}, (∀ q ∈ ks, F q.1 = some (CondO q.2)) → Reps K F (refC ks) ((ks.map (·.2)).map tripD)
  | [], _ => .nil
  | q :: ks, h => .cons (.tup (h q List.mem_cons_self) (.cons (.int _) (.cons (.int _) (.cons (.str _) .nil)))) (cnds_reps fun p m => h p (List.mem_cons_of_mem _ m))
theorem lst_cnds {K : PySem.W.Frag} {F : Hp} {v : V} {ms : List Cnd} (h : Rep K F v (.lst (ms.map tripD))) : ∃ l ks, v = .ref l ∧ CndsAt F l ks ∧ ks.map (·.2) = ms := by
  cases h with
  | lst h r =>
    obtain ⟨ks, rfl, e2, e3⟩ := reps_cnds r
    exact ⟨_, ks, rfl, ⟨h, e2⟩, e3⟩
theorem RuleE.of {K : PySem.W.Frag} {F : Hp} {C : Addr} {v : V} {κ : Nat} {st : List Nat} {need : Int} {ms : List Cnd} (h : Rep K F v (objD C κ st need ms)) : ∃ r, v = .ref r ∧ RuleE C F r κ st need ms := by
  cases h with
  | @obj a _ dx fv _ h r =>
    refine ⟨a, rfl, ?_⟩
    unfold fsD at r
    by_cases h0 : κ = 0
    · rw [if_pos h0] at r
      cases r with
      | cons r1 r =>
        cases r with
        | cons r2 r =>
          cases r
          cases r1
          obtain ⟨l, ks, rfl, hc, e⟩ := lst_cnds r2
          exact ⟨dx, l, ks, by unfold fvD; rw [if_pos h0]; exact h, hc, e⟩
    · rw [if_neg h0] at r
      by_cases h1 : κ = 1
      · rw [if_pos h1] at r
        cases r with
        | cons r1 r =>
          cases r with
          | cons r2 r =>
            cases r with
            | cons r3 r =>
              cases r
              cases r1
              cases r3
              obtain ⟨l, ks, rfl, hc, e⟩ := lst_cnds r2
              exact ⟨dx, l, ks, by unfold fvD; rw [if_neg h0, if_pos h1]; exact h, hc, e⟩
      · rw [if_neg h1] at r
        cases r with
        | cons r1 r =>
          cases r with
          | cons r3 r =>
            cases r with
            | cons r2 r =>
              cases r
              cases r1
              cases r3
              obtain ⟨l, ks, rfl, hc, e⟩ := lst_cnds r2
              exact ⟨dx, l, ks, by unfold fvD; rw [if_neg h0, if_neg h1]; exact h, hc, e⟩
theorem RuleE.rep {K : PySem.W.Frag} {F : Hp} {C r : Addr} {κ : Nat} {st : List Nat} {need : Int} {ms : List Cnd} (h : RuleE C F r κ st need ms) : Rep K F (.ref r) (objD C κ st need ms) := by
  obtain ⟨dx, l, ks, a, b, rfl⟩ := h
  refine .obj a ?_
  have hl : Rep K F (.ref l) (.lst ((ks.map (·.2)).map tripD)) := .lst b.lst (cnds_reps b.each)
  unfold fvD fsD
  by_cases h0 : κ = 0
  · rw [if_pos h0, if_pos h0]
    exact .cons (.str _) (.cons hl .nil)
  · rw [if_neg h0, if_neg h0]
    by_cases h1 : κ = 1
    · rw [if_pos h1, if_pos h1]
      exact .cons (.str _) (.cons hl (.cons (.int _) .nil))
    · rw [if_neg h1, if_neg h1]
      exact .cons (.str _) (.cons (.int _) (.cons hl .nil))
theorem RuleT.rep {K : PySem.W.Frag} {F : Hp} {t pl : Addr} {κ hue : Nat} {ks : List (Addr × Cnd)} {need : Int} (h1 : F t = some (.tup [.str (kindT κ), .str (S [hue]), .ref pl, .int need])) (h2 : CndsAt F pl ks) : Rep K F (.ref t) (ruleD κ hue (ks.map (·.2)) need) := by
  rw [kindL_S] at h1
  exact .tup h1 (.cons (.str _) (.cons (.str _) (.cons (.lst h2.lst (cnds_reps h2.each)) (.cons (.int _) .nil))))
theorem fs_stone {κ : Nat} {st : List Nat} {need : Int} {ms : List Cnd} : (fsD κ st need ms).lookup ("stone" : Str) = some (.tx st) := by
  unfold fsD
  split
  · rfl
  · split <;> rfl
theorem fs_cond {κ : Nat} {st : List Nat} {need : Int} {ms : List Cnd} : (fsD κ st need ms).lookup ("_conditions" : Str) = some (.lst (ms.map tripD)) := by
  unfold fsD
  split
  · rfl
  · split <;> rfl
theorem fs_low {κ : Nat} {st : List Nat} {need : Int} {ms : List Cnd} : ∀ m ∈ lows, (fsD κ st need ms).lookup m = none := by
  intro m hm
  simp only [lows, List.mem_cons, List.not_mem_nil, or_false] at hm
  unfold fsD
  rcases hm with rfl | rfl | rfl | rfl | rfl | rfl | rfl | rfl <;>
  · split
    · rfl
    · split <;> rfl
section
variable {K : PySem.W.Frag} {C CI CR CC CS : Addr} {κ : Nat} {E : XK} {st z : List Nat} {need : Int} {ms : List Cnd} {vs : List V} {H : Hp} {Q : VK}
theorem ask_obj {d : D} (h : spT K [objD C κ st need ms] d vs H Q E) : ∃ r, vs = [.ref r] ∧ RuleE C H r κ st need ms ∧ ∀ v, (∀ F, Rep K F v d) → Q v H := by
  obtain ⟨F, fh, r, k⟩ := h
  cases r with
  | cons r1 r =>
    cases r
    obtain ⟨r, rfl, e⟩ := RuleE.of r1
    exact ⟨r, rfl, e.same fh, fun v rv => k v F H (Gr.refl _ _) fh (rv F)⟩
theorem ask_obj1 {d : D} (h : spT K [objD C κ st need ms, .tx z] d vs H Q E) : ∃ r, vs = [.ref r, .str (S z)] ∧ RuleE C H r κ st need ms ∧ ∀ v, (∀ F, Rep K F v d) → Q v H := by
  obtain ⟨F, fh, r, k⟩ := h
  cases r with
  | cons r1 r =>
    cases r with
    | cons r2 r =>
      cases r
      cases r2
      obtain ⟨r, rfl, e⟩ := RuleE.of r1
      exact ⟨r, rfl, e.same fh, fun v rv => k v F H (Gr.refl _ _) fh (rv F)⟩
theorem as_written (t1 : Tiny ms) (t2 : tiny need) (t3 : st.length ≤ 1000) (h : spT K [objD C κ st need ms] (.tx (lineT κ st need ms)) vs H Q E) : spWritten C κ vs H Q E := by
  obtain ⟨F, fh, r, k⟩ := h
  cases r with
  | cons r1 r =>
    cases r
    obtain ⟨r, rfl, e⟩ := RuleE.of r1
    exact ⟨r, st, need, ms, rfl, (e.same fh).at, t1, t2, t3, fun H' s => k _ F H' ⟨Same.refl _, s, fun _ _ _ n => n⟩ (fh.trans s) (.str _)⟩
theorem as_lays (l : z.length ≤ 1000) (h : spT K [objD C κ st need ms, .tx z] (.bl (laysB κ st z)) vs H Q E) : spLays C κ vs H Q E := by
  obtain ⟨r, rfl, e, k⟩ := ask_obj1 h
  exact ⟨r, st, need, ms, z, rfl, e.at, l, k _ fun _ => .bl _⟩
theorem as_slack (l : ms.length ≤ 1000) (h : spT K [objD C κ st need ms] (.int (slackOf κ need ms)) vs H Q E) : spSlack C κ vs H Q E := by
  obtain ⟨r, rfl, e, k⟩ := ask_obj h
  exact ⟨r, st, need, ms, rfl, e.at, l, k _ fun _ => .int _⟩
theorem as_len (h : spT K [objD C κ st need ms] (.int (ms.length : Int)) vs H Q E) : spLenR C κ vs H Q E := by
  obtain ⟨r, rfl, e, k⟩ := ask_obj h
  exact ⟨r, st, need, ms, rfl, e.at, k _ fun _ => .int _⟩
def rv (c : Cnd) : Cnd := (c.1, c.2.reverse)
def rotC (cs : List Cnd) (t : Nat) : List Cnd := cs.drop t ++ cs.take t
theorem rotC_perm (cs : List Cnd) (t : Nat) : (rotC cs t).Perm cs := by
  have h := List.perm_append_comm (l₁ := cs.drop t) (l₂ := cs.take t)
  rw [List.take_append_drop] at h
  exact h
def wordO (κ : Nat) (c : Cnd) : List Nat := bif !(decide (kindL κ = [115, 97, 109, 101])) then (pwT c.1 ++ [58]) ++ c.2.reverse else pwT c.1
theorem wordO_len {κ : Nat} {c : Cnd} (h : c.2.length ≤ 27) : (wordO κ c).length ≤ 50 := by
  have a := pwT_len c.1
  unfold wordO
  cases decide (kindL κ = [115, 97, 109, 101])
  · show ((pwT c.1 ++ [58]) ++ c.2.reverse).length ≤ 50
    rw [List.length_append, List.length_append, List.length_reverse]
    show _ + 1 + _ ≤ 50
    omega
  · show (pwT c.1).length ≤ 50
    omega
theorem head_eq {κ hue : Nat} {need : Int} (k3 : κ < 3) : headW κ hue need = headT κ [hue] need := by
  match κ, k3 with
  | 0, _ => rfl
  | 1, _ => rfl
  | 2, _ => rfl
theorem line_eq {κ hue : Nat} {need : Int} {ks : List Cnd} (k3 : κ < 3) : TL.joinL [32] (headW κ hue need ++ ks.map (wordO κ)) = lineT κ [hue] need (ks.map rv) := by
  unfold lineT wordsT
  rw [head_eq k3]
  match κ, k3 with
  | 0, _ => rw [if_neg (by decide), List.map_map]; rfl
  | 1, _ => rw [if_neg (by decide), List.map_map]; rfl
  | 2, _ => rw [if_pos rfl, List.map_map]; rfl
theorem cut_drop (xs : List D) (t : Nat) : cutTr xs (some (t : Int)) none = xs.drop t := by
  unfold cutTr
  rw [HT.sIx_none, HT.sIx_nat]
  rcases Nat.le_total t xs.length with h | h
  · rw [Nat.min_eq_left h, List.take_of_length_le (by rw [List.length_drop]; exact Nat.le_refl _)]
  · rw [Nat.min_eq_right h, List.drop_eq_nil_of_le (Nat.le_refl _), List.drop_eq_nil_of_le h, List.take_nil]
theorem cut_take (xs : List D) (t : Nat) : cutTr xs none (some (t : Int)) = xs.take t := by
  unfold cutTr
  rw [HT.sIx_none, HT.sIx_nat, List.drop_zero, Nat.sub_zero]
  rcases Nat.le_total t xs.length with h | h
  · rw [Nat.min_eq_left h]
  · rw [Nat.min_eq_right h, List.take_of_length_le (Nat.le_refl _), List.take_of_length_le h]
theorem rot_eq (cs : List Cnd) (t : Nat) : cutTr (cs.map tripD) (some (t : Int)) none ++ cutTr (cs.map tripD) none (some (t : Int)) = (rotC cs t).map tripD := by
  rw [cut_drop, cut_take]
  unfold rotC
  rw [List.map_append, List.map_drop, List.map_take]
/-- a made rule that is the law's own -/
structure Fine (κ hue : Nat) (st : List Nat) (cs : List Cnd) (need : Int) (ms : List Cnd) (z : List Nat) : Prop where
  ok : RuleOk κ hue cs need
  line : lineT κ st need ms = writT κ hue cs need
  t1 : Tiny ms
  t3 : st.length ≤ 1000
  zl : z.length ≤ 1000
  len : ms.length = cs.length
  due : ∀ c ∈ z, (decide (kindL κ = [115, 97, 109, 101]) || decide ([hue] = [c])) = true → laysB κ st [c] = true ∧ condsOf κ [c] ms = dueOf κ [c] (ordC cs) ∧ Low3 (condsOf κ [c] ms)
theorem toPys_trip : ∀ ms : List Cnd, toPys (ms.map tripD) = ms.map dN
  | [] => rfl
  | c :: ms => by
    rw [List.map_cons, List.map_cons, toPys, toPys_trip ms]
    rfl
theorem plains_trip : ∀ ms : List Cnd, plains (ms.map tripD) = true
  | [] => rfl
  | c :: ms => by
    rw [List.map_cons, plains, plains_trip ms]
    rfl
theorem trip_shaped {ms : List Cnd} (h : Low3 ms) : plain (.lst (ms.map tripD)) = true ∧ SeqAt.shaped (toPy (.lst (ms.map tripD))) = true := by
  rw [Tr.plain, toPy, toPys_trip]
  exact ⟨plains_trip ms, dNs_shaped h⟩
end
def mb (b : Addr) (H : Hp) : Hp := fun a => if a = b then none else H a
theorem mb_same (b : Addr) (H : Hp) : Same (mb b H) H := fun a o e => by
  unfold mb at e
  split at e
  · cases e
  · exact e
theorem mb_b (b : Addr) (H : Hp) : mb b H b = none := if_pos rfl
theorem mb_ne {b a : Addr} {H : Hp} (h : a ≠ b) : mb b H a = H a := if_neg h
theorem mb_of {b a : Addr} {H : Hp} {o : HO} (e : H a = some o) (n : a ≠ b) : mb b H a = some o := by rw [mb_ne n]; exact e
theorem mb_mono {b : Addr} {H H' : Hp} (s : SameBut b H H') : Same (mb b H) (mb b H') := fun a o e => by
  by_cases h : a = b
  · rw [h, mb_b] at e
    cases e
  · rw [mb_ne h] at e ⊢
    exact s a o h e
theorem sb_of {b : Addr} {H H' : Hp} (s : Same H H') : SameBut b H H' := fun a o _ e => s a o e
theorem mb_in {b : Addr} {F' H' : Hp} (s : Same F' H') (n : F' b = none) : Same F' (mb b H') := fun a o e => mb_of (s a o e) fun y => by rw [y, n] at e; cases e
section
variable {K : PySem.W.Frag} {b l : Addr} {H : Hp}
/-- a pure def asked while the bag stands -/
theorem ask {G : List D → D → Prop} {vs : List V} {ds : List D} {d : D} {Q : VK} {E : XK} (hb : BagL H b l) (hG : G ds d) (r : Reps K (mb b H) vs ds) (k : ∀ v H', Same H H' → Rep K (mb b H') v d → Q v H') : spG K G vs H Q E := by
  obtain ⟨xs, e⟩ := bag_b hb
  exact ⟨ds, d, hG, mb b H, mb_same b H, r, fun v F' H' g fh rv => k v H' g.h (rv.mono (mb_in fh (g.x b _ e (mb_b b H))))⟩
theorem mb_rule {t pl : Addr} {κ hue : Nat} {ks : List (Addr × Cnd)} {need : Int} (h : RuleT H t pl κ hue ks need) (hb : BagL H b l) (np : pl ≠ b) : Rep K (mb b H) (.ref t) (ruleD κ hue (ks.map (·.2)) need) := by
  obtain ⟨xs, e⟩ := bag_b hb
  exact RuleT.rep (mb_of h.at_ fun y => by rw [y] at h; have := h.at_; rw [e] at this; cases this) ⟨mb_of h.cs.lst np, fun q m => mb_of (h.cs.each q m) fun y => by have := h.cs.each q m; rw [y, e] at this; cases this⟩
theorem mb_obj {C r : Addr} {κ : Nat} {st : List Nat} {need : Int} {ms : List Cnd} (h : RuleE C H r κ st need ms) (hb : BagL H b l) : Rep K (mb b H) (.ref r) (objD C κ st need ms) := by
  obtain ⟨dx, l2, ks, a, c, e2⟩ := h
  obtain ⟨ns, i, p, q, e, _⟩ := hb
  refine RuleE.rep ⟨dx, l2, ks, mb_of a (fun y => by rw [y, e] at a; cases a), ⟨mb_of c.lst fun y => ?_, fun q m => mb_of (c.each q m) fun y => by have := c.each q m; rw [y, e] at this; cases this⟩, e2⟩
  have h := c.lst
  rw [y, e] at h
  have h := HO.lst.inj (Option.some.inj h)
  match ks, h with
  | [], h => cases h
  | [_], h => cases h
  | _ :: _ :: _, h => cases h
end
theorem rv_asc (c : Cnd) : ascC (rv c) = ascC c := by
  show (c.1, asc c.2.reverse) = (c.1, asc c.2)
  rw [asc_of ((asc_perm c.2).trans (List.reverse_perm c.2).symm) (asc_le c.2)]
theorem Made.rv {κ hue : Nat} {st : List Nat} {cs ms : List Cnd} {t : Nat} (h : Made κ hue st ((rotC cs t).map rv) ms) : Made κ hue st cs ms := by
  obtain ⟨o, h⟩ := h
  refine ⟨o, ?_⟩
  rcases h with ⟨a, b, c⟩ | ⟨a, b, c⟩
  · refine .inl ⟨a, b, ?_⟩
    rw [List.map_map, show (rotC cs t).map (ascC ∘ Pm.rv) = (rotC cs t).map ascC from List.map_congr_left fun c _ => rv_asc c] at c
    exact c.trans ((rotC_perm cs t).map ascC)
  · refine .inr ⟨a, b, ?_⟩
    rw [List.map_map] at c
    exact c.trans ((rotC_perm cs t).map fun c : Cnd => ascC (wideC c.1))
theorem Sgn.rev {y : List Nat} (h : Sgn y) : Sgn y.reverse :=
  ⟨fun e => h.ne (List.reverse_eq_nil_iff.mp e), (List.reverse_perm y).nodup_iff.mpr h.nd, fun c m => h.all c (List.mem_reverse.mp m), by rw [List.length_reverse]; exact h.few⟩
theorem GoodR.rv {κ hue : Nat} {cs : List Cnd} {need : Int} (h : GoodR κ hue cs need) (t : Nat) : GoodR κ hue ((rotC cs t).map rv) need := by
  have p := rotC_perm cs t
  have el : ((rotC cs t).map Pm.rv).length = cs.length := by rw [List.length_map, p.length_eq]
  refine ⟨h.k3, h.hue, by rw [el]; exact h.few, ?_, fun c m => ?_, h.n0, by rw [el]; exact h.n1, fun k => by rw [el]; exact h.all k⟩
  · rw [List.map_map]
    exact (p.map (·.1)).nodup_iff.mpr h.nd
  · obtain ⟨d, hd, rfl⟩ := List.mem_map.mp m
    obtain ⟨a, b⟩ := h.each d (p.mem_iff.mp hd)
    exact ⟨a, b.rev⟩
theorem GoodR.perm_line {κ hue : Nat} {cs : List Cnd} {need : Int} {st : List Nat} {ms : List Cnd} (h : GoodR κ hue cs need) (m : Made κ hue st cs ms) : lineT κ st need ms = writT κ hue cs need := by
  obtain ⟨om, m⟩ := m
  unfold lineT writT
  congr 1
  unfold wordsT
  rw [head_eq h.k3]
  have pm := ordC_perm cs
  rcases m with ⟨k2, rfl, p⟩ | ⟨k2, rfl, p⟩
  · have e : ms = (ordC cs).map ascC := by
      refine ord_uniq (p.trans (pm.map ascC).symm) ?_ om (ord_map _ (fun _ => rfl) (ordC_ord cs))
      rw [List.map_map]
      exact (pm.map (·.1)).nodup_iff.mpr h.nd
    rw [e, if_neg k2, List.map_map]
    congr 1
    refine List.map_congr_left fun c _ => ?_
    show cwT (ascC c) = wordW κ c
    unfold wordW
    rw [kindL_same h.k3, decide_eq_false k2]
    show (pwT c.1 ++ [58]) ++ asc c.2 = pwT c.1 ++ ([58] ++ asc c.2)
    rw [List.append_assoc]
  · have e : ms = (ordC cs).map fun c => ascC (wideC c.1) := by
      refine ord_uniq (p.trans (pm.map fun c => ascC (wideC c.1)).symm) ?_ om (ord_map _ (fun _ => rfl) (ordC_ord cs))
      rw [List.map_map]
      exact (pm.map (·.1)).nodup_iff.mpr h.nd
    rw [e, if_pos k2, List.map_map]
    congr 1
    · subst k2
      rfl
    · refine List.map_congr_left fun c _ => ?_
      show pwT c.1 = wordW κ c
      unfold wordW
      rw [kindL_same h.k3, decide_eq_true k2]
      show pwT c.1 = pwT c.1 ++ []
      rw [List.append_nil]
theorem fine_of {κ hue : Nat} {cs : List Cnd} {need : Int} {st : List Nat} {ms : List Cnd} {z : List Nat} (h : GoodR κ hue cs need) (m : Made κ hue st cs ms) (hz : Pal z) : Fine κ hue st cs need ms z := by
  have ln := m.len
  have few := h.few
  have k3 := h.k3
  refine ⟨h.ok, h.perm_line m, ⟨by omega, fun c hc => ?_⟩, ?_, by rw [hz.len]; decide, ln, fun c hc hl => ?_⟩
  · rcases m.2 with ⟨_, _, p⟩ | ⟨_, _, p⟩
    · obtain ⟨d, hd, rfl⟩ := List.mem_map.mp (p.mem_iff.mp hc)
      obtain ⟨a, b, _, e⟩ := h.each_tiny hd
      exact ⟨a, b, by show (asc d.2).length ≤ 1000; rw [(asc_perm d.2).length_eq]; omega⟩
    · obtain ⟨d, hd, rfl⟩ := List.mem_map.mp (p.mem_iff.mp hc)
      obtain ⟨a, b, _, _⟩ := h.each_tiny hd
      exact ⟨a, b, by show (asc alphaL).length ≤ 1000; rw [(asc_perm alphaL).length_eq, alphaL_len]; decide⟩
  · rcases m.2 with ⟨_, e, _⟩ | ⟨_, e, _⟩ <;> rw [e]
    · show 1 ≤ 1000
      decide
    · show 0 ≤ 1000
      decide
  · have lc := hz.good hc
    have lb : ∀ x ∈ [c], x < 256 := fun x hx => by
      rw [List.mem_singleton.mp hx]
      unfold Let at lc
      omega
    have e := m.lays h.hue [c]
    rw [kindL_same k3] at hl
    have sb : stoneB [c] = true := decide_eq_true lc
    rw [sb, Bool.true_and] at e
    have e2 : decide ([hue] = [c]) = decide ([c] = [hue]) := decide_eq_decide.mpr ⟨fun h => h.symm, fun h => h.symm⟩
    rw [e2] at hl
    exact ⟨by rw [← e]; exact hl, m.due h.nd (ordC_perm cs) (ordC_ord cs), m.low h.low lb⟩
def ascR (c : Cnd) : Cnd := (c.1, asc c.2)
theorem writ_line {κ hue : Nat} {cs : List Cnd} {need : Int} (k3 : κ < 3) : writT κ hue cs need = lineT κ [hue] need ((ordC cs).map ascR) := by
  unfold writT lineT wordsT
  rw [head_eq k3]
  congr 1
  congr 1
  by_cases k2 : κ = 2
  · rw [if_pos k2, List.map_map]
    refine List.map_congr_left fun c _ => ?_
    unfold wordW
    rw [kindL_same k3, decide_eq_true k2]
    show pwT c.1 ++ [] = pwT c.1
    rw [List.append_nil]
  · rw [if_neg k2, List.map_map]
    refine List.map_congr_left fun c _ => ?_
    unfold wordW
    rw [kindL_same k3, decide_eq_false k2]
    show pwT c.1 ++ ([58] ++ asc c.2) = (pwT c.1 ++ [58]) ++ asc c.2
    rw [List.append_assoc]
theorem Sgn.asc {y : List Nat} (h : Sgn y) : Sgn (asc y) := by
  have p := asc_perm y
  exact ⟨fun e => h.ne (by rw [e] at p; exact (List.Perm.nil_eq p).symm), p.nodup_iff.mpr h.nd, fun c m => h.all c (p.mem_iff.mp m), by rw [p.length_eq]; exact h.few⟩
theorem GoodR.asc {κ hue : Nat} {cs : List Cnd} {need : Int} (h : GoodR κ hue cs need) : GoodR κ hue ((ordC cs).map ascR) need := by
  have p := ordC_perm cs
  have el : ((ordC cs).map ascR).length = cs.length := by rw [List.length_map, p.length_eq]
  refine ⟨h.k3, h.hue, by rw [el]; exact h.few, ?_, fun c m => ?_, h.n0, by rw [el]; exact h.n1, fun k => by rw [el]; exact h.all k⟩
  · rw [List.map_map]
    exact (p.map (·.1)).nodup_iff.mpr h.nd
  · obtain ⟨d, hd, rfl⟩ := List.mem_map.mp m
    obtain ⟨a, b⟩ := h.each d (p.mem_iff.mp hd)
    exact ⟨a, b.asc⟩
theorem asc_asc (y : List Nat) : asc (asc y) = asc y := (asc_of ((asc_perm (asc y)).trans (asc_perm y)) (asc_le _)).symm ▸ rfl
theorem Made.asc {κ hue : Nat} {st : List Nat} {cs ms : List Cnd} (h : Made κ hue st ((ordC cs).map ascR) ms) : Made κ hue st cs ms := by
  obtain ⟨o, h⟩ := h
  refine ⟨o, ?_⟩
  rcases h with ⟨a, b, c⟩ | ⟨a, b, c⟩
  · refine .inl ⟨a, b, ?_⟩
    rw [List.map_map, show (ordC cs).map (ascC ∘ ascR) = (ordC cs).map ascC from List.map_congr_left fun c _ => by show (c.1, Pm.asc (Pm.asc c.2)) = (c.1, Pm.asc c.2); rw [asc_asc]] at c
    exact c.trans ((ordC_perm cs).map ascC)
  · refine .inr ⟨a, b, ?_⟩
    rw [List.map_map] at c
    exact c.trans ((ordC_perm cs).map fun c : Cnd => ascC (wideC c.1))
def chg (sg : List Nat) : List Cnd → List Cnd
  | [] => []
  | c :: r => (c.1, sg) :: r
theorem chg_keys (sg : List Nat) : ∀ cs, (chg sg cs).map (·.1) = cs.map (·.1)
  | [] => rfl
  | _ :: _ => rfl
theorem chg_eq (sg : List Nat) : ∀ cs : List Cnd, (cs.take 1).map (fun c => (c.1, sg)) ++ cs.drop 1 = chg sg cs
  | [] => rfl
  | _ :: _ => rfl
theorem GoodR.chg {κ hue : Nat} {cs : List Cnd} {need : Int} (h : GoodR κ hue cs need) {sg : List Nat} (hs : Sgn sg) : GoodR κ hue (chg sg cs) need := by
  have el : (Pm.chg sg cs).length = cs.length := by
    have := congrArg List.length (chg_keys sg cs)
    rwa [List.length_map, List.length_map] at this
  refine ⟨h.k3, h.hue, by rw [el]; exact h.few, by rw [chg_keys]; exact h.nd, fun c m => ?_, h.n0, by rw [el]; exact h.n1, fun k => by rw [el]; exact h.all k⟩
  cases cs with
  | nil => cases m
  | cons d r =>
    rcases List.mem_cons.mp m with e | m
    · rw [e]
      exact ⟨(h.each d List.mem_cons_self).1, hs⟩
    · exact h.each c (List.mem_cons_of_mem _ m)
def abcL : List Nat := [97, 98, 99, 100, 101, 102, 103, 104, 105, 106, 107, 108, 109, 110, 111, 112, 113, 114, 115, 116, 117, 118, 119, 120, 121, 122]
theorem abc_S : ("abcdefghijklmnopqrstuvwxyz" : Str) = S abcL := by decide +kernel
theorem abc_cut : ∀ n : Nat, n < 26 → cutS (S abcL) (some (n : Int)) none = S (abcL.drop n) := by decide +kernel
theorem abc_sgn : ∀ n : Nat, n < 26 → Sgn (abcL.drop n ++ [35]) := by
  intro n h
  have h1 : ∀ n : Nat, n < 26 → (abcL.drop n ++ [35]) ≠ [] ∧ (abcL.drop n ++ [35]).Nodup ∧ (∀ c ∈ abcL.drop n ++ [35], c = 35 ∨ (97 ≤ c ∧ c ≤ 122)) ∧ (abcL.drop n ++ [35]).length ≤ 27 := by decide +kernel
  obtain ⟨a, b, c, d⟩ := h1 n h
  exact ⟨a, b, fun x m => by
    rcases c x m with e | e
    · exact .inl e
    · exact .inr e, d⟩
end Pm
/-! ### a target with a starred name: a, b, *rest = a list -/
namespace Pm
open PySem PySem.Spec PyProof.Rows L2 SX
/-- the list's pieces ahead of the star, a new list of the pieces between, the pieces behind -/
def gStar (K : PySem.W.Frag) (n i : Nat) (t : TGs) : TG := fun v σ H Q => ∃ a xs, v = .ref a ∧ SqL K H a xs ∧ i < n ∧ n ≤ xs.length + 1 ∧ xs.length ≤ 16384 ∧ ∀ D, H D = none →
  t (xs.take i ++ [.ref D] ++ (xs.drop i).drop (xs.length + 1 - n)) σ (upd H D (.lst ((xs.drop i).take (xs.length + 1 - n)))) Q
section
variable {X : Cx} {pos p : Pos}
theorem pgs_star {e : Expr} {es : List Expr} {t : TG} {u : TGs} (h1 : PG X e t) (h2 : PGs X es u)
    (hs : (assignEach (.Starred e p :: es) X.env).map (·.2) = assign e X.env :: (assignEach es X.env).map (·.2) := by rfl) : PGs X (.Starred e p :: es) (gCons t u) := by
  refine ⟨fun pins s σ H vs us Q I r h => ?_⟩
  obtain ⟨v, vr, e1, h⟩ := h
  subst e1
  cases r with
  | cons r rr =>
    rw [hs]
    refine assignInOrder_cons (thn (h1.run pins s σ H _ _ _ I r h) fun _ s1 ⟨σ1, H1, I1, q1⟩ => ?_)
    exact h2.run pins s1 σ1 H1 _ _ Q I1 rr q1
theorem vals_take {vs : List V} {us : List Value} (r : Vals vs us) : ∀ n, Vals (vs.take n) (us.take n) := by
  induction r with
  | nil => intro n; cases n <;> exact .nil
  | cons a _ ih =>
    intro n
    cases n with
    | zero => exact .nil
    | succ n => exact .cons a (ih n)
theorem vals_drop {vs : List V} {us : List Value} (r : Vals vs us) : ∀ n, Vals (vs.drop n) (us.drop n) := by
  induction r with
  | nil => intro n; cases n <;> exact .nil
  | cons a b ih =>
    intro n
    cases n with
    | zero => exact .cons a b
    | succ n => exact ih n
theorem vals_app {vs ws : List V} {us ts : List Value} (r : Vals vs us) (q : Vals ws ts) : Vals (vs ++ ws) (us ++ ts) := by
  induction r with
  | nil => exact q
  | cons a _ ih => exact .cons a ih
theorem pg_star {es : List Expr} {k : Nat} {t : TGs} {n i : Nat} (hc : X.calm = true) (h : PGs X es t)
    (hn : (assignEach es X.env).length = n := by rfl) (hst : (assignEach es X.env).findIdx? (·.1) = some i := by rfl) : PG X (.Tuple es k pos) (gStar X.K n i t) := by
  refine ⟨fun pins s σ H v u Q I r hw => ?_⟩
  obtain ⟨a, xs, e1, hq, hi, hlen, hz, hw⟩ := hw
  subst e1
  cases r
  obtain ⟨its, rv, pl, _⟩ := I.list hq
  have hl := pl.isList
  have hh := I.ok.hd hc
  have hsz : its.toArray.size = xs.length := by simp [rv.length]
  have hlt : a ≠ s.heap.objs.size := by obtain ⟨o, ho, _⟩ := hl; exact Nat.ne_of_lt (Heap.lt_size ho)
  rw [PyProof.Rows.assign_Tuple]
  refine wpAny_bind (wpAny_standAt ?_)
  unfold unpack
  rw [hn, hst]
  refine wpAny_bind (wpAny_holding ?_)
  unfold unpackItems
  refine wpAny_bind ?_
  unfold notIterableAtAll
  refine wpAny_bind (wpAny_specialOf hl.typeIs slot_list_iter.lookup ?_)
  refine wpAny_pure ?_
  simp only [Bool.false_eq_true, if_false]
  refine wpAny_bind (wpAny_holding (wpAny_pyIter_list hl ?_))
  refine wpAny_bind (wpAny_holding (PySem.W.kun_draw hlt i 0 _ _ ⟨_, Heap.get?_push_size _ rfl, rfl, rfl⟩ (hl.push _) (by omega) fun h1 hit1 hs1 => ?_))
  have hl1 : h1.IsList a its.toArray := (hl.push _).extBut hs1.extBut hlt
  rw [Nat.zero_add] at hit1
  obtain ⟨oi, hoi, _⟩ := id hit1
  obtain ⟨ol, hol, _⟩ := id hl1
  rw [List.drop_zero]
  have hfl : (its.toArray.toList.take i).length = i := by rw [List.length_take, Array.length_toList]; omega
  rw [if_neg (show ¬ ((its.toArray.toList.take i).length < i) by rw [hfl]; omega)]
  refine wpAny_bind (wpAny_holding (PySem.W.kun_collect (s := { s with heap := h1 }) (T := "list_iterator") (.inr (.inr (.inl rfl))) (Walks.list (A := X.A.in1) hh s.heap.objs.size a hlt its.toArray) (fun j u st => st.1.typeIs) (k := i) (by omega) ⟨hit1, hl1⟩ (Heap.lt_size hoi) (Heap.lt_size hol) (fun h2 tk hk => ?_) (by rw [sizeLine_eq]; omega)))
  have hrl : (its.toArray.toList.drop i).length = xs.length - i := by rw [List.length_drop, Array.length_toList, hsz]
  have hmid : (its.toArray.toList.drop i).length - (n - 1 - i) = xs.length + 1 - n := by rw [hrl]; omega
  show wpAny _ _ (if (its.toArray.toList.drop i).length < n - 1 - i then _ else _) _ _ _
  rw [if_neg (by rw [hrl]; omega)]
  show wpAny _ _ (newList ((its.toArray.toList.drop i).take ((its.toArray.toList.drop i).length - (n - 1 - i))) >>= fun d => pure (its.toArray.toList.take i ++ [d] ++ (its.toArray.toList.drop i).drop ((its.toArray.toList.drop i).length - (n - 1 - i)))) _ _ _
  rw [hmid]
  have I2 : Inv X pins σ H { s with heap := h2, toks := tk } := I.kept fun b o e => hk b o (Nat.ne_of_lt (Heap.lt_size e)) (hs1.extBut b o (Nat.ne_of_lt (Heap.lt_size e)) (Heap.get?_push_of_some _ e))
  have hf : H h2.objs.size = none := I2.hok.fresh (Nat.le_refl _)
  have rv' : Vals xs its.toArray.toList := by simpa using rv
  have rm := vals_take (vals_drop rv' i) (xs.length + 1 - n)
  have z : ((xs.drop i).take (xs.length + 1 - n)).length ≤ sizeLine := by
    rw [List.length_take, List.length_drop, sizeLine_eq]
    omega
  refine wpAny_bind (wpAny_newList (s := { s with heap := h2, toks := tk }) (wpAny_pure ?_) (by rw [← rm.length]; exact z))
  have I3 := I2.laid (t' := tk) (h' := h2.push { cls := .type "list", data := .seq ((its.toArray.toList.drop i).take (xs.length + 1 - n)).toArray }) (a := h2.objs.size) (o := .lst ((xs.drop i).take (xs.length + 1 - n))) (fun b u e => Heap.get?_push_of_some _ e) (Nat.le_refl _) ⟨z, _, 0, rm, Heap.get?_push_size _ rfl⟩
  exact h.run pins _ σ _ _ _ Q I3 (vals_app (vals_app (vals_take rv' i) (.cons (show RelV (.ref h2.objs.size) (.ref h2.objs.size) from rfl) .nil)) (vals_drop (vals_drop rv' i) _)) (hw _ hf)
end
end Pm
namespace Pm
open PySem PySem.Spec PyProof.Rows L2 SX NdefX Tr
section
variable {P : Program} {w : World} {K : PySem.W.Frag} {mg : Str → Option Value} {base : Heap} {C CI : Addr}
def spReadP (CI : Addr) : Sp := fun vs H Q E => ∃ z n, vs = [.str (S z), .int n] ∧ z.length ≤ 1000 ∧ (readP z = none → Lets E CI [("part", .int n)] H) ∧ (∀ p, readP z = some p → ∀ t H', Same H H' → H t = none → H' t = some (PairT p) → Q (.ref t) H')
abbrev nReadP : List Str := ["word", "part", "dx", "_", "dy"]
theorem scReadP : FnScope nReadP ["word", "part"] (defScope gReadPlace) := ⟨rfl, rfl, rfl, by decide +kernel, rfl, by decide +kernel, by decide +kernel⟩
theorem ok_readp {f g e : Addr} {fd gd ed : FuncData} (F : Fun K "_read_place" "_read_place" gReadPlace f fd) (G : Cl P w K mg base CX0 2 "_is_number" ["text"] spNumber g gd) (L : LTxt K mg) (Ex : EMk P w K mg base CI "InvalidRule" ["self", "part"] (spE1 CI "part") e ed) :
    FnOk P w K mg base (L2.CX P w) 3 f fd ["word", "part"] (spReadP CI) := by
  refine F.okX scReadP (fun vs H Q E h => ?_) (fun cdv A outer s H vs Q E hr h => ?_)
  · obtain ⟨z, n, rfl, _⟩ := h
    rfl
  · obtain ⟨z, n, rfl, few, bad, good⟩ := h
    have hr2 : Room 2 _ := hr.mono (by decide)
    refine ⟨_, (pss_cons (ps_asg (pe_bm PySem.F.plainAttrs_str PySem.F.slot_str_partition PySem.F.type_str_partition mt_partition (pv 0) (pa_cons pe_str pa_nil)) (pg_tup rfl (pgs_cons (pg_name (i := 2) scReadP.nd rfl (.inl rfl)) (pgs_cons (pg_name (i := 3) scReadP.nd rfl (.inl rfl)) (pgs_cons (pg_name (i := 4) scReadP.nd rfl (.inl rfl)) pgs_nil)))))
      (pss_cons (ps_if (PW.pt (pw_or (pt_not (pt_val (pe_call G.ok hr (by rfl) G.gl G.kp G.bd .nil pass0 (pa_cons (pv 2) pa_nil)))) (pw_or1 (pt_not (pt_val (pe_call G.ok hr (by rfl) G.gl G.kp G.bd .nil pass0 (pa_cons (pv 4) pa_nil))))))) (pss_one (ps_raise rfl (takes_of rfl rfl rfl rfl) (pmk_oex Ex.T Ex.at_ Ex.ty Ex.ok hr2 Ex.bd .nil pass0 (by rfl) Ex.gl (pa_cons (pv 1) pa_nil)))) pss_nil)
      (pss_one (ps_ret (pe_tup (pa_cons (pe_callTy call_int_str (by rfl) L.int (by decide +kernel) (pa_cons (pv 2) pa_nil)) (pa_cons (pe_callTy call_int_str (by rfl) L.int (by decide +kernel) (pa_cons (pv 4) pa_nil)) pa_nil))))))), ?_⟩
    obtain ⟨m, em⟩ := part_S 44 z
    refine ⟨_, rfl, rfl, S z, S [44], rfl, by rw [← comma_S], by decide +kernel, by rw [len_S]; exact small_line few, fun T nT => ?_⟩
    rw [em]
    have sT := same_upd (o := .tup [.str (S (cutA 44 z)), .str m, .str (S (cutB 44 z))]) nT
    have hT : upd H T (.tup [.str (S (cutA 44 z)), .str m, .str (S (cutB 44 z))]) T = some (.tup [.str (S (cutA 44 z)), .str m, .str (S (cutB 44 z))]) := upd_same
    refine ⟨T, _, rfl, SqT.of hT, rfl, _, _, rfl, _, _, rfl, _, _, rfl, rfl, ?_⟩
    have out : readP z = none → ∀ x, upd H T (.tup [.str (S (cutA 44 z)), .str m, .str (S (cutB 44 z))]) x = none → ∀ H2 d, H2 x = some (exo x CI (some d)) → H2 d = some (exd d [("part", .int n)]) → upd (upd H T (.tup [.str (S (cutA 44 z)), .str m, .str (S (cutB 44 z))])) x (exo x CI none) d = none → d ≠ x → SameBut x (upd (upd H T (.tup [.str (S (cutA 44 z)), .str m, .str (S (cutB 44 z))])) x (exo x CI none)) H2 → E (.ref CI) (some d) (upd (del H2 x) d (.xd [("part", .int n)])) := fun nb x nx H2 d h1 h2 nd ne sb => by
      exact bad nb d _ (back sT (by rwa [upd_ne ne] at nd)) upd_same (sT.trans (on_way nx nd ne sb))
    have la := cutA_len 44 z
    have lb := cutB_len 44 z
    refine ⟨_, rfl, cutA 44 z, rfl, by omega, _, rfl, ?_⟩
    cases na : numB (cutA 44 z) with
    | false =>
      have nb : readP z = none := by unfold readP; rw [na]; simp
      refine iteT (iteT ⟨_, rfl, by show 1 ≤ 1000; decide, fun x nx => ⟨x, _, rfl, upd_same, fun H2 d h1 h2 nd ne sb => ⟨rfl, d, _, h1, h2, ?_, ?_⟩⟩⟩)
      · rwa [upd_ne ne] at nd
      · exact out nb x nx H2 d h1 h2 nd ne sb
    | true =>
      refine iteF ⟨_, rfl, cutB 44 z, rfl, by omega, _, rfl, ?_⟩
      cases nb : numB (cutB 44 z) with
      | false =>
        have nb : readP z = none := by unfold readP; rw [nb]; simp
        refine iteT ⟨_, rfl, by show 1 ≤ 1000; decide, fun x nx => ⟨x, _, rfl, upd_same, fun H2 d h1 h2 nd ne sb => ⟨rfl, d, _, h1, h2, ?_, ?_⟩⟩⟩
        · rwa [upd_ne ne] at nd
        · exact out nb x nx H2 d h1 h2 nd ne sb
      | true =>
        obtain ⟨e1, l1⟩ := int_num na
        obtain ⟨e2, l2⟩ := int_num nb
        refine iteF ⟨_, rfl, _, _, rfl, e1, by rw [len_S]; omega, _, rfl, _, _, rfl, e2, by rw [len_S]; omega, by show 2 ≤ sizeLine; decide, fun t nt => ?_⟩
        refine good (numV (cutA 44 z), numV (cutB 44 z)) (by unfold readP; rw [na, nb]; simp) t _ (sT.trans (same_upd nt)) (back sT nt) upd_same
end
section
variable {P : Program} {w : World} {K : PySem.W.Frag} {mg : Str → Option Value} {base : Heap} {C CI : Addr}
def spReadC (CI : Addr) : Sp := fun vs H Q E => ∃ z n, vs = [.str (S z), .int n] ∧ z.length ≤ 1000 ∧ (readC z = none → Lets E CI [("part", .int n)] H) ∧ (∀ c, readC z = some c → ∀ t H', Same H H' → H t = none → H' t = some (CondO c) → Q (.ref t) H')
abbrev nReadC : List Str := ["word", "part", "place", "_", "signs", "dx", "dy"]
theorem scReadC : FnScope nReadC ["word", "part"] (defScope gReadCondition) := ⟨rfl, rfl, rfl, by decide +kernel, rfl, by decide +kernel, by decide +kernel⟩
theorem ok_readc {f g e : Addr} {fd gd ed : FuncData} (F : Fun K "_read_condition" "_read_condition" gReadCondition f fd) (G : Cl P w K mg base (L2.CX P w) 3 "_read_place" ["word", "part"] (spReadP CI) g gd) (Ex : EMk P w K mg base CI "InvalidRule" ["self", "part"] (spE1 CI "part") e ed) :
    FnOk P w K mg base (L2.CX P w) 4 f fd ["word", "part"] (spReadC CI) := by
  refine F.okX scReadC (fun vs H Q E h => ?_) (fun cdv A outer s H vs Q E hr h => ?_)
  · obtain ⟨z, n, rfl, _⟩ := h
    rfl
  · obtain ⟨z, n, rfl, few, bad, good⟩ := h
    have hr2 : Room 2 _ := hr.mono (by decide)
    have hr3 : Room 3 _ := hr
    refine ⟨_, (pss_cons (ps_asg (pe_bm PySem.F.plainAttrs_str PySem.F.slot_str_partition PySem.F.type_str_partition mt_partition (pv 0) (pa_cons pe_str pa_nil)) (pg_tup rfl (pgs_cons (pg_name (i := 2) scReadC.nd rfl (.inl rfl)) (pgs_cons (pg_name (i := 3) scReadC.nd rfl (.inl rfl)) (pgs_cons (pg_name (i := 4) scReadC.nd rfl (.inl rfl)) pgs_nil)))))
      (pss_cons (ps_if (pt_cmpR op_eq (pv 4) pe_str (nomark _)) (pss_one (ps_raise rfl (takes_of rfl rfl rfl rfl) (pmk_oex Ex.T Ex.at_ Ex.ty Ex.ok hr2 Ex.bd .nil pass0 (by rfl) Ex.gl (pa_cons (pv 1) pa_nil)))) pss_nil)
      (pss_cons (ps_asg (pe_callS (E := fun _ => E) G.ok hr3 (by rfl) G.gl G.kp G.bd (fun σ pins H s e s' I c => passes_call (takes_of rfl rfl rfl rfl) (fun _ _ _ _ z => z) pins σ H s e s' I c) (pa_cons (pv 2) (pa_cons (pv 1) pa_nil))) (pg_tup rfl (pgs_cons (pg_name (i := 5) scReadC.nd rfl (.inl rfl)) (pgs_cons (pg_name (i := 6) scReadC.nd rfl (.inl rfl)) pgs_nil))))
      (pss_one (ps_ret (pe_tup (pa_cons (pv 5) (pa_cons (pv 6) (pa_cons (pv 4) pa_nil))))))))), ?_⟩
    obtain ⟨m, em⟩ := part_S 58 z
    refine ⟨_, rfl, rfl, S z, S [58], rfl, by rw [← colon_S], by decide +kernel, by rw [len_S]; exact small_line few, fun T nT => ?_⟩
    rw [em]
    have sT := same_upd (o := .tup [.str (S (cutA 58 z)), .str m, .str (S (cutB 58 z))]) nT
    have hT : upd H T (.tup [.str (S (cutA 58 z)), .str m, .str (S (cutB 58 z))]) T = some (.tup [.str (S (cutA 58 z)), .str m, .str (S (cutB 58 z))]) := upd_same
    refine ⟨T, _, rfl, SqT.of hT, rfl, _, _, rfl, _, _, rfl, _, _, rfl, rfl, ?_⟩
    have la := cutA_len 58 z
    have e1 : decide (V.str (S (cutB 58 z)) = V.str ("" : Str)) = decide (cutB 58 z = []) := by
      rw [none_S]
      exact decide_eq_decide.mpr ⟨fun h => S_inj (V.str.inj h), fun h => by rw [h]⟩
    refine ⟨_, rfl, rfl, _, rfl, ?_⟩
    rw [e1]
    by_cases hb : cutB 58 z = []
    · rw [decide_eq_true hb]
      have nb : readC z = none := by unfold readC; rw [if_pos hb]
      refine iteT ⟨_, rfl, by show 1 ≤ 1000; decide, fun x nx => ⟨x, _, rfl, upd_same, fun H2 d h1 h2 nd ne sb => ⟨rfl, d, _, h1, h2, ?_, ?_⟩⟩⟩
      · rwa [upd_ne ne] at nd
      · exact bad nb d _ (back sT (by rwa [upd_ne ne] at nd)) upd_same (sT.trans (on_way nx nd ne sb))
    · rw [decide_eq_false hb]
      refine iteF ⟨_, rfl, _, rfl, cutA 58 z, n, rfl, by omega, fun nb => ?_, fun p ep t G sG nt ht => ?_⟩
      · have nb : readC z = none := by unfold readC; rw [if_neg hb, nb]; rfl
        exact fun d H' nd hd sg => bad nb d H' (back sT nd) hd (sT.trans sg)
      · refine ⟨t, _, rfl, SqT.of ht, rfl, _, _, rfl, _, _, rfl, rfl, ?_⟩
        refine ⟨_, rfl, _, rfl, _, rfl, by show 3 ≤ sizeLine; decide, fun t2 nt2 => ?_⟩
        have s1 := sT.trans sG
        exact good (p, cutB 58 z) (by unfold readC; rw [if_neg hb, ep]; rfl) t2 _ (s1.trans (same_upd nt2)) (back s1 nt2) upd_same
end
structure WTx (K : PySem.W.Frag) (mg : Str → Option Value) : Prop where
  all : ∃ u, mg "_ALL" = some u ∧ RelV (.str "all") u
  same : ∃ u, mg "_SAME" = some u ∧ RelV (.str "same") u
  str : mg "str" = none
section
variable {P : Program} {w : World} {K : PySem.W.Frag} {mg : Str → Option Value} {base : Heap} {C : Addr} {κ : Nat}
def spWords (C : Addr) : Sp := fun vs H Q _ => ∃ r κ st need ms, vs = [.ref r] ∧ RuleAt C H r κ st need ms ∧ Tiny ms ∧ ∀ p H', Same H H' → H p = none → H' p = some (.lst (txtV (ms.map cwT))) → Q (.ref p) H'
abbrev nWords : List Str := ["self", "dx", "dy", "signs"]
theorem scWords : FnScope nWords ["self"] (defScope cRuleConditionWords) := ⟨rfl, rfl, rfl, by decide +kernel, rfl, by decide +kernel, by decide +kernel⟩
def teW : TE := fun σ H Q => tJs [tFmt (tVar 1), tC (.str ","), tFmt (tVar 2), tC (.str ":"), tFmt (tVar 3)] Str.empty σ H fun out H1 => Q (.str out) H1
theorem ok_words {f : Addr} {fd : FuncData} (F : Fun K "_condition_words" "Rule._condition_words" cRuleConditionWords f fd) (T : RCls K C) : FnOk P w K mg base CX0 1 f fd ["self"] (spWords C) := by
  refine F.ok scWords (fun vs H Q E h => ?_) (fun cdv A outer s H vs Q E hr h => ?_)
  · obtain ⟨r, κ, st, need, ms, rfl, _⟩ := h
    rfl
  · obtain ⟨r, κ, st, need, ms, rfl, ⟨dx, fs, l, ks, hr0, h1, h2, h3, h4, hc, ek⟩, ⟨few, each⟩, k⟩ := h
    refine ⟨_, (pss_one (ps_ret (pe_lc (own := [("dx", 1), ("dy", 2), ("signs", 3)]) (g := (gTup K 3 (gCons (gName 1) (gCons (gName 2) (gCons (gName 3) gNil))))) (tt := tYes) (te := (teW)) rfl scWords.nd (pi_list (pe_fld (pv 0) rfl)) (blkOk_by (own := [("dx", 1), ("dy", 2), ("signs", 3)]) (N := nWords) (sc := defScope cRuleConditionWords) (by decide +kernel)) (fun _ _ _ _ _ => (pg_tup rfl (pgs_cons (pg_name (i := 1) scWords.nd rfl (.inl rfl)) (pgs_cons (pg_name (i := 2) scWords.nd rfl (.inl rfl)) (pgs_cons (pg_name (i := 3) scWords.nd rfl (.inl rfl)) pgs_nil))))) (fun _ _ _ _ _ => pts_nil) (fun _ _ _ _ _ => (pe_joined (.cons (pe_fmt (pv 1)) (.cons pe_str (.cons (pe_fmt (pv 2)) (.cons pe_str (.cons (pe_fmt (pv 3)) .nil)))))))))), ?_⟩
    refine ⟨_, rfl, r, C, dx, fs, _, rfl, hr0, T.cl, T.nC, h2, l, rfl, ⟨_, SqL.of hc.lst⟩, fun D nD => lc_list (K := K) (a := l) (xs := refC ks) (fun i G => Same H G ∧ G D = some (.lst (txtV ((ks.take i).map fun q => cwT q.2)))) ⟨same_upd nD, upd_same⟩ (fun i G _ ⟨sm, _⟩ => SqL.of (sm _ _ hc.lst)) ?_ ?_⟩
    · rintro i x G hx ⟨sm, hD⟩
      obtain ⟨t, c, hi, rfl⟩ := refC_at hx
      have mq := List.mem_of_getElem? hi
      have htc := sm _ _ (hc.each _ mq)
      have li : i < ks.length := (List.getElem?_eq_some_iff.mp hi).1
      have lk : ks.length = ms.length := by rw [← ek, List.length_map]
      obtain ⟨t1, t2, l3⟩ := each c (by rw [← ek]; exact List.mem_map.mpr ⟨_, mq, rfl⟩)
      obtain ⟨j1, j2, j3, j4⟩ := pw_js (p := c.1) t1 t2
      obtain ⟨j5, j6, j7⟩ := cw_js (c := c) l3
      refine ⟨t, _, rfl, SqT.of htc, rfl, _, _, rfl, _, _, rfl, _, _, rfl, rfl, rfl, ?_⟩
      refine tyes (iteT ⟨_, rfl, .inr ⟨c.1.1, rfl, log_tiny t1, _, rfl, j1, _, rfl, j2, _, rfl, .inr ⟨c.1.2, rfl, log_tiny t2, _, rfl, j3, ?_⟩⟩⟩)
      rw [j4]
      refine ⟨_, rfl, j5, _, rfl, .inl ⟨_, rfl, by rw [len_S]; exact small_line l3, _, rfl, j6, ?_⟩⟩
      rw [j7]
      refine ⟨_, hD, ?_, fun b o e => ?_, ?_⟩
      · rw [txtV_len, List.length_map, List.length_take]
        exact small1000 (by omega)
      · rw [upd_ne (ne_of_none e nD)]
        exact sm _ _ e
      · rw [upd_same, List.take_add_one, hi, List.map_append, txtV_app]
        rfl
    · rintro G ⟨sm, hD⟩
      rw [show (refC ks).length = ks.length from List.length_map _, List.take_of_length_le (Nat.le_refl _)] at hD
      refine k D G sm nD ?_
      rw [hD, ← ek, List.map_map]
      rfl
theorem scWritR : FnScope ["self"] ["self"] (defScope cRuleWritten) := ⟨rfl, rfl, rfl, by decide +kernel, rfl, by decide +kernel, by decide +kernel⟩
theorem scWritC : FnScope ["self"] ["self"] (defScope cCountRuleWritten) := ⟨rfl, rfl, rfl, by decide +kernel, rfl, by decide +kernel, by decide +kernel⟩
abbrev nWritS : List Str := ["self", "words", "dx", "dy", "_"]
theorem scWritS : FnScope nWritS ["self"] (defScope cSameRuleWritten) := ⟨rfl, rfl, rfl, by decide +kernel, rfl, by decide +kernel, by decide +kernel⟩
theorem ok_writR {f g : Addr} {fd gd : FuncData} (F : Fun K "written" "Rule.written" cRuleWritten f fd) (T : RCls K C) (W : WTx K mg) (mW : Meth K C "_condition_words" g) (OW : FnOk P w K mg base CX0 1 g gd ["self"] (spWords C)) (bW : Binds K gd ["self"] []) : FnOk P w K mg base CX0 2 f fd ["self"] (spWritten C 0) := by
  refine F.ok scWritR (fun vs H Q E h => ?_) (fun cdv A outer s H vs Q E hr h => ?_)
  · obtain ⟨r, st, need, ms, rfl, _⟩ := h
    rfl
  · obtain ⟨r, st, need, ms, rfl, hR, ty, tn, ls, k⟩ := h
    obtain ⟨uA, hA, rA⟩ := W.all
    have hR0 := hR
    obtain ⟨dx, fs, l, ks, hr0, h1, h2, h3, h4, hc, ek⟩ := hR
    refine ⟨_, (pss_one (ps_ret (pe_bm PySem.F.plainAttrs_str PySem.F.slot_str_join PySem.F.type_str_join mt_join pe_str (pa_cons (pe_op op_cat (pe_lst (pa_cons (pe_fld (pv 0) rfl) (pa_cons (pe_glob (by rfl) hA rA) pa_nil))) (pe_meth0 (pv 0) T.cl mW OW hr bW .nil pass0)) pa_nil)))), ?_⟩
    refine ⟨rfl, _, rfl, r, C, dx, fs, _, rfl, hr0, T.cl, T.nS, h1, by show 2 ≤ sizeLine; decide, fun a na => ?_⟩
    have s1 := same_upd (o := .lst [.str (S st), .str "all"]) na
    have y1 : upd H a (.lst [.str (S st), .str "all"]) a = some (.lst [.str (S st), .str "all"]) := upd_same
    generalize upd H a (.lst [.str (S st), .str "all"]) = H1 at s1 y1
    refine ⟨_, rfl, r, dx, fs, rfl, s1 _ _ hr0, h4 _ (by decide), r, 0, st, need, ms, rfl, hR0.same s1, ty, fun b G sG nb hb => ?_⟩
    have fit := wordsT_fit (κ := 0) (need := need) ty ls
    refine ⟨a, b, _, _, rfl, rfl, sG _ _ y1, hb, ?_, fun c nc => ?_⟩
    · rw [txtV_len, List.length_map, sizeLine_eq]
      have := ty.1
      show 2 + ms.length ≤ _
      omega
    · have e : [V.str (S st), V.str "all"] ++ txtV (ms.map cwT) = (((wordsT 0 st need ms).map S).map V.str) := by
        rw [all_S]
        rfl
      refine ⟨" ", c, (wordsT 0 st need ms).map S, rfl, rfl, .inl (SqL.of (by rw [upd_same, e])), by rw [space_S]; exact words_fit fit.1 fit.2, ?_⟩
      rw [join_line]
      exact k _ ((s1.trans sG).trans (same_upd nc))
theorem ok_writC {f g : Addr} {fd gd : FuncData} (F : Fun K "written" "CountRule.written" cCountRuleWritten f fd) (T : RCls K C) (W : WTx K mg) (mW : Meth K C "_condition_words" g) (OW : FnOk P w K mg base CX0 1 g gd ["self"] (spWords C)) (bW : Binds K gd ["self"] []) : FnOk P w K mg base CX0 2 f fd ["self"] (spWritten C 1) := by
  refine F.ok scWritC (fun vs H Q E h => ?_) (fun cdv A outer s H vs Q E hr h => ?_)
  · obtain ⟨r, st, need, ms, rfl, _⟩ := h
    rfl
  · obtain ⟨r, st, need, ms, rfl, hR, ty, tn, ls, k⟩ := h
    have hR0 := hR
    obtain ⟨dx, fs, l, ks, hr0, h1, h2, h3, h4, hc, ek⟩ := hR
    refine ⟨_, (pss_one (ps_ret (pe_bm PySem.F.plainAttrs_str PySem.F.slot_str_join PySem.F.type_str_join mt_join pe_str (pa_cons (pe_op op_cat (pe_lst (pa_cons (pe_fld (pv 0) rfl) (pa_cons (pe_callTy call_str_int (by rfl) W.str (by decide +kernel) (pa_cons (pe_fld (pv 0) rfl) pa_nil)) pa_nil))) (pe_meth0 (pv 0) T.cl mW OW hr bW .nil pass0)) pa_nil)))), ?_⟩
    refine ⟨rfl, _, rfl, r, C, dx, fs, _, rfl, hr0, T.cl, T.nS, h1, _, rfl, r, C, dx, fs, _, rfl, hr0, T.cl, T.nN, h3 (by decide), need, rfl, log_tiny tn, by show 2 ≤ sizeLine; decide, fun a na => ?_⟩
    rw [toS tn] at *
    have s1 := same_upd (o := .lst [.str (S st), .str (S (numT need))]) na
    have y1 : upd H a (.lst [.str (S st), .str (S (numT need))]) a = some (.lst [.str (S st), .str (S (numT need))]) := upd_same
    generalize upd H a (.lst [.str (S st), .str (S (numT need))]) = H1 at s1 y1
    refine ⟨_, rfl, r, dx, fs, rfl, s1 _ _ hr0, h4 _ (by decide), r, 1, st, need, ms, rfl, hR0.same s1, ty, fun b G sG nb hb => ?_⟩
    have fit := wordsT_fit (κ := 1) (need := need) ty ls
    refine ⟨a, b, _, _, rfl, rfl, sG _ _ y1, hb, ?_, fun c nc => ?_⟩
    · rw [txtV_len, List.length_map, sizeLine_eq]
      have := ty.1
      show 2 + ms.length ≤ _
      omega
    · have e : [V.str (S st), V.str (S (numT need))] ++ txtV (ms.map cwT) = (((wordsT 1 st need ms).map S).map V.str) := rfl
      refine ⟨" ", c, (wordsT 1 st need ms).map S, rfl, rfl, .inl (SqL.of (by rw [upd_same, e])), by rw [space_S]; exact words_fit fit.1 fit.2, ?_⟩
      rw [join_line]
      exact k _ ((s1.trans sG).trans (same_upd nc))
def teWS : TE := fun σ H Q => tJs [tFmt (tVar 2), tC (.str ","), tFmt (tVar 3)] Str.empty σ H fun out H1 => Q (.str out) H1
theorem ok_writS {f : Addr} {fd : FuncData} (F : Fun K "written" "SameRule.written" cSameRuleWritten f fd) (T : RCls K C) (W : WTx K mg) : FnOk P w K mg base CX0 2 f fd ["self"] (spWritten C 2) := by
  refine F.ok scWritS (fun vs H Q E h => ?_) (fun cdv A outer s H vs Q E hr h => ?_)
  · obtain ⟨r, st, need, ms, rfl, _⟩ := h
    rfl
  · obtain ⟨r, st, need, ms, rfl, hR, ty, tn, ls, k⟩ := h
    obtain ⟨uS, hS, rS⟩ := W.same
    have hR0 := hR
    obtain ⟨dx, fs, l, ks, hr0, h1, h2, h3, h4, hc, ek⟩ := hR
    obtain ⟨few, each⟩ := id ty
    refine ⟨_, (pss_cons (ps_setLc (i := 1) (own := [("dx", 2), ("dy", 3), ("_", 4)]) (g := (gTup K 3 (gCons (gName 2) (gCons (gName 3) (gCons (gName 4) gNil))))) (tt := tYes) (te := (teWS)) rfl scWritS.nd rfl rfl (sw_true rfl rfl rfl (by decide +kernel)) (pi_list (pe_fld (pv 0) rfl)) (blkOk_by (own := [("dx", 2), ("dy", 3), ("_", 4)]) (N := nWritS) (sc := defScope cSameRuleWritten) (by decide +kernel)) (fun _ _ _ _ _ => (pg_tup rfl (pgs_cons (pg_name (i := 2) scWritS.nd rfl (.inl rfl)) (pgs_cons (pg_name (i := 3) scWritS.nd rfl (.inl rfl)) (pgs_cons (pg_name (i := 4) scWritS.nd rfl (.inl rfl)) pgs_nil))))) (fun _ _ _ _ _ => pts_nil) (fun _ _ _ _ _ => (pe_joined (.cons (pe_fmt (pv 2)) (.cons pe_str (.cons (pe_fmt (pv 3)) .nil))))))
      (pss_one (ps_ret (pe_bm PySem.F.plainAttrs_str PySem.F.slot_str_join PySem.F.type_str_join mt_join pe_str (pa_cons (pe_op op_cat (pe_lst (pa_cons (pe_glob (by rfl) hS rS) (pa_cons (pe_callTy call_str_int (by rfl) W.str (by decide +kernel) (pa_cons (pe_fld (pv 0) rfl) pa_nil)) pa_nil))) (pv 1)) pa_nil))))), ?_⟩
    refine ⟨_, rfl, r, C, dx, fs, _, rfl, hr0, T.cl, T.nC, h2, l, rfl, ⟨_, SqL.of hc.lst⟩, fun D nD => lc_list (K := K) (a := l) (xs := refC ks) (fun i G => Same H G ∧ G D = some (.lst (txtV ((ks.take i).map fun q => pwT q.2.1)))) ⟨same_upd nD, upd_same⟩ (fun i G _ ⟨sm, _⟩ => SqL.of (sm _ _ hc.lst)) ?_ ?_⟩
    · rintro i x G hx ⟨sm, hD⟩
      obtain ⟨t, c, hi, rfl⟩ := refC_at hx
      have mq := List.mem_of_getElem? hi
      have htc := sm _ _ (hc.each _ mq)
      have li : i < ks.length := (List.getElem?_eq_some_iff.mp hi).1
      have lk : ks.length = ms.length := by rw [← ek, List.length_map]
      obtain ⟨t1, t2, l3⟩ := each c (by rw [← ek]; exact List.mem_map.mpr ⟨_, mq, rfl⟩)
      obtain ⟨j1, j2, j3, j4⟩ := pw_js (p := c.1) t1 t2
      refine ⟨t, _, rfl, SqT.of htc, rfl, _, _, rfl, _, _, rfl, _, _, rfl, rfl, rfl, ?_⟩
      refine tyes (iteT ⟨_, rfl, .inr ⟨c.1.1, rfl, log_tiny t1, _, rfl, j1, _, rfl, j2, _, rfl, .inr ⟨c.1.2, rfl, log_tiny t2, _, rfl, j3, ?_⟩⟩⟩)
      rw [j4]
      refine ⟨_, hD, ?_, fun b o e => ?_, ?_⟩
      · rw [txtV_len, List.length_map, List.length_take]
        exact small1000 (by omega)
      · rw [upd_ne (ne_of_none e nD)]
        exact sm _ _ e
      · rw [upd_same, List.take_add_one, hi, List.map_append, txtV_app]
        rfl
    · rintro G ⟨sm, hD⟩
      rw [show (refC ks).length = ks.length from List.length_map _, List.take_of_length_le (Nat.le_refl _)] at hD
      have eD : (ks.map fun q => pwT q.2.1) = ms.map fun c => pwT c.1 := by
        rw [← ek, List.map_map]
        rfl
      rw [eD] at hD
      refine ⟨rfl, _, rfl, r, C, dx, fs, _, rfl, sm _ _ hr0, T.cl, T.nN, h3 (by decide), need, rfl, log_tiny tn, by show 2 ≤ sizeLine; decide, fun a na => ?_⟩
      rw [toS tn] at *
      have s1 := same_upd (o := .lst [.str "same", .str (S (numT need))]) na
      have y1 : upd G a (.lst [.str "same", .str (S (numT need))]) a = some (.lst [.str "same", .str (S (numT need))]) := upd_same
      generalize upd G a (.lst [.str "same", .str (S (numT need))]) = H1 at s1 y1
      have fit := wordsT_fit (κ := 2) (need := need) ty ls
      refine ⟨_, rfl, a, D, _, _, rfl, rfl, y1, s1 _ _ hD, ?_, fun c nc => ?_⟩
      · rw [txtV_len, List.length_map, sizeLine_eq]
        show 2 + ms.length ≤ _
        omega
      · have e : [V.str "same", V.str (S (numT need))] ++ txtV (ms.map fun c => pwT c.1) = (((wordsT 2 st need ms).map S).map V.str) := by
          rw [same_S]
          rfl
        refine ⟨" ", c, (wordsT 2 st need ms).map S, rfl, rfl, .inl (SqL.of (by rw [upd_same, e])), by rw [space_S]; exact words_fit fit.1 fit.2, ?_⟩
        rw [join_line]
        exact k _ ((sm.trans s1).trans (same_upd nc))
end
structure GTx (mg : Str → Option Value) (CR CC CS : Addr) : Prop where
  gR : mg "Rule" = some (.ref CR)
  gC : mg "CountRule" = some (.ref CC)
  gS : mg "SameRule" = some (.ref CS)
structure Ctor (P : Program) (w : World) (K : PySem.W.Frag) (mg : Str → Option Value) (base : Heap) (C : Addr) (n : Nat) (ps : List Str) (sp : Sp) (f : Addr) (fd : FuncData) : Prop where
  M : Mk K C f
  ok : FnOk P w K mg base (L2.CX P w) n f fd ps sp
  bd : Binds K fd ps []
  T : RCls K C
theorem starTwo {K : PySem.W.Frag} {t : TGs} {σ : L2.St} {H : Hp} {Q : L2.St → Hp → Prop} {v1 v2 : V} {ys : List V} {a : Addr} (hq : SqL K H a (v1 :: v2 :: ys)) (few : ys.length ≤ 10000) (h : ∀ D, H D = none → t [v1, v2, .ref D] σ (upd H D (.lst ys)) Q) : gStar K 3 2 t (.ref a) σ H Q := by
  refine ⟨a, _, rfl, hq, by decide, by rw [List.length_cons, List.length_cons]; omega, by rw [List.length_cons, List.length_cons]; omega, fun D nD => ?_⟩
  have e1 : (List.drop 2 (v1 :: v2 :: ys)).take ((v1 :: v2 :: ys).length + 1 - 3) = ys := by
    show ys.take (ys.length + 1 + 1 + 1 - 3) = ys
    exact List.take_of_length_le (by omega)
  have e2 : (List.drop 2 (v1 :: v2 :: ys)).drop ((v1 :: v2 :: ys).length + 1 - 3) = [] := by
    show ys.drop (ys.length + 1 + 1 + 1 - 3) = []
    exact List.drop_eq_nil_of_le (by omega)
  rw [e1, e2]
  exact h D nD
section
variable {P : Program} {w : World} {K : PySem.W.Frag} {mg : Str → Option Value} {base : Heap} {C CI CP CR CC CS : Addr} {κ : Nat}
def RuleF (C : Addr) (H H' : Hp) (r : Addr) (κ : Nat) (st : List Nat) (need : Int) (ms : List Cnd) : Prop := ∃ dx l ks, H' r = some (.ins C dx (fvD κ st need l)) ∧ CndsAt H' l ks ∧ ks.map (·.2) = ms ∧ H r = none ∧ H l = none ∧ New H ks
def spRead (CR CC CS : Addr) : Sp := fun vs H Q _ => ∃ κ hue need cs, vs = [.str (S (lineT κ [hue] need cs))] ∧ GoodR κ hue cs need ∧ ∀ r st ms H', Same H H' → RuleF (clsOf CR CC CS κ) H H' r κ st need ms → Made κ hue st cs ms → Q (.ref r) H'
abbrev nRead : List Str := ["line", "words", "first", "second", "rest", "part", "word", "conditions"]
theorem scRead : FnScope nRead ["line"] (defScope gReadRule) := ⟨rfl, rfl, rfl, by decide +kernel, rfl, by decide +kernel, by decide +kernel⟩
theorem ok_read {f fD fI fP fC2 fR fC fS e : Addr} {fd dD dI dP dC2 dR dC dS ed : FuncData} (F : Fun K "read_rule" "read_rule" gReadRule f fd) (L : LTxt K mg) (W : WTx K mg) (T : PTxt K mg CP) (Gt : GTx mg CR CC CS) (Di : Cl P w K mg base CX0 1 "_is_digit" ["text"] spDigit fD dD) (Is : Cl P w K mg base CX0 1 "is_stone" ["sign"] spStone fI dI)
    (Rp : Cl P w K mg base (L2.CX P w) 3 "_read_place" ["word", "part"] (spReadP CI) fP dP) (Rc : Cl P w K mg base (L2.CX P w) 4 "_read_condition" ["word", "part"] (spReadC CI) fC2 dC2)
    (kR : Ctor P w K mg base CR 4 ["self", "stone", "conditions"] (spRuleInit CI K) fR dR) (kC : Ctor P w K mg base CC 5 ["self", "stone", "conditions", "need"] (spCountInit CI CC K) fC dC) (kS : Ctor P w K mg base CS 5 ["self", "places", "need"] (spSameInit CI CS K) fS dS)
    (Ex : EMk P w K mg base CI "InvalidRule" ["self", "part"] (spE1 CI "part") e ed) : FnOk P w K mg base CX0 7 f fd ["line"] (spRead CR CC CS) := by
  refine F.ok scRead (fun vs H Q E h => ?_) (fun cdv A outer s H vs Q E hr h => ?_)
  · obtain ⟨κ, hue, need, cs, rfl, _⟩ := h
    rfl
  · obtain ⟨κ, hue, need, cs, rfl, hG, k⟩ := h
    have hr1 : Room 1 _ := hr.mono (by decide)
    have hr2 : Room 2 _ := hr.mono (by decide)
    have hr3 : Room 3 _ := hr.mono (by decide)
    have hr4 : Room 4 _ := hr.mono (by decide)
    have hr5 : Room 5 _ := hr.mono (by decide)
    obtain ⟨uA, hA, rA⟩ := W.all
    obtain ⟨uS, hS, rS⟩ := W.same
    refine ⟨_, (pss_cons (ps_set (i := 1) scRead.nd rfl (.inl rfl) (pe_bm PySem.F.plainAttrs_str PySem.F.slot_str_split PySem.F.type_str_split mt_split (pv 0) (pa_cons pe_str pa_nil)))
      (pss_cons (ps_if (pt_cmpR op_lt (pe_callB call_len_seq (by rfl) L.len PySem.boot_len (pa_cons (pv 1) pa_nil)) pe_int (nomark _)) (pss_one (ps_raise rfl takes0 (pmk_oex Ex.T Ex.at_ Ex.ty Ex.ok hr2 Ex.bd .nil pass0 (by rfl) Ex.gl (pa_cons pe_int pa_nil)))) pss_nil)
      (pss_cons (ps_asg (pv 1) (pg_star (n := 3) (i := 2) rfl (pgs_cons (pg_name (i := 2) scRead.nd rfl (.inl rfl)) (pgs_cons (pg_name (i := 3) scRead.nd rfl (.inl rfl)) (pgs_star (pg_name (i := 4) scRead.nd rfl (.inl rfl)) pgs_nil)))))
      (pss_cons (ps_if (PW.pt (pw_and (pt_cmpR op_eq (pv 2) (pe_glob (by rfl) hS rS) (nomark _)) (pw_and1 (pt_val (pe_call Di.ok hr1 (by rfl) Di.gl Di.kp Di.bd .nil pass0 (pa_cons (pv 3) pa_nil)))))) (pss_one (ps_ret (pe_makeS (E := fun _ => E0) kS.M kS.ok hr (by rfl) Gt.gS kS.bd (fun σ pins H s e s' I c => passF pins σ H s e s' I c) (pa_cons (pe_lc (own := [("part", 5), ("word", 6)]) (g := (gTup K 2 (gCons (gName 5) (gCons (gName 6) gNil)))) (tt := tYes) (te := (tCallS (spReadP CI) (fun _ => E0) (tCons (tVar 6) (tCons (tVar 5) tNil)))) rfl scRead.nd (pi_enumS (by rfl) T.enum (pa_cons (pv 4) pa_nil) (pk_cons pe_int pk_nil)) (blkOk_by (own := [("part", 5), ("word", 6)]) (N := nRead) (sc := defScope gReadRule) (by decide +kernel)) (fun _ _ _ _ _ => (pg_tup rfl (pgs_cons (pg_name (i := 5) scRead.nd rfl (.inl rfl)) (pgs_cons (pg_name (i := 6) scRead.nd rfl (.inl rfl)) pgs_nil)))) (fun _ _ _ _ _ => pts_nil) (fun _ _ _ _ _ => (pe_callS (E := fun _ => E0) Rp.ok hr3 (by rfl) Rp.gl Rp.kp Rp.bd (fun σ pins H s e s' I c => passF pins σ H s e s' I c) (pa_cons (pv 6) (pa_cons (pv 5) pa_nil))))) (pa_cons (pe_callTy call_int_str (by rfl) L.int (by decide +kernel) (pa_cons (pv 3) pa_nil)) pa_nil))))) pss_nil)
      (pss_cons (ps_if (PW.pt (pw_or (pt_not (pt_val (pe_call Is.ok hr1 (by rfl) Is.gl Is.kp Is.bd .nil pass0 (pa_cons (pv 2) pa_nil)))) (pw_or1 (pt_not (PW.pt (pw_or (pt_cmpR op_eq (pv 3) (pe_glob (by rfl) hA rA) (nomark _)) (pw_or1 (pt_val (pe_call Di.ok hr1 (by rfl) Di.gl Di.kp Di.bd .nil pass0 (pa_cons (pv 3) pa_nil)))))))))) (pss_one (ps_raise rfl takes0 (pmk_oex Ex.T Ex.at_ Ex.ty Ex.ok hr2 Ex.bd .nil pass0 (by rfl) Ex.gl (pa_cons pe_int pa_nil)))) pss_nil)
      (pss_cons (ps_setLc (i := 7) (own := [("part", 5), ("word", 6)]) (g := (gTup K 2 (gCons (gName 5) (gCons (gName 6) gNil)))) (tt := tYes) (te := (tCallS (spReadC CI) (fun _ => E0) (tCons (tVar 6) (tCons (tVar 5) tNil)))) rfl scRead.nd rfl rfl (sw_true rfl rfl rfl (by decide +kernel)) (pi_enumS (by rfl) T.enum (pa_cons (pv 4) pa_nil) (pk_cons pe_int pk_nil)) (blkOk_by (own := [("part", 5), ("word", 6)]) (N := nRead) (sc := defScope gReadRule) (by decide +kernel)) (fun _ _ _ _ _ => (pg_tup rfl (pgs_cons (pg_name (i := 5) scRead.nd rfl (.inl rfl)) (pgs_cons (pg_name (i := 6) scRead.nd rfl (.inl rfl)) pgs_nil)))) (fun _ _ _ _ _ => pts_nil) (fun _ _ _ _ _ => (pe_callS (E := fun _ => E0) Rc.ok hr4 (by rfl) Rc.gl Rc.kp Rc.bd (fun σ pins H s e s' I c => passF pins σ H s e s' I c) (pa_cons (pv 6) (pa_cons (pv 5) pa_nil)))))
      (pss_cons (ps_if (pt_cmpR op_eq (pv 3) (pe_glob (by rfl) hA rA) (nomark _)) (pss_one (ps_ret (pe_makeS (E := fun _ => E0) kR.M kR.ok hr5 (by rfl) Gt.gR kR.bd (fun σ pins H s e s' I c => passF pins σ H s e s' I c) (pa_cons (pv 2) (pa_cons (pv 7) pa_nil))))) pss_nil)
      (pss_one (ps_ret (pe_makeS (E := fun _ => E0) kC.M kC.ok hr (by rfl) Gt.gC kC.bd (fun σ pins H s e s' I c => passF pins σ H s e s' I c) (pa_cons (pv 2) (pa_cons (pv 7) (pa_cons (pe_callTy call_int_str (by rfl) L.int (by decide +kernel) (pa_cons (pv 3) pa_nil)) pa_nil))))))))))))), ?_⟩
    have ll := line_len hG
    obtain ⟨ty, tn⟩ := hG.tiny
    have few := hG.few
    have k3 := hG.k3
    refine ⟨_, rfl, rfl, S (lineT κ [hue] need cs), S [32], rfl, by rw [← space_S], by decide +kernel, by rw [len_S, sizeLine_eq]; omega, fun a na => ?_⟩
    rw [split_line hG, words_is k3]
    have s1 := same_upd (o := .lst (((h1T κ hue :: h2T κ need :: tailT κ cs).map S).map V.str)) na
    have y1 : upd H a (.lst (((h1T κ hue :: h2T κ need :: tailT κ cs).map S).map V.str)) a = some (.lst (.str (S (h1T κ hue)) :: .str (S (h2T κ need)) :: txtV (tailT κ cs))) := upd_same
    generalize upd H a (.lst (((h1T κ hue :: h2T κ need :: tailT κ cs).map S).map V.str)) = H1 at s1 y1
    have lt : (tailT κ cs).length = cs.length := by
      unfold tailT
      split <;> rw [List.length_map]
    have l1 : (h1T κ hue).length ≤ 1000 := by
      unfold h1T
      split
      · show 4 ≤ 1000
        decide
      · show 1 ≤ 1000
        decide
    have l2 : (h2T κ need).length ≤ 1000 := by
      unfold h2T
      split
      · show 3 ≤ 1000
        decide
      · have := numT_len need
        omega
    refine ⟨_, rfl, a, _, rfl, .inl (SqL.of y1), _, _, rfl, rfl, _, rfl, iteFe (decide_eq_false (by rw [List.length_cons, List.length_cons]; omega)) ?_⟩
    refine ⟨_, rfl, starTwo (SqL.of y1) (by rw [txtV_len, lt]; omega) fun D nD => ?_⟩
    have s2 := s1.trans (same_upd (o := .lst (txtV (tailT κ cs))) nD)
    have y2 : upd H1 D (.lst (txtV (tailT κ cs))) D = some (.lst (txtV (tailT κ cs))) := upd_same
    generalize upd H1 D (.lst (txtV (tailT κ cs))) = H2 at s2 y2
    refine ⟨_, _, rfl, _, _, rfl, _, _, rfl, rfl, ?_⟩
    refine ⟨_, rfl, rfl, _, rfl, ?_⟩
    rw [h1_same]
    have n0 := hG.n0
    have n8 : need ≤ 8 := by
      have := hG.n1
      omega
    by_cases k2 : κ = 2
    · have et : tailT κ cs = cs.map fun c => pwT c.1 := by
        unfold tailT
        rw [if_pos k2]
      rw [et] at y2
      have kn : κ ≠ 0 := by omega
      refine iteTe (decide_eq_true k2) ⟨_, rfl, h2T κ need, rfl, l2, _, rfl, iteTe (by rw [h2_dig n0 n8]; exact decide_eq_true kn) ?_⟩
      refine ⟨_, rfl, D, _, rfl, rfl, SqL.of y2, fun B nB => lc_it walk_enS (fun i G => ∃ ns : List (Addr × (Int × Int)), Same H2 G ∧ G B = some (.lst (ns.map fun q => V.ref q.1)) ∧ (∀ q ∈ ns, G q.1 = some (PairO q.2)) ∧ ns.map (·.2) = (cs.take i).map fun c => c.1) ⟨[], same_upd nB, upd_same, (fun p hp => nomatch hp), rfl⟩ (fun i G _ ⟨ns, sm, _⟩ => SqL.of (sm _ _ y2)) ?_ ?_⟩
      · rintro i x G G' hi ⟨ns, sm, hD, hns, en⟩ ⟨T, y, rfl, nT, rfl, hy⟩
        obtain ⟨c, hc, rfl⟩ := txtV_at hy
        have mc := List.mem_of_getElem? hc
        obtain ⟨t1, t2, _, _⟩ := hG.each_tiny mc
        have li : i < cs.length := (List.getElem?_eq_some_iff.mp hc).1
        have sT := same_upd (o := .tup [.int ((i : Int) + 1), .str (S (pwT c.1))]) nT
        refine ⟨T, _, rfl, SqT.of upd_same, rfl, _, _, rfl, _, _, rfl, rfl, rfl, ?_⟩
        refine tyes (iteT ⟨_, rfl, _, rfl, pwT c.1, (i : Int) + 1, rfl, by have := pwT_len c.1; omega, fun e => ?_, fun p ep t G2 s2' nt ht => ?_⟩)
        · rw [readP_pw t1 t2] at e
          cases e
        · rw [readP_pw t1 t2] at ep
          cases ep
          have sA := sT.trans s2'
          obtain ⟨b1, b2, b3⟩ := listMore (O := PairO) (x := c.1) nB (sm.trans sA) (sA _ _ hD) (fun q m => sA _ _ (hns q m)) ht (fun _ _ e => by cases e)
          refine ⟨_, sA _ _ hD, ?_, ns ++ [(t, c.1)], b1, b2, b3, ?_⟩
          · have := congrArg List.length en
            rw [List.length_map, List.length_map, List.length_take] at this
            rw [List.length_map]
            exact small1000 (by omega)
          · rw [List.map_append, en, List.take_add_one, hc, List.map_append]
            rfl
      · rintro G ⟨ns, sm, hD, hns, en⟩
        rw [txtV_len, List.length_map, List.take_of_length_le (Nat.le_refl _)] at en
        obtain ⟨i1, i2⟩ := h2_int (κ := κ) tn kn
        have ln : ns.length = cs.length := by
          have := congrArg List.length en
          rwa [List.length_map, List.length_map] at this
        have ew : (ns.map fun q => wideC q.2) = cs.map fun c => wideC c.1 := by
          have := congrArg (List.map wideC) en
          rw [List.map_map, List.map_map] at this
          exact this
        refine ⟨_, rfl, _, need, rfl, i1, i2, fun r dx nx nd ne => ?_⟩
        refine ⟨r, dx, B, ns, need, rfl, upd_same, ⟨made_same nx nd _ _ hD, fun q m => made_same nx nd _ _ (hns q m)⟩, by omega, fun p e => (by rw [ew, hG.faultS] at e; cases e), fun _ H' l ms sb nl hr' hc' nw pm od => ⟨rfl, ?_⟩⟩
        rw [ew, List.map_map] at pm
        subst k2
        exact k r [] _ H' (s2.trans (sm.trans (made_but nx nd sb))) ⟨dx, l, ms, hr', hc', rfl, back (s2.trans sm) nx, back (s2.trans (sm.trans (made_same nx nd))) nl, fun q m => back (s2.trans (sm.trans (made_same nx nd))) (nw q m)⟩ ⟨od, .inr ⟨rfl, rfl, pm⟩⟩
    · have et : tailT κ cs = cs.map cwT := by
        unfold tailT
        rw [if_neg k2]
      have eh : h1T κ hue = [hue] := by
        unfold h1T
        rw [if_neg k2]
      rw [et] at y2
      rw [eh]
      have orv : (decide (κ = 0) || decide (κ ≠ 0)) = true := by
        by_cases h : κ = 0 <;> simp [h]
      refine iteFe (decide_eq_false k2) (iteF ?_)
      refine ⟨_, rfl, [hue], rfl, by show 1 ≤ 1000; decide, _, rfl, ?_⟩
      rw [stone_good hG.hue]
      refine iteF (tNotW (b := true) (fun Q' k' => tOrW (b := decide (κ = 0)) (c := decide (κ ≠ 0)) (fun Q2 k3 => ⟨_, rfl, rfl, _, rfl, by rw [h2_all]; exact k3⟩) (fun Q2 k3 => ⟨_, rfl, h2T κ need, rfl, l2, _, rfl, by rw [h2_dig n0 n8]; exact k3⟩) (by rw [orv]; exact k')) (iteF ?_))
      refine ⟨_, rfl, D, _, rfl, rfl, SqL.of y2, fun B nB => lc_it walk_enS (fun i G => ∃ ks : List (Addr × Cnd), Same H2 G ∧ G B = some (.lst (refC ks)) ∧ (∀ q ∈ ks, G q.1 = some (CondO q.2)) ∧ ks.map (·.2) = cs.take i) ⟨[], same_upd nB, upd_same, (fun p hp => nomatch hp), rfl⟩ (fun i G _ ⟨ns, sm, _⟩ => SqL.of (sm _ _ y2)) ?_ ?_⟩
      · rintro i x G G' hi ⟨ks, sm, hD, hns, en⟩ ⟨T, y, rfl, nT, rfl, hy⟩
        obtain ⟨c, hc, rfl⟩ := txtV_at hy
        have mc := List.mem_of_getElem? hc
        obtain ⟨t1, t2, ne2, l27⟩ := hG.each_tiny mc
        have li : i < cs.length := (List.getElem?_eq_some_iff.mp hc).1
        have sT := same_upd (o := .tup [.int ((i : Int) + 1), .str (S (cwT c))]) nT
        have lw : (cwT c).length ≤ 1000 := by
          have := pwT_len c.1
          unfold cwT
          rw [List.length_append, List.length_append]
          show (pwT c.1).length + 1 + c.2.length ≤ 1000
          omega
        refine ⟨T, _, rfl, SqT.of upd_same, rfl, _, _, rfl, _, _, rfl, rfl, rfl, ?_⟩
        refine tyes (iteT ⟨_, rfl, _, rfl, cwT c, (i : Int) + 1, rfl, lw, fun e => ?_, fun p ep t G2 s2' nt ht => ?_⟩)
        · rw [readC_cw t1 t2 ne2] at e
          cases e
        · rw [readC_cw t1 t2 ne2] at ep
          cases ep
          have sA := sT.trans s2'
          obtain ⟨b1, b2, b3⟩ := listMore (O := CondO) (x := c) nB (sm.trans sA) (sA _ _ hD) (fun q m => sA _ _ (hns q m)) ht (fun _ _ e => by cases e)
          refine ⟨_, sA _ _ hD, ?_, ks ++ [(t, c)], b1, b2, b3, ?_⟩
          · have := congrArg List.length en
            rw [List.length_map, List.length_take] at this
            rw [show (refC ks).length = ks.length from List.length_map _]
            exact small1000 (by omega)
          · rw [List.map_append, en, List.take_add_one, hc]
            rfl
      · rintro G ⟨ks, sm, hD, hns, en⟩
        rw [txtV_len, List.length_map, List.take_of_length_le (Nat.le_refl _)] at en
        have ln : ks.length = cs.length := by
          have := congrArg List.length en
          rwa [List.length_map] at this
        have each : ∀ q ∈ ks, q.2.2.length ≤ 1000 := fun q m => by
          obtain ⟨_, _, _, l27⟩ := hG.each_tiny (c := q.2) (by rw [← en]; exact List.mem_map.mpr ⟨q, m, rfl⟩)
          omega
        refine ⟨_, rfl, rfl, _, rfl, ?_⟩
        rw [h2_all]
        by_cases k0 : κ = 0
        · refine iteTe (decide_eq_true k0) ?_
          subst k0
          refine ⟨_, rfl, _, rfl, fun r dx nx nd ne => ?_⟩
          refine ⟨r, dx, CR, [hue], B, ks, rfl, kR.T, upd_same, ⟨made_same nx nd _ _ hD, fun p m => made_same nx nd _ _ (hns p m)⟩, by show 1 ≤ 1000; decide, by omega, each, fun p e => (by rw [en, hG.faultR] at e; cases e), fun _ H' l ms sb nl hr' hc' nw pm od => ⟨rfl, ?_⟩⟩
          rw [en] at pm
          exact k r [hue] _ H' (s2.trans (sm.trans (made_but nx nd sb))) ⟨dx, l, ms, hr', hc', rfl, back (s2.trans sm) nx, back (s2.trans (sm.trans (made_same nx nd))) nl, fun q m => back (s2.trans (sm.trans (made_same nx nd))) (nw q m)⟩ ⟨od, .inl ⟨by decide, rfl, pm⟩⟩
        · obtain ⟨i1, i2⟩ := h2_int (κ := κ) tn k0
          have k1 : κ = 1 := by omega
          refine iteFe (decide_eq_false k0) ?_
          refine ⟨_, rfl, _, rfl, _, rfl, _, need, rfl, i1, i2, fun r dx nx nd ne => ?_⟩
          refine ⟨r, dx, [hue], B, ks, need, rfl, upd_same, ⟨made_same nx nd _ _ hD, fun p m => made_same nx nd _ _ (hns p m)⟩, by show 1 ≤ 1000; decide, by omega, each, fun p e => (by rw [en, hG.faultC] at e; cases e), fun _ H' l ms sb nl hr' hc' nw pm od => ⟨rfl, ?_⟩⟩
          rw [en] at pm
          subst k1
          exact k r [hue] _ H' (s2.trans (sm.trans (made_but nx nd sb))) ⟨dx, l, ms, hr', hc', rfl, back (s2.trans sm) nx, back (s2.trans (sm.trans (made_same nx nd))) nl, fun q m => back (s2.trans (sm.trans (made_same nx nd))) (nw q m)⟩ ⟨od, .inl ⟨by decide, rfl, pm⟩⟩
end
end Pm
/-! ### an exception that leaves a list comprehension
The library's rule for comprehensions (HandS.Comp) lets no exception out: the end of its block is told for any environment with the block's locals.
Here the end is told for the block's own frame, and what the element lets out flies on in the def around. The steps follow the library's. -/
namespace Cmp
open PySem PySem.Spec PyProof.Rows L2
/-- the end of the block: fr is the frame that it runs in -/
def endOf (M : Model) (A : Around) (E : Value → Shared → Prop) (use : Option (Value → Sem Unit)) (Q : Value → Shared → Prop) (acc : Value) (C : Addr) (fr : Option Addr) : Result → Shared → Prop
  | .ok _, s' => match use with
    | none => ∃ m, s'.heap.Ns C m ∧ ∀ h', Heap.SameBut C s'.heap h' → Q acc { s' with heap := h' }
    | some u => wpAny M A (u acc) (fun _ s'' => ∃ m, s''.heap.Ns C m ∧ ∀ h', Heap.SameBut C s''.heap h' → Q .none { s'' with heap := h' }) E s'
  | .error x, s' => ∃ m, s'.heap.Ns C m ∧ ∀ h', Heap.SameBut C s'.heap h' → ∀ ce : Env, ce.frame = fr → wpAny M A (passOn "comprehension.variables-let-go" x ce : Sem Value) (fun _ _ => False) E { s' with heap := h' }
section
variable {M : Model} {A : Around} {E : Value → Shared → Prop} {s : Shared} {env : Env}
theorem comp_free {e : Expr} {scope : Scope} {pos : Pos} {newAcc first : Sem Value} {g : Comprehension} {gs : List Comprehension} {cl : List (Str × Addr)} {use : Option (Value → Sem Unit)} {Q : Value → Shared → Prop}
    (hcl : clausesOf e = g :: gs) (hs : ∀ x, foldedSetIterable g.iter env x = pure x) (hclos : closureFor scope env = pure cl)
    (hkind : scope.kind = .function) (hnames : ∀ x ∈ scope.names, x.2 = .local → scope.names.lookup x.1 = some .local)
    (h : wpAny M A first (fun x s₁ => wpAny M A (pyIter x) (fun it s₂ => wpAny M A newAcc (fun acc s₃ =>
      wpAny M A (newFunctionEnv scope env.globals cl [] env.qual none .none (some env)) (fun ce s₄ => ce.frame = env.frame ∧
        codeAny M A (.compStart e 0 it acc { ce with scope := relabel scope env }) (endOf M A E use Q acc ce.locals env.frame) s₄) E s₃) E s₂) E s₁) E s) :
    wpAny M A (comprehension e scope env pos newAcc false first use) Q E s := by
  unfold comprehension
  rw [hclos, hcl]
  refine wpAny_bind (wpAny_mono h (fun x s₁ h₁ => ?_) fun _ _ z => z)
  refine wpAny_bind (wpAny_standAt (wpAny_bind (wpAny_of_eq (hs x) (wpAny_bind (wpAny_holding (wpAny_mono h₁ (fun it s₂ h₂ => ?_) fun _ _ z => z))))))
  refine wpAny_standIf (wpAny_bind (wpAny_mono h₂ (fun acc s₃ h₃ => ?_) fun _ _ z => z))
  refine wpAny_bind (wpAny_pure (wpAny_bind (wpAny_mono h₃ (fun ce s₄ ⟨hf, h₄⟩ => ?_) fun _ _ z => z)))
  dsimp only
  have hv : ∀ x ∈ (scope.names.filter fun x => (x.2 == .local || x.2 == .cell) && x.1 != (".0" : Str)).reverse, x.2 = .local →
      Env.kindOf { ce with scope := relabel scope env } x.1 = some .local := fun x hx hl => lookup_relabel_local (hnames x (List.mem_filter.mp (List.mem_reverse.mp hx)).1 hl)
  have hv2 : ∀ x ∈ (scope.names.filter fun x => (x.2 == .local || x.2 == .cell) && x.1 != (".0" : Str)).reverse.drop 1 ++ (scope.names.filter fun x => (x.2 == .local || x.2 == .cell) && x.1 != (".0" : Str)).reverse.take 1, x.2 = .local →
      Env.kindOf { ce with scope := relabel scope env } x.1 = some .local := fun x hx hl => hv x ((List.mem_append.mp hx).elim List.mem_of_mem_drop List.mem_of_mem_take) hl
  refine wpAny_holding (wpAny_bind (wpAny_attempt (wpAny_holding (wpAny_run (codeAny_mono h₄ fun r s' hr => ?_)))))
  cases r with
  | ok f =>
    cases use with
    | none =>
      obtain ⟨m, hn, hr⟩ := hr
      exact wpAny_bind (wpAny_holding (wpAny_comp_letGo (cenv := { ce with scope := relabel scope env }) hkind _ s' m hv hn fun h' m' _ hs' => wpAny_pure (hr h' hs')))
    | some u =>
      refine wpAny_bind (wpAny_rule (wpAny_bind (wpAny_holding (wpAny_mono hr (fun _ s'' ⟨m, hn, hr'⟩ => ?_) fun _ _ z => z))))
      exact wpAny_bind (wpAny_comp_letGo (cenv := { ce with scope := relabel scope env }) hkind _ s'' m hv2 hn fun h' m' _ hs' => wpAny_pure (hr' h' hs'))
  | error x =>
    obtain ⟨m, hn, hr⟩ := hr
    exact wpAny_bind (wpAny_holding (wpAny_comp_letGo (cenv := { ce with scope := relabel scope env }) hkind _ s' m hv hn fun h' m' _ hs' => wpAny_mono (hr h' hs' _ hf) (fun _ _ f => f.elim) fun _ _ y => y))
end
theorem funFrames_at {B B' h h' : Heap} : ∀ {l : List Env}, h.FunFrames B l → (∀ L ∈ frs l, B'.get? L = none) → (∀ L ∈ frs l, h'.get? L = h.get? L) → h'.FunFrames B' l
  | [], _, _, _ => trivial
  | env :: l, f, hn, hk => by
    obtain ⟨k, ⟨L, o, hf, _, ho, hd⟩, hr⟩ := f
    have up : ∀ b ∈ frs l, b ∈ frs (env :: l) := fun b hb => by
      obtain ⟨e, he, q⟩ := List.mem_filterMap.mp hb
      exact List.mem_filterMap.mpr ⟨e, List.mem_cons_of_mem _ he, q⟩
    have here : L ∈ frs (env :: l) := List.mem_filterMap.mpr ⟨env, List.mem_cons_self, hf⟩
    exact ⟨k, ⟨L, o, hf, hn L here, (hk L here).trans ho, hd⟩, funFrames_at hr (fun b hb => hn b (up b hb)) fun b hb => hk b (up b hb)⟩
section
variable {X : Cx}
/-- the block's context, where what flies meets xe -/
abbrev blkE (X : Cx) (s : Shared) (H : Hp) (scope : Scope) (ce : Env) (fp : List Addr) (xe : Value → Shared → Prop) : Cx := (X.blk s H scope ce fp).wish xe
/-- what a callee in the block lets out leaves the def around -/
theorem blk_out {Eo : XK} {pins pins2 : List (Addr × Obj)} {σ σ2 : L2.St} {H3 Hc : Hp} {s3 sc s' : Shared} {scope : Scope} {ce : Env} {fp : List Addr} {acc u : Value} {use : Option (Value → Sem Unit)} {Q : Value → Shared → Prop}
    (hs : X.stack = X.env :: X.outer) (hf : X.env.frame = some X.env.locals) (tk : Takes X fun cls d _ H => Eo cls d H) (I3 : Inv X pins σ H3 s3) (f3 : ∀ b ∈ fp, FpOk X pins H3 b ∧ b < s3.heap.objs.size)
    (cL : ce.locals = s3.heap.objs.size) (cF : ce.frame = X.env.frame) (Ic : Inv (X.blk s3 H3 scope ce fp) pins2 σ2 Hc sc) (c : L2.CX X.prog X.w X.stack Hc sc Eo u s') :
    notedBy (model X.prog X.w) X.A ce (fun e s'' => endOf (model X.prog X.w) X.A X.xe use Q acc s3.heap.objs.size X.env.frame (.error e) s'') u s' := by
  obtain ⟨a, B, H', cls, d, rfl, fl, hok, ub, na, os, ag, hE⟩ := c
  have hfr : X.A.frames = some (X.env :: X.outer) := by rw [I3.ok.frames, hs]
  obtain ⟨G, g1, g2⟩ := restrict s'.heap fun b => (B.get? b).isSome || decide (b ∈ frs X.stack)
  have st : B.StaysIn s'.heap := fl.1
  have gB : ∀ b o, B.get? b = some o → G.get? b = some o := fun b o e => by
    rw [g1 b (by simp [e])]
    exact st b o e
  have gF : ∀ b, b ∈ frs X.stack → G.get? b = s'.heap.get? b := fun b hb => g1 b (by simp [hb])
  have og : ∀ b o, G.get? b = some o → s'.heap.get? b = some o ∧ ((B.get? b).isSome = true ∨ b ∈ frs X.stack) := fun b o e => by
    cases q : ((B.get? b).isSome || decide (b ∈ frs X.stack)) with
    | false => rw [g2 b q] at e; cases e
    | true =>
      rw [g1 b q] at e
      exact ⟨e, by simpa [Bool.or_eq_true] using q⟩
  have nb : ∀ b o, G.get? b = some o → b ∉ frs X.stack → B.get? b = some o := fun b o e hb => by
    obtain ⟨e', h⟩ := og b o e
    rcases h with h | h
    · obtain ⟨o', q⟩ := Option.isSome_iff_exists.mp h
      have z := st b o' q
      rw [e'] at z; cases z
      exact q
    · exact absurd h hb
  have IG : Inv (X.blk s3 H3 scope ce fp) pins2 σ2 H' { sc with heap := G, gens := s'.gens, drawn := s'.drawn, toks := s'.toks } := by
    refine Ic.call (ch := []) ⟨fun b o e n hb _ => gB b o (ub.keep b o e n hb), fun b o e n hb _ => ?_, fun b o e n _ => ub.free b o e n, fun b o e _ => ?_, ub.tups, ub.frzs, ub.tbls⟩ (hok.kept gB) ag (fun _ z => nomatch z)
    · obtain ⟨sl, q⟩ := ub.slot b o e hb
      exact ⟨sl, by rw [gF b hb]; exact q⟩
    · by_cases hb : b ∈ frs X.stack
      · obtain ⟨sl, q⟩ := ub.slot b o e hb
        exact ⟨_, by rw [gF b hb]; exact q⟩
      · obtain ⟨o', q⟩ := ub.there b o e hb
        exact ⟨o', gB b o' q⟩
  have upG : G.UpToSlots s'.heap := Heap.UpToSlots.of_keeps fun b o e => (og b o e).1
  unfold notedBy
  have en : noteFrame (.ref a) ce = noteFrame (.ref a) X.env := by
    unfold noteFrame PySem.frameOf
    rw [cF]
  rw [en]
  rw [hs] at fl
  refine HandSPX.looks_onZ Zc.steady hfr hf fl fun h3 hh3 up3 => ?_
  have J3 : Inv (X.blk s3 H3 scope ce fp) pins2 σ2 H' { s' with heap := h3 } := IG.landed nb hh3.1 (upG.trans up3) os ag
  have nC : H' s3.heap.objs.size = none := by
    have z : H' ce.locals = none := J3.free
    rwa [cL] at z
  obtain ⟨m, hn, _⟩ := J3.loc
  have hn : h3.Ns ce.locals m := hn
  rw [cL] at hn
  refine ⟨m, hn, fun h4 sb ce2 e2 => ?_⟩
  obtain ⟨k1, k2, k3, oe, vs, T, oT, ts, he, hz, hd, h1, hnT, hTe, hT, hdT, h3T⟩ := hh3
  obtain ⟨oC, esC, epC, hoC, hdC, _⟩ := hn
  generalize hCC : s3.heap.objs.size = C at *
  have aC : a ≠ C := fun z => by rw [z, hoC] at he; cases he; rw [hdC] at hd; cases hd
  have tC : T ≠ C := fun z => by rw [z, hoC] at hT; cases hT; rw [hdC] at hdT; cases hdT
  have he4 : h4.get? a = some oe := (sb.2 a aC).trans he
  have hT4 : h4.get? T = some oT := (sb.2 T tC).trans hT
  have fpC := I3.fpOk (b := C) (Nat.le_of_eq hCC) nC
  have frC : ∀ L ∈ frs X.stack, L ≠ C := fun L hL z => by
    rw [z] at hL
    rcases List.mem_cons.mp (I3.stkSub C hL) with q | q
    · exact fpC.2.1 q
    · exact fpC.2.2.1 q
  obtain ⟨B', b1, b2⟩ := restrict B fun b => b != C
  have bo : ∀ b o, B'.get? b = some o → B.get? b = some o ∧ b ≠ C := fun b o e => by
    cases q : (b != C) with
    | false => rw [b2 b q] at e; cases e
    | true =>
      rw [b1 b q] at e
      exact ⟨e, by simpa using q⟩
  have bn : ∀ b, B.get? b = none → B'.get? b = none := fun b e => by
    cases q : B'.get? b with
    | none => rfl
    | some o =>
      have := (bo b o q).1
      rw [e] at this
      cases this
  have FF : h4.FunFrames B' (X.env :: X.outer) := by
    refine funFrames_at k3 (fun L hL => bn L (k3.mem hL).1) fun L hL => sb.2 L (frC L (by rw [hs]; exact hL))
  have TZ : HandSPX.TracedZ h4 B' a (Zc cls d) (rawInt X.env.locals) := ⟨oe, vs, T, oT, ts, he4, hz, hd, h1, bn T hnT, hTe, hT4, hdT, h3T⟩
  have SB : B'.StaysIn h4 := fun b o e => by
    obtain ⟨q, n⟩ := bo b o e
    exact (sb.2 b n).trans (k1 b o q)
  obtain ⟨G2, d1, d2⟩ := restrict G fun b => b != C
  have do_ : ∀ b o, G2.get? b = some o → G.get? b = some o ∧ b ≠ C := fun b o e => by
    cases q : (b != C) with
    | false => rw [d2 b q] at e; cases e
    | true =>
      rw [d1 b q] at e
      exact ⟨e, by simpa using q⟩
  have IX : Inv X pins σ H' { sc with heap := G, gens := s'.gens, drawn := s'.drawn, toks := s'.toks } := I3.call' (ch := fp) IG.os IG.base IG.hok IG.bare fun b hb => ⟨(f3 b hb).1.2.2.2.1, (f3 b hb).1.2.1, (f3 b hb).1.2.2.2.2.1, (f3 b hb).1.2.2.2.2.2⟩
  obtain ⟨p0, p1, p2, p3, p4, p5⟩ := fpC
  have IX2 := IX.turned (t' := s'.toks) (h' := G2) (it := C) (fun b o hb e => by rw [d1 b (by simpa using hb)]; exact e) p0 p1 p3 p4 p5
  unfold PySem.passOn
  refine wpAny_bind (wpAny_field he4 hd h1 ?_)
  rw [if_neg (show ¬ ((Value.ref T == Value.none) = true) from by simp)]
  have fin : wpAny (model X.prog X.w) X.A (setFlight (.ref a) ce2.frame) (fun _ s4 => wpAny (model X.prog X.w) X.A (throw (.ref a) : Sem Value) (fun _ _ => False) X.xe s4) X.xe { s' with heap := h4 } := by
    rw [e2, hf]
    refine HandSPX.setFlight_anyZ (base := B') (l := X.env :: X.outer) SB FF TZ fun h5 q1 q2 q3 q4 => wpAny_throw (tk _ _ ?_)
    refine ⟨a, B', _, pins, σ, H', cls, d, rfl, IX2, fun b o e hb => ?_, fun b o e hnf => ?_, .inr (.inr (by rw [hs]; exact ⟨q1, bn a k2, q2, q3⟩)), na, os, ag, hE⟩
    · obtain ⟨q, n⟩ := do_ b o e
      rw [b1 b (by simpa using n)]
      exact nb b o q hb
    · obtain ⟨q, n⟩ := do_ b o e
      obtain ⟨sl, x1⟩ := (upG.trans up3) b o q hnf
      obtain ⟨sl2, x2⟩ := q4 b _ ((sb.2 b n).trans x1) hnf
      exact ⟨sl2, x2⟩
  first
    | exact wpAny_bind (wpAny_pure (wpAny_bind fin))
    | exact wpAny_bind fin
theorem lcX_core {pins : List (Addr × Obj)} {s : Shared} {σ : L2.St} {H : Hp} {Q : VK} {elt tg iter : Expr} {scope : Scope} {own : List (Str × Nat)} {pos pos2 : Pos} {wi : TI} {g : TG} {te : TE} {Eo : XK} {use : Option (Value → Sem Unit)} {Qf : Value → Shared → Prop} (I : Inv X pins σ H s) (hc : X.calm = true) (hN : X.N.Nodup) (hst : X.stack = X.env :: X.outer) (hfr : X.env.frame = some X.env.locals)
    (tk : Takes X fun cls d _ H => Eo cls d H) (hi : PI X tg iter wi) (ok : BlkOk X.N X.env.scope scope own)
    (hg : ∀ (s : Shared) (H : Hp) (C : Addr) (cl : List (Str × Addr)) (fp : List Addr), PG (X.blk s H scope (compEnvC scope cl C X.env) fp) tg g)
    (he : ∀ (s : Shared) (H : Hp) (C : Addr) (cl : List (Str × Addr)) (fp : List Addr) (xe : Value → Shared → Prop), (∀ σ, PassesAt (L2.CX X.prog X.w) (blkE X s H scope (compEnvC scope cl C X.env) fp xe) σ Eo) → PE (blkE X s H scope (compEnvC scope cl C X.env) fp xe) elt te)
    (hs : ∀ x, foldedSetIterable iter X.env x = pure x) (h : tLc wi g tYes te (own.map (·.2)) σ H Q)
    (hRR : ∀ D C s' m H', Inv X pins σ H' s' → Q (.ref D) H' → s'.heap.Ns C m → FpOk X pins H' C → endOf (model X.prog X.w) X.A X.xe use Qf (.ref D) C X.env.frame (.ok .next) s') :
    wpAny (model X.prog X.w) X.A (comprehension (.ListComp elt [⟨tg, iter, [], 0⟩] scope pos) scope X.env pos2 (newList []) false (eval iter X.env) use) Qf X.xe s := by
  have cells : ∀ y ∈ scope.names, y.2 = .free → ∃ c, X.env.cells.lookup y.1 = some c := fun y hy e => (ok.free y hy e).elim (fun k => I.ok.has _ (.inl k)) fun k => I.ok.has _ (.inr k)
  refine comp_free rfl hs (closure_ok cells) ok.kind (fun y hy e => by rw [ok.uniq y hy, e]) (thn (hi.run pins s σ H _ I h) fun xv s1 hx => thn hx fun itv s2 h2 => ?_)
  obtain ⟨it, fp, tn, J, H2, e, I2, T, st2, f2, q⟩ := h2
  subst e
  refine wpAny_newObj_type (newEnv_comp ?_) (by show 0 ≤ sizeLine; decide)
  refine ⟨rfl, ?_⟩
  generalize hD : s2.heap.objs.size = D
  have hDn : H2 D = none := I2.hok.fresh (Nat.le_of_eq hD)
  obtain ⟨W, ⟨m0, w0⟩, turn⟩ := q D hDn
  -- the list that is filled
  generalize hs3 : ({ s2 with heap := s2.heap.push { cls := .type "list", data := .seq ([] : List Value).toArray } } : Shared) = s3
  have h3 : s3.heap = s2.heap.push { cls := .type "list", data := .seq ([] : List Value).toArray } := by rw [← hs3]
  have I3 : Inv X pins σ (upd H2 D (.lst [])) s3 := by
    rw [← hs3]
    refine I2.laid (t' := s2.toks) (fun b o e => Heap.get?_push_of_some _ e) (Nat.le_of_eq hD) ⟨Nat.zero_le _, [], 0, .nil, ?_⟩
    rw [← hD]
    exact Heap.get?_push_size _ rfl
  have below : ∀ b ∈ fp, b < s2.heap.objs.size := fun b hb => let ⟨o, e, _⟩ := T.obj _ _ st2 b hb; Heap.lt_size e
  have f3 : ∀ b ∈ fp, FpOk X pins (upd H2 D (.lst [])) b ∧ b < s3.heap.objs.size := fun b hb => by
    refine ⟨⟨?_, (f2 b hb).2⟩, by rw [h3, Heap.size_push]; exact Nat.lt_succ_of_lt (below b hb)⟩
    rw [upd_ne (by rw [← hD]; exact Nat.ne_of_lt (below b hb))]
    exact (f2 b hb).1
  have st3 : tn 0 s3.heap := T.keep _ _ _ st2 fun b _ o e => by rw [h3]; exact Heap.get?_push_of_some _ e
  have I4 := block_start I3 ok hN f3
  have pg := hg s3 (upd H2 D (.lst [])) s3.heap.objs.size (cellsFrom (s3.heap.objs.size + 1) scope.names (cloFrom X.env.cells scope.names [])) fp
  have pe := he s3 (upd H2 D (.lst [])) s3.heap.objs.size (cellsFrom (s3.heap.objs.size + 1) scope.names (cloFrom X.env.cells scope.names [])) fp
  show codeAny _ _ (.compStart (.ListComp elt [⟨tg, iter, [], 0⟩] scope pos) 0 (.ref it) (.ref D) (compEnvC scope (cellsFrom (s3.heap.objs.size + 1) scope.names (cloFrom X.env.cells scope.names [])) s3.heap.objs.size X.env)) (endOf (model X.prog X.w) X.A X.xe use Qf (.ref D) s3.heap.objs.size X.env.frame) { s3 with heap := pushCells (s3.heap.push { cls := .type "dict", data := .dict #[] }) scope.names }
  have nfp : ∀ b ∈ fp, (upd H2 D (.lst [])) b = none := fun b hb => (f3 b hb).1.1
  generalize hce : compEnvC scope (cellsFrom (s3.heap.objs.size + 1) scope.names (cloFrom X.env.cells scope.names [])) s3.heap.objs.size X.env = ce at I4 pg pe ⊢
  have cL : ce.locals = s3.heap.objs.size := by subst hce; rfl
  have cF : ce.frame = X.env.frame := by subst hce; rfl
  generalize hH3 : upd H2 D (.lst []) = H3 at I3 I4 pg pe w0 nfp f3
  generalize hs4 : ({ s3 with heap := pushCells (s3.heap.push { cls := .type "dict", data := .dict #[] }) scope.names } : Shared) = s4 at I4 ⊢
  have st4 : tn 0 s4.heap := T.keep _ _ _ st3 fun b _ o e => by rw [← hs4]; exact pushCells_keeps _ _ _ _ (Heap.get?_push_of_some _ e)
  have out : ∀ {pins2 : List (Addr × Obj)} {σ2 : L2.St} {Hc : Hp} {sc s' : Shared} {u : Value}, Inv (X.blk s3 H3 scope ce fp) pins2 σ2 Hc sc → L2.CX X.prog X.w X.stack Hc sc Eo u s' → notedBy (model X.prog X.w) X.A ce (fun e s'' => endOf (model X.prog X.w) X.A X.xe use Qf (.ref D) s3.heap.objs.size X.env.frame (.error e) s'') u s' :=
    fun Ic c => blk_out hst hfr tk I3 f3 cL cF Ic c
  have pe1 := pe (notedBy (model X.prog X.w) X.A ce fun e s'' => endOf (model X.prog X.w) X.A X.xe use Qf (.ref D) s3.heap.objs.size X.env.frame (.error e) s'') fun σ2 pins2 Hc sc u s' Ic c => out Ic.unwish c
  have stat : ∀ {σ' : L2.St} {H' : Hp} {s' : Shared}, Inv (X.blk s3 H3 scope ce fp) [] σ' H' s' → (∀ b ∈ fp, H' b = none) → ∀ b ∈ fp, FpOk (X.blk s3 H3 scope ce fp) [] H' b := fun {σ' H' s'} I' hn b hb =>
    ⟨hn b hb, (I'.ok.exf b hb).1, I'.ok.exfs b hb, .inl hb, fun x c e => (I'.ok.exf b hb).2 x c e, fun p hp => absurd (show p ∈ ([] : List (Addr × Obj)) ++ [] from hp) (by simp)⟩
  have loop : codeAny (model X.prog X.w) X.A (.compLoop (.ListComp elt [⟨tg, iter, [], 0⟩] scope pos) 0 (.ref it) (.ref D) ce) (endOf (model X.prog X.w) X.A X.xe use Qf (.ref D) s3.heap.objs.size X.env.frame) s4 := by
    refine compLoop_any (fun n s' => ∃ i H', Inv (X.blk s3 H3 scope ce fp) [] (wipe σ (own.map (·.2))) H' s' ∧ tn i s'.heap ∧ (∀ b ∈ fp, H' b = none) ∧ W i n H') ?_ m0 ⟨0, H3, I4, st4, nfp, w0⟩
    rintro n s5 ⟨i, H5, I5, st5, n5, w5⟩
    rcases turn i n H5 w5 with ⟨stop, qq⟩ | ⟨go, Nx, hNx, step⟩
    · refine thnF (T.done (X.blk s3 H3 scope ce fp) rfl rfl rfl hc i [] s5 _ H5 (fun _ _ => False) I5 (stat I5 n5) st5 stop) fun r s6 ⟨hr, I6⟩ => ?_
      subst hr
      have I7 : Inv X pins σ H5 s6 := I3.call' (ch := fp) I6.os I6.base I6.hok I6.bare fun b hb => ⟨(f3 b hb).1.2.2.2.1, (f3 b hb).1.2.1, (f3 b hb).1.2.2.2.2.1, (f3 b hb).1.2.2.2.2.2⟩
      have nC : H5 s3.heap.objs.size = none := by
        have z : H5 ce.locals = none := I6.free
        rwa [cL] at z
      obtain ⟨m, hn, _⟩ := I6.loc
      have hn : s6.heap.Ns ce.locals m := hn
      rw [cL] at hn
      exact hRR D s3.heap.objs.size s6 m H5 I7 qq hn (I3.fpOk (Nat.le_refl _) nC)
    · refine thnF (T.item (X.blk s3 H3 scope ce fp) rfl rfl rfl hc i [] s5 _ H5 (fun _ _ => False) I5 (stat I5 n5) st5 go) fun r s6 ⟨u, hr, h6⟩ => ?_
      subst hr
      refine thnF h6 fun _ s7 ⟨x, H7, I7, r7, y7, st7, n7⟩ => ?_
      have I7' := I7.pinned (stat I7 n7) (T.obj _ _ st7)
      refine thnF (pg.run _ s7 _ H7 x u _ I7' r7 (step x H7 y7)) fun _ s8 ⟨σ8, H8, I8, hw8, q8⟩ => ?_
      refine wpAny_tests_nil ?_
      rw [if_pos rfl]
      have fin : ∀ {s' : Shared} {H' : Hp}, Inv (X.blk s3 H3 scope ce fp) ([] ++ pinsAt fp s7.heap) σ8 H' s' → Nx H' → ∃ m, m < n ∧ ∃ i H', Inv (X.blk s3 H3 scope ce fp) [] (wipe σ (own.map (·.2))) H' s' ∧ tn i s'.heap ∧ (∀ b ∈ fp, H' b = none) ∧ W i m H' := fun {s' H'} I' nx => by
        obtain ⟨m', hm, w'⟩ := hNx H' nx
        have pin' : ∀ b ∈ fp, ∀ o, s7.heap.get? b = some o → s'.heap.get? b = some o ∧ H' b = none := fun b hb o e =>
          let z := I'.pin (b, o) (List.mem_append_right _ (List.mem_append_right _ (mem_pinsAt hb e)))
          ⟨z.1, z.2.1⟩
        refine ⟨m', hm, i + 1, H', (I'.unpinned (pins := [])).weak (by rw [← hw8, wipe_length]) (fun j v e => ?_), T.keep _ _ _ st7 fun b hb o e => (pin' b hb o e).1, fun b hb => ?_, w'⟩
        · rw [← hw8] at e
          exact (wipe_some e).1
        · obtain ⟨o, e, _⟩ := T.obj _ _ st7 b hb
          exact (pin' b hb o e).2
      have q9 : te σ8 H8 fun y H4 => ∃ acc, H4 D = some (.lst acc) ∧ acc.length < sizeLine ∧ Nx (upd H4 D (.lst (acc ++ [y]))) := q8
      refine wpAny_mono (pe1.run _ s8 σ8 H8 _ (I8.wish _) q9) (fun z s10 ⟨yv, H10, I10, r10, acc, hD10, hz10, nx⟩ => ?_) fun _ _ z => z
      exact app_ok (X := X.blk s3 H3 scope ce fp) I10.unwish hD10 hz10 r10 fun s11 I11 => fin I11 nx
  exact codeAny_compStart_list loop (T.self X.A 0 _ _ _ st4 loop)
/-- [elt for tg in iter], where elt may let an exception out -/
theorem pe_lcX {elt tg iter : Expr} {scope : Scope} {own : List (Str × Nat)} {pos : Pos} {wi : TI} {g : TG} {te : TE} {Eo : XK} (hc : X.calm = true) (hN : X.N.Nodup) (hst : X.stack = X.env :: X.outer) (hfr : X.env.frame = some X.env.locals)
    (tk : Takes X fun cls d _ H => Eo cls d H) (hi : PI X tg iter wi) (ok : BlkOk X.N X.env.scope scope own)
    (hg : ∀ (s : Shared) (H : Hp) (C : Addr) (cl : List (Str × Addr)) (fp : List Addr), PG (X.blk s H scope (compEnvC scope cl C X.env) fp) tg g)
    (he : ∀ (s : Shared) (H : Hp) (C : Addr) (cl : List (Str × Addr)) (fp : List Addr) (xe : Value → Shared → Prop), (∀ σ, PassesAt (L2.CX X.prog X.w) (blkE X s H scope (compEnvC scope cl C X.env) fp xe) σ Eo) → PE (blkE X s H scope (compEnvC scope cl C X.env) fp xe) elt te)
    (hs : ∀ x, foldedSetIterable iter X.env x = pure x := by intro _; rfl) : PE X (.ListComp elt [⟨tg, iter, [], 0⟩] scope pos) (tLc wi g tYes te (own.map (·.2))) := by
  refine ⟨fun pins s σ H Q I h => ?_⟩
  rw [eval_ListComp]
  refine lcX_core I hc hN hst hfr tk hi ok hg he hs h fun D C s' m H' I' q hn f => ⟨m, hn, fun h'' sb => ?_⟩
  obtain ⟨p0, p1, p2, p3, p4, p5⟩ := f
  exact ⟨.ref D, H', I'.turned (t' := s'.toks) (fun b o hb e => (sb.2 b hb).trans e) p0 p1 p3 p4 p5, rfl, q⟩
/-- name = [..] on one line, the name a local -/
theorem ps_setLcX {i : Nat} {y : Str} {py : Pos} {elt tg iter : Expr} {scope : Scope} {own : List (Str × Nat)} {pos spos : Pos} {wi : TI} {g : TG} {te : TE} {Eo : XK} (hc : X.calm = true) (hN : X.N.Nodup) (hst : X.stack = X.env :: X.outer) (hfr : X.env.frame = some X.env.locals)
    (tk : Takes X fun cls d _ H => Eo cls d H) (hy : X.N[i]? = some y) (hyl : X.env.scope.names.lookup y = some .local) (hsw : swapsWith (.ListComp elt [⟨tg, iter, [], 0⟩] scope pos) (some (.Name y py)) spos.line X.env = pure true) (hi : PI X tg iter wi) (ok : BlkOk X.N X.env.scope scope own)
    (hg : ∀ (s : Shared) (H : Hp) (C : Addr) (cl : List (Str × Addr)) (fp : List Addr), PG (X.blk s H scope (compEnvC scope cl C X.env) fp) tg g)
    (he : ∀ (s : Shared) (H : Hp) (C : Addr) (cl : List (Str × Addr)) (fp : List Addr) (xe : Value → Shared → Prop), (∀ σ, PassesAt (L2.CX X.prog X.w) (blkE X s H scope (compEnvC scope cl C X.env) fp xe) σ Eo) → PE (blkE X s H scope (compEnvC scope cl C X.env) fp xe) elt te)
    (hs : ∀ x, foldedSetIterable iter X.env x = pure x := by intro _; rfl) : PS X (.Assign [.Name y py] (.ListComp elt [⟨tg, iter, [], 0⟩] scope pos) spos) (tAsg (tLc wi g tYes te (own.map (·.2))) (gName i)) := by
  refine ⟨fun pins s σ H D I h => ?_⟩
  rw [exec_Assign_Name_used _ _ _ _ hsw]
  refine wpAny_bind (wpAny_standAt (wpAny_bind ?_))
  show wpAny _ X.A (do let _ ← comprehension (.ListComp elt [⟨tg, iter, [], 0⟩] scope pos) scope X.env (firstIterPos [⟨tg, iter, [], 0⟩] pos) (newList []) false (eval iter X.env) (some (assign (.Name y py) X.env))) _ _ s
  have h : tLc wi g tYes te (own.map (·.2)) σ H (fun x H1 => gName i x σ H1 D.nx) := h
  refine wpAny_bind (wpAny_mono (lcX_core (Qf := fun _ s' => SP X pins D .next s') I hc hN hst hfr tk hi ok hg he hs h fun L C s' m H' I' q hn f => ?_) (fun _ s' hq => wpAny_pure (wpAny_pure hq)) fun _ _ z => z)
  show wpAny _ _ (assign (.Name y py) X.env (.ref L)) _ _ _
  refine wpAny_assign_Name (store_ok2 (v := V.ref L) I' hN hy (.inl hyl) rfl (fun s2 I2 ⟨b, sb, hb⟩ => ?_) (.inr hyl))
  obtain ⟨p0, p1, p2, p3, p4, p5⟩ := f
  have ne : C ≠ b := hb.elim (fun z => by rw [z]; exact p1) fun z e => p4 y b z e.symm
  exact ⟨m, hn.sameBut sb ne, fun h3 sb3 => ⟨_, H', I2.turned (t' := s2.toks) (fun b o hb e => (sb3.2 b hb).trans e) p0 p1 p3 p4 p5, q⟩⟩
end
end Cmp
/-! ### read_rule of any line -/
namespace Pm
open PySem PySem.Spec PyProof.Rows L2 SX NdefX
/-- the first word that names nothing, or what the words name -/
def readAll {α : Type} (f : List Nat → Option α) : Nat → List (List Nat) → Nat ⊕ List α
  | _, [] => .inr []
  | i, w :: ws => match f w with
    | none => .inl i
    | some a => match readAll f (i + 1) ws with
      | .inl j => .inl j
      | .inr as => .inr (a :: as)
theorem readAll_bad {α : Type} {f : List Nat → Option α} : ∀ {ws : List (List Nat)} {as : List α} {i k : Nat} {w : List Nat}, (ws.take i).map f = as.map some → ws[i]? = some w → f w = none → readAll f k ws = .inl (k + i)
  | [], _, _, _, _, _, h, _ => by simp at h
  | v :: ws, as, 0, k, w, _, h, e => by
    cases h
    unfold readAll
    rw [e]
    rfl
  | v :: ws, as, i + 1, k, w, ha, h, e => by
    cases as with
    | nil => cases ha
    | cons a as =>
      rw [List.take_succ_cons, List.map_cons, List.map_cons] at ha
      obtain ⟨h1, h2⟩ := List.cons.inj ha
      have ih := readAll_bad (k := k + 1) h2 (by simpa using h) e
      unfold readAll
      rw [h1]
      dsimp only
      rw [ih]
      dsimp only
      rw [show k + 1 + i = k + (i + 1) from by omega]
theorem readAll_good {α : Type} {f : List Nat → Option α} : ∀ {ws : List (List Nat)} {as : List α} {k : Nat}, ws.map f = as.map some → readAll f k ws = .inr as
  | [], [], _, _ => rfl
  | [], a :: as, _, h => nomatch h
  | v :: ws, [], _, h => nomatch h
  | v :: ws, a :: as, k, h => by
    obtain ⟨h1, h2⟩ := List.cons.inj h
    have ih := readAll_good (k := k + 1) h2
    unfold readAll
    rw [h1]
    dsimp only
    rw [ih]
/-- what a line is read to: the part that is wrong, or kind, stone, conditions, need -/
def readF (z : List Nat) : Nat ⊕ (Nat × List Nat × List Cnd × Int) := match TL.spl [32] 0 [] z with
  | w0 :: w1 :: rest =>
    if w0 = sameL ∧ digB w1 = true then
      match readAll readP 1 rest with
      | .inl i => .inl i
      | .inr ps => match faultS (ps.map wideC) (numV w1) with
        | some p => .inl p
        | none => .inr (2, [], ps.map (fun p => (p, [97])), numV w1)
    else if stoneB w0 = true ∧ (w1 = allL ∨ digB w1 = true) then
      match readAll readC 1 rest with
      | .inl i => .inl i
      | .inr cs => if w1 = allL then
          match faultR w0 cs with
          | some p => .inl p
          | none => .inr (0, w0, cs, (cs.length : Int))
        else match faultC w0 cs (numV w1) with
          | some p => .inl p
          | none => .inr (1, w0, cs, numV w1)
    else .inl 0
  | _ => .inl 0
theorem spl_len : ∀ (z acc : List Nat), (∀ w ∈ TL.spl [32] 0 acc z, w.length ≤ acc.length + z.length) ∧ (TL.spl [32] 0 acc z).length ≤ z.length + 1
  | [], acc => by
    rw [TL.spl_nil]
    exact ⟨fun w m => by rw [List.mem_singleton.mp m]; simp, Nat.le_refl _⟩
  | c :: r, acc => by
    by_cases h : TL.pre [32] (c :: r) = true
    · rw [TL.spl_hit h]
      obtain ⟨a, b⟩ := spl_len r []
      refine ⟨fun w m => ?_, ?_⟩
      · rcases List.mem_cons.mp m with rfl | m
        · simp
        · have := a w m
          rw [List.length_cons]
          simp at this
          omega
      · have hb : (TL.spl [32] 0 [] r).length ≤ r.length + 1 := b
        show (TL.spl [32] 0 [] r).length + 1 ≤ (r.length + 1) + 1
        omega
    · have e : TL.spl [32] 0 acc (c :: r) = TL.spl [32] 0 (acc ++ [c]) r := by
        show (if TL.pre [32] (c :: r) = true then _ else _) = _
        rw [if_neg h]
      rw [e]
      obtain ⟨a, b⟩ := spl_len r (acc ++ [c])
      refine ⟨fun w m => ?_, ?_⟩
      · have := a w m
        rw [List.length_append, List.length_singleton] at this
        rw [List.length_cons]
        omega
      · rw [List.length_cons]
        omega
theorem seqIfN {c : TT} {a r : TS} {D : Ends} {σ : L2.St} {G : Hp} {b : Bool} (hc : ∀ Q' : Bool → Hp → Prop, Q' b G → c σ G Q') (hT : b = true → a { D with nx := r D } σ G) (hF : b = false → r D σ G) : tSeq (tIfS c a tNext) r D σ G := by
  refine hc _ ?_
  cases b
  · exact iteF (hF rfl)
  · exact iteT (hT rfl)
theorem tAndW {t u : TT} {σ : L2.St} {G : Hp} {Q : Bool → Hp → Prop} {b c : Bool} (ht : ∀ Q' : Bool → Hp → Prop, Q' b G → t σ G Q') (hu : ∀ Q' : Bool → Hp → Prop, Q' c G → u σ G Q') (h : Q (b && c) G) : tAnd t u σ G Q := by
  refine ht _ ?_
  cases b
  · exact iteF h
  · exact iteT (hu _ h)
theorem dig_num {z : List Nat} (h : digB z = true) : intText? (S z) = some (numV z) ∧ (S z).length ≤ 640 := by
  obtain ⟨c, rfl, a, b⟩ := digB_is h
  have n : numB [c] = true := by
    have e : noMin [c] = [c] := by
      unfold noMin
      split
      · rename_i r y
        injection y with y1 y2
        omega
      · rfl
    unfold numB
    rw [e, h]
    have : ([c] : List Nat) ≠ [45, 48] := fun y => by cases y
    rw [decide_eq_false this]
    rfl
  obtain ⟨x, y⟩ := int_num n
  exact ⟨x, by rw [len_S]; omega⟩
theorem txtV_get {ws : List (List Nat)} {i : Nat} {x : V} (h : (txtV ws)[i]? = some x) : ∃ w, ws[i]? = some w ∧ x = .str (S w) := by
  have := txtV_at (f := fun w => w) (cs := ws) (i := i) (x := x) (by rw [show (ws.map fun w => w) = ws from List.map_id' ws]; exact h)
  exact this
/-- what readC gives is no longer than the word -/
theorem readC_len {z : List Nat} {c : Cnd} (h : readC z = some c) : c.2.length ≤ z.length := by
  unfold readC at h
  split at h
  · cases h
  · rw [Option.map_eq_some_iff] at h
    obtain ⟨p, _, rfl⟩ := h
    exact cutB_len 58 z
theorem Lets.up {E : XK} {C : Addr} {fs : List (Str × V)} {H G : Hp} (h : Lets E C fs H) (s : Same H G) : Lets E C fs G := fun d H' nd hd sg => h d H' (back s nd) hd (s.trans sg)
section
variable {P : Program} {w : World} {K : PySem.W.Frag} {mg : Str → Option Value} {base : Heap} {C CI CP CR CC CS : Addr} {κ : Nat}
def spReadX (CI CR CC CS : Addr) : Sp := fun vs H Q E => ∃ z, vs = [.str (S z)] ∧ z.length ≤ 900 ∧ (∀ p, readF z = .inl p → Lets E CI [("part", .int (p : Int))] H) ∧
  (∀ κ w0 need cs, readF z = .inr (κ, w0, cs, need) → ∀ r H' dx l ms, Same H H' → H' r = some (.ins (clsOf CR CC CS κ) dx (fvD κ w0 need l)) → CndsAt H' l ms → H r = none → H l = none → New H ms → (ms.map (·.2)).Perm (if κ = 2 then cs.map fun c => ascC (wideC c.1) else cs.map ascC) → Ord (ms.map (·.2)) → Q (.ref r) H')
theorem ok_readX {f fD fI fP fC2 fR fC fS e : Addr} {fd dD dI dP dC2 dR dC dS ed : FuncData} (F : Fun K "read_rule" "read_rule" gReadRule f fd) (L : LTxt K mg) (W : WTx K mg) (T : PTxt K mg CP) (Gt : GTx mg CR CC CS) (Di : Cl P w K mg base CX0 1 "_is_digit" ["text"] spDigit fD dD) (Is : Cl P w K mg base CX0 1 "is_stone" ["sign"] spStone fI dI)
    (Rp : Cl P w K mg base (L2.CX P w) 3 "_read_place" ["word", "part"] (spReadP CI) fP dP) (Rc : Cl P w K mg base (L2.CX P w) 4 "_read_condition" ["word", "part"] (spReadC CI) fC2 dC2)
    (kR : Ctor P w K mg base CR 4 ["self", "stone", "conditions"] (spRuleInit CI K) fR dR) (kC : Ctor P w K mg base CC 5 ["self", "stone", "conditions", "need"] (spCountInit CI CC K) fC dC) (kS : Ctor P w K mg base CS 5 ["self", "places", "need"] (spSameInit CI CS K) fS dS)
    (Ex : EMk P w K mg base CI "InvalidRule" ["self", "part"] (spE1 CI "part") e ed) : FnOk P w K mg base (L2.CX P w) 7 f fd ["line"] (spReadX CI CR CC CS) := by
  refine F.okX scRead (fun vs H Q E h => ?_) (fun cdv A outer s H vs Q E hr h => ?_)
  · obtain ⟨z, rfl, _⟩ := h
    rfl
  obtain ⟨z, rfl, lz, bad, k⟩ := h
  have hr1 : Room 1 _ := hr.mono (by decide)
  have hr2 : Room 2 _ := hr.mono (by decide)
  have hr3 : Room 3 _ := hr.mono (by decide)
  have hr4 : Room 4 _ := hr.mono (by decide)
  have hr5 : Room 5 _ := hr.mono (by decide)
  obtain ⟨uA, hA, rA⟩ := W.all
  obtain ⟨uS, hS, rS⟩ := W.same
  refine ⟨_, (pss_cons (ps_set (i := 1) scRead.nd rfl (.inl rfl) (pe_bm PySem.F.plainAttrs_str PySem.F.slot_str_split PySem.F.type_str_split mt_split (pv 0) (pa_cons pe_str pa_nil)))
    (pss_cons (ps_if (pt_cmpR op_lt (pe_callB call_len_seq (by rfl) L.len PySem.boot_len (pa_cons (pv 1) pa_nil)) pe_int (nomark _)) (pss_one (ps_raise rfl (takes_of rfl rfl rfl rfl) (pmk_oex Ex.T Ex.at_ Ex.ty Ex.ok hr2 Ex.bd .nil pass0 (by rfl) Ex.gl (pa_cons pe_int pa_nil)))) pss_nil)
    (pss_cons (ps_asg (pv 1) (pg_star (n := 3) (i := 2) rfl (pgs_cons (pg_name (i := 2) scRead.nd rfl (.inl rfl)) (pgs_cons (pg_name (i := 3) scRead.nd rfl (.inl rfl)) (pgs_star (pg_name (i := 4) scRead.nd rfl (.inl rfl)) pgs_nil)))))
    (pss_cons (ps_if (PW.pt (pw_and (pt_cmpR op_eq (pv 2) (pe_glob (by rfl) hS rS) (nomark _)) (pw_and1 (pt_val (pe_call Di.ok hr1 (by rfl) Di.gl Di.kp Di.bd .nil pass0 (pa_cons (pv 3) pa_nil)))))) (pss_one (ps_ret (pe_makeS (E := fun _ => E) kS.M kS.ok hr (by rfl) Gt.gS kS.bd (fun σ pins H s e s' I c => passes_call (takes_of rfl rfl rfl rfl) (fun _ _ _ _ z => z) pins σ H s e s' I c) (pa_cons (Cmp.pe_lcX (Eo := E) (own := [("part", 5), ("word", 6)]) (g := (gTup K 2 (gCons (gName 5) (gCons (gName 6) gNil)))) (te := (tCallS (spReadP CI) (fun _ => E) (tCons (tVar 6) (tCons (tVar 5) tNil)))) rfl scRead.nd rfl rfl (takes_of rfl rfl rfl rfl) (pi_enumS (by rfl) T.enum (pa_cons (pv 4) pa_nil) (pk_cons pe_int pk_nil)) (blkOk_by (own := [("part", 5), ("word", 6)]) (N := nRead) (sc := defScope gReadRule) (by decide +kernel)) (fun _ _ _ _ _ => (pg_tup rfl (pgs_cons (pg_name (i := 5) scRead.nd rfl (.inl rfl)) (pgs_cons (pg_name (i := 6) scRead.nd rfl (.inl rfl)) pgs_nil)))) (fun _ _ _ _ _ _ px => (pe_callS (E := fun _ => E) Rp.ok hr3 (by rfl) Rp.gl Rp.kp Rp.bd px (pa_cons (pv 6) (pa_cons (pv 5) pa_nil))))) (pa_cons (pe_callTy call_int_str (by rfl) L.int (by decide +kernel) (pa_cons (pv 3) pa_nil)) pa_nil))))) pss_nil)
    (pss_cons (ps_if (PW.pt (pw_or (pt_not (pt_val (pe_call Is.ok hr1 (by rfl) Is.gl Is.kp Is.bd .nil pass0 (pa_cons (pv 2) pa_nil)))) (pw_or1 (pt_not (PW.pt (pw_or (pt_cmpR op_eq (pv 3) (pe_glob (by rfl) hA rA) (nomark _)) (pw_or1 (pt_val (pe_call Di.ok hr1 (by rfl) Di.gl Di.kp Di.bd .nil pass0 (pa_cons (pv 3) pa_nil)))))))))) (pss_one (ps_raise rfl (takes_of rfl rfl rfl rfl) (pmk_oex Ex.T Ex.at_ Ex.ty Ex.ok hr2 Ex.bd .nil pass0 (by rfl) Ex.gl (pa_cons pe_int pa_nil)))) pss_nil)
    (pss_cons (Cmp.ps_setLcX (i := 7) (Eo := E) (own := [("part", 5), ("word", 6)]) (g := (gTup K 2 (gCons (gName 5) (gCons (gName 6) gNil)))) (te := (tCallS (spReadC CI) (fun _ => E) (tCons (tVar 6) (tCons (tVar 5) tNil)))) rfl scRead.nd rfl rfl (takes_of rfl rfl rfl rfl) rfl rfl (sw_true rfl rfl rfl (by decide +kernel)) (pi_enumS (by rfl) T.enum (pa_cons (pv 4) pa_nil) (pk_cons pe_int pk_nil)) (blkOk_by (own := [("part", 5), ("word", 6)]) (N := nRead) (sc := defScope gReadRule) (by decide +kernel)) (fun _ _ _ _ _ => (pg_tup rfl (pgs_cons (pg_name (i := 5) scRead.nd rfl (.inl rfl)) (pgs_cons (pg_name (i := 6) scRead.nd rfl (.inl rfl)) pgs_nil)))) (fun _ _ _ _ _ _ px => (pe_callS (E := fun _ => E) Rc.ok hr4 (by rfl) Rc.gl Rc.kp Rc.bd px (pa_cons (pv 6) (pa_cons (pv 5) pa_nil)))))
    (pss_cons (ps_if (pt_cmpR op_eq (pv 3) (pe_glob (by rfl) hA rA) (nomark _)) (pss_one (ps_ret (pe_makeS (E := fun _ => E) kR.M kR.ok hr5 (by rfl) Gt.gR kR.bd (fun σ pins H s e s' I c => passes_call (takes_of rfl rfl rfl rfl) (fun _ _ _ _ z => z) pins σ H s e s' I c) (pa_cons (pv 2) (pa_cons (pv 7) pa_nil))))) pss_nil)
    (pss_one (ps_ret (pe_makeS (E := fun _ => E) kC.M kC.ok hr (by rfl) Gt.gC kC.bd (fun σ pins H s e s' I c => passes_call (takes_of rfl rfl rfl rfl) (fun _ _ _ _ z => z) pins σ H s e s' I c) (pa_cons (pv 2) (pa_cons (pv 7) (pa_cons (pe_callTy call_int_str (by rfl) L.int (by decide +kernel) (pa_cons (pv 3) pa_nil)) pa_nil))))))))))))), ?_⟩
  refine ⟨_, rfl, rfl, S z, S [32], rfl, by rw [← space_S], by decide +kernel, by rw [len_S, sizeLine_eq]; omega, fun a na => ?_⟩
  rw [split_S (by decide) (by decide)]
  obtain ⟨sl1, sl2⟩ := spl_len z []
  have eF : readF z = match TL.spl [32] 0 [] z with
    | w0 :: w1 :: rest =>
      if w0 = sameL ∧ digB w1 = true then
        match readAll readP 1 rest with
        | .inl i => .inl i
        | .inr ps => match faultS (ps.map wideC) (numV w1) with
          | some p => .inl p
          | none => .inr (2, [], ps.map (fun p => (p, [97])), numV w1)
      else if stoneB w0 = true ∧ (w1 = allL ∨ digB w1 = true) then
        match readAll readC 1 rest with
        | .inl i => .inl i
        | .inr cs => if w1 = allL then
            match faultR w0 cs with
            | some p => .inl p
            | none => .inr (0, w0, cs, (cs.length : Int))
          else match faultC w0 cs (numV w1) with
            | some p => .inl p
            | none => .inr (1, w0, cs, numV w1)
      else .inl 0
    | _ => .inl 0 := rfl
  generalize TL.spl [32] 0 [] z = W at sl1 sl2 eF
  have s1 := same_upd (o := .lst ((W.map S).map V.str)) na
  have y1 : upd H a (.lst ((W.map S).map V.str)) a = some (.lst ((W.map S).map V.str)) := upd_same
  generalize upd H a (.lst ((W.map S).map V.str)) = H1 at s1 y1
  have zero : readF z = .inl 0 → ∀ G, Same H G → Lets E CI [("part", .int 0)] G := fun e G sG => (bad 0 e).up sG
  have lw : ((W.map S).map V.str).length = W.length := by rw [List.length_map, List.length_map]
  by_cases two : W.length < 2
  · refine ⟨_, rfl, a, _, rfl, .inl (SqL.of y1), _, _, rfl, rfl, _, rfl, iteTe (decide_eq_true (by rw [lw]; omega)) ?_⟩
    have e0 : readF z = .inl 0 := by
      rw [eF]
      match W, two with
      | [], _ => rfl
      | [_], _ => rfl
      | _ :: _ :: _, h => exact absurd h (by simp)
    refine ⟨by show 1 ≤ 1000; decide, fun x nx => ⟨x, _, rfl, upd_same, fun H2 d h1 h2 nd ne sb => ⟨rfl, d, _, h1, h2, ?_, ?_⟩⟩⟩
    · rwa [upd_ne ne] at nd
    · have nd1 : H1 d = none := by rwa [upd_ne ne] at nd
      exact zero e0 H1 s1 d _ nd1 upd_same (on_way nx nd ne sb)
  match W, two with
  | [], h => exact absurd (by show 0 < 2; decide) h
  | [_], h => exact absurd (by show 1 < 2; decide) h
  | w0 :: w1 :: rest, _ =>
  have y1 : H1 a = some (.lst (.str (S w0) :: .str (S w1) :: txtV rest)) := y1
  have l0 : w0.length ≤ 1000 := by
    have := sl1 w0 List.mem_cons_self
    simp at this
    omega
  have l1 : w1.length ≤ 1000 := by
    have := sl1 w1 (List.mem_cons_of_mem _ List.mem_cons_self)
    simp at this
    omega
  have lr : ∀ w ∈ rest, w.length ≤ 1000 := fun w m => by
    have := sl1 w (List.mem_cons_of_mem _ (List.mem_cons_of_mem _ m))
    simp at this
    omega
  have lrr : rest.length ≤ 900 := by
    rw [List.length_cons, List.length_cons] at sl2
    omega
  dsimp only at eF
  refine ⟨_, rfl, a, _, rfl, .inl (SqL.of y1), _, _, rfl, rfl, _, rfl, iteFe (decide_eq_false (by rw [List.length_cons, List.length_cons]; omega)) ?_⟩
  refine ⟨_, rfl, starTwo (SqL.of y1) (by rw [txtV_len]; omega) fun D nD => ?_⟩
  have s2 := s1.trans (same_upd (o := .lst (txtV rest)) nD)
  have y2 : upd H1 D (.lst (txtV rest)) D = some (.lst (txtV rest)) := upd_same
  generalize upd H1 D (.lst (txtV rest)) = H2 at s2 y2
  refine ⟨_, _, rfl, _, _, rfl, _, _, rfl, rfl, ?_⟩
  dsimp only
  refine seqIfN (b := decide (w0 = sameL) && digB w1) (fun _ q => tAndW (fun _ q1 => ⟨_, rfl, rfl, _, rfl, by rw [same_S, Tr.dec_tx]; exact q1⟩) (fun _ q1 => ⟨_, rfl, w1, rfl, l1, _, rfl, q1⟩) q) (fun e1 => ?_) (fun e1 => ?_)
  · rw [Bool.and_eq_true] at e1
    obtain ⟨c0, d1⟩ := e1
    have c0 := of_decide_eq_true c0
    obtain ⟨i1, i2⟩ := dig_num d1
    rw [if_pos ⟨c0, d1⟩] at eF
    refine ⟨_, rfl, D, _, rfl, rfl, SqL.of y2, fun B nB => lc_it walk_enS (fun i G => ∃ ns : List (Addr × (Int × Int)), Same H2 G ∧ G B = some (.lst (ns.map fun q => V.ref q.1)) ∧ (∀ q ∈ ns, G q.1 = some (PairO q.2)) ∧ (rest.take i).map readP = (ns.map (·.2)).map some) ⟨[], same_upd nB, upd_same, (fun p hp => nomatch hp), rfl⟩ (fun i G _ ⟨ns, sm, _⟩ => SqL.of (sm _ _ y2)) ?_ ?_⟩
    · rintro i x G G' hi ⟨ns, sm, hD, hns, en⟩ ⟨T, y, rfl, nT, rfl, hy⟩
      obtain ⟨wd, hw, rfl⟩ := txtV_get hy
      have li : i < rest.length := (List.getElem?_eq_some_iff.mp hw).1
      have sT := same_upd (o := .tup [.int ((i : Int) + 1), .str (S wd)]) nT
      refine ⟨T, _, rfl, SqT.of upd_same, rfl, _, _, rfl, _, _, rfl, rfl, rfl, ?_⟩
      refine tyes (iteT ⟨_, rfl, _, rfl, wd, (i : Int) + 1, rfl, lr wd (List.mem_of_getElem? hw), fun e => ?_, fun p ep t G2 s2' nt ht => ?_⟩)
      · have e5 : readF z = .inl (1 + i) := by rw [eF, readAll_bad en hw e]
        have q := (bad _ e5).up ((s2.trans sm).trans sT)
        rw [show (((1 + i : Nat)) : Int) = (i : Int) + 1 from by omega] at q
        exact q
      · have sA := sT.trans s2'
        obtain ⟨b1, b2, b3⟩ := listMore (O := PairO) (x := p) nB (sm.trans sA) (sA _ _ hD) (fun q m => sA _ _ (hns q m)) ht (fun _ _ e => by cases e)
        refine ⟨_, sA _ _ hD, ?_, ns ++ [(t, p)], b1, b2, b3, ?_⟩
        · have := congrArg List.length en
          rw [List.length_map, List.length_take, List.length_map, List.length_map] at this
          rw [List.length_map]
          exact small1000 (by omega)
        · rw [List.take_add_one, hw, List.map_append, en, List.map_append, List.map_append]
          show _ ++ [readP wd] = _
          rw [ep]
          rfl
    · rintro G ⟨ns, sm, hD, hns, en⟩
      rw [txtV_len, List.take_of_length_le (Nat.le_refl _)] at en
      have ln : ns.length = rest.length := by
        have := congrArg List.length en
        rw [List.length_map, List.length_map, List.length_map] at this
        exact this.symm
      rw [readAll_good en] at eF
      dsimp only at eF
      rw [List.map_map] at eF
      have eF : readF z = match faultS (ns.map fun q => wideC q.2) (numV w1) with
        | some p => .inl p
        | none => .inr (2, [], (ns.map (·.2)).map (fun p => (p, [97])), numV w1) := eF
      refine ⟨_, rfl, _, numV w1, rfl, i1, i2, fun r dx nx nd ne => ?_⟩
      refine ⟨r, dx, B, ns, numV w1, rfl, upd_same, ⟨made_same nx nd _ _ hD, fun q m => made_same nx nd _ _ (hns q m)⟩, by omega, fun p e => ?_, fun e H' l ms sb nl hr' hc' nw pm od => ⟨rfl, ?_⟩⟩
      · rw [e] at eF
        exact fun d H' nd2 hd sb => bad p eF d H' (back ((s2.trans sm).trans (made_same nx nd)) nd2) hd (s2.trans (sm.trans (made_but nx nd sb)))
      · rw [e] at eF
        refine k 2 [] _ _ eF r H' dx l ms (s2.trans (sm.trans (made_but nx nd sb))) hr' hc' (back (s2.trans sm) nx) (back (s2.trans (sm.trans (made_same nx nd))) nl) (fun q m => back (s2.trans (sm.trans (made_same nx nd))) (nw q m)) ?_ od
        rw [if_pos rfl, List.map_map, List.map_map]
        rw [List.map_map] at pm
        exact pm
  · have cn : ¬ (w0 = sameL ∧ digB w1 = true) := fun ⟨x, y⟩ => by
      rw [decide_eq_true x, y] at e1
      cases e1
    rw [if_neg cn] at eF
    refine seqIfN (b := !stoneB w0 || !(decide (w1 = allL) || digB w1)) (fun _ q => tOrW (fun _ q1 => tNotW (b := stoneB w0) (fun Q' k' => ⟨_, rfl, w0, rfl, l0, _, rfl, k'⟩) q1) (fun _ q1 => tNotW (b := decide (w1 = allL) || digB w1) (fun Q' k' => tOrW (fun Q2 k3 => ⟨_, rfl, rfl, _, rfl, by rw [all_S, Tr.dec_tx]; exact k3⟩) (fun Q2 k3 => ⟨_, rfl, w1, rfl, l1, _, rfl, k3⟩) k') q1) q) (fun e2 => ?_) (fun e2 => ?_)
    · have np : ¬ (stoneB w0 = true ∧ (w1 = allL ∨ digB w1 = true)) := fun ⟨x, y⟩ => by
        rw [x] at e2
        rcases y with y | y
        · rw [decide_eq_true y] at e2
          cases e2
        · rw [y, Bool.or_true] at e2
          cases e2
      have e0 : readF z = .inl 0 := by rw [eF, if_neg np]
      refine ⟨by show 1 ≤ 1000; decide, fun x nx => ⟨x, _, rfl, upd_same, fun H3 d h1 h2 nd ne sb => ⟨rfl, d, _, h1, h2, ?_, ?_⟩⟩⟩
      · rwa [upd_ne ne] at nd
      · have nd1 : H2 d = none := by rwa [upd_ne ne] at nd
        exact zero e0 H2 s2 d _ nd1 upd_same (on_way nx nd ne sb)
    have cy : stoneB w0 = true ∧ (w1 = allL ∨ digB w1 = true) := by
      cases x : stoneB w0 with
      | false => rw [x] at e2; cases e2
      | true =>
        refine ⟨rfl, ?_⟩
        by_cases y : w1 = allL
        · exact .inl y
        · rw [x, decide_eq_false y] at e2
          cases v : digB w1 with
          | false => rw [v] at e2; cases e2
          | true => exact .inr rfl
    rw [if_pos cy] at eF
    refine ⟨_, rfl, D, _, rfl, rfl, SqL.of y2, fun B nB => lc_it walk_enS (fun i G => ∃ ks : List (Addr × Cnd), Same H2 G ∧ G B = some (.lst (refC ks)) ∧ (∀ q ∈ ks, G q.1 = some (CondO q.2)) ∧ (rest.take i).map readC = (ks.map (·.2)).map some) ⟨[], same_upd nB, upd_same, (fun p hp => nomatch hp), rfl⟩ (fun i G _ ⟨ns, sm, _⟩ => SqL.of (sm _ _ y2)) ?_ ?_⟩
    · rintro i x G G' hi ⟨ks, sm, hD, hns, en⟩ ⟨T, y, rfl, nT, rfl, hy⟩
      obtain ⟨wd, hw, rfl⟩ := txtV_get hy
      have li : i < rest.length := (List.getElem?_eq_some_iff.mp hw).1
      have sT := same_upd (o := .tup [.int ((i : Int) + 1), .str (S wd)]) nT
      refine ⟨T, _, rfl, SqT.of upd_same, rfl, _, _, rfl, _, _, rfl, rfl, rfl, ?_⟩
      refine tyes (iteT ⟨_, rfl, _, rfl, wd, (i : Int) + 1, rfl, lr wd (List.mem_of_getElem? hw), fun e => ?_, fun p ep t G2 s2' nt ht => ?_⟩)
      · have e5 : readF z = .inl (1 + i) := by rw [eF, readAll_bad en hw e]
        have q := (bad _ e5).up ((s2.trans sm).trans sT)
        rw [show (((1 + i : Nat)) : Int) = (i : Int) + 1 from by omega] at q
        exact q
      · have sA := sT.trans s2'
        obtain ⟨b1, b2, b3⟩ := listMore (O := CondO) (x := p) nB (sm.trans sA) (sA _ _ hD) (fun q m => sA _ _ (hns q m)) ht (fun _ _ e => by cases e)
        refine ⟨_, sA _ _ hD, ?_, ks ++ [(t, p)], b1, b2, b3, ?_⟩
        · have := congrArg List.length en
          rw [List.length_map, List.length_take, List.length_map, List.length_map] at this
          rw [show (refC ks).length = ks.length from List.length_map _]
          exact small1000 (by omega)
        · rw [List.take_add_one, hw, List.map_append, en, List.map_append, List.map_append]
          show _ ++ [readC wd] = _
          rw [ep]
          rfl
    rintro G ⟨ks, sm, hD, hns, en⟩
    rw [txtV_len, List.take_of_length_le (Nat.le_refl _)] at en
    have ln : ks.length = rest.length := by
      have := congrArg List.length en
      rw [List.length_map, List.length_map, List.length_map] at this
      exact this.symm
    have each : ∀ q ∈ ks, q.2.2.length ≤ 1000 := fun q m => by
      have m1 : some q.2 ∈ rest.map readC := by
        rw [en]
        exact List.mem_map.mpr ⟨q.2, List.mem_map.mpr ⟨q, m, rfl⟩, rfl⟩
      obtain ⟨wd, mw, ew⟩ := List.mem_map.mp m1
      exact Nat.le_trans (readC_len ew) (lr wd mw)
    rw [readAll_good en] at eF
    dsimp only at eF
    refine ⟨_, rfl, rfl, _, rfl, ?_⟩
    rw [all_S, Tr.dec_tx]
    by_cases a1 : w1 = allL
    · rw [if_pos a1] at eF
      refine iteTe (decide_eq_true a1) ⟨_, rfl, _, rfl, fun r dx nx nd ne => ?_⟩
      refine ⟨r, dx, CR, w0, B, ks, rfl, kR.T, upd_same, ⟨made_same nx nd _ _ hD, fun p m => made_same nx nd _ _ (hns p m)⟩, l0, by omega, each, fun p e => ?_, fun e H' l ms sb nl hr' hc' nw pm od => ⟨rfl, ?_⟩⟩
      · rw [e] at eF
        exact fun d H' nd2 hd sb => bad p eF d H' (back ((s2.trans sm).trans (made_same nx nd)) nd2) hd (s2.trans (sm.trans (made_but nx nd sb)))
      · rw [e] at eF
        refine k 0 w0 _ _ eF r H' dx l ms (s2.trans (sm.trans (made_but nx nd sb))) hr' hc' (back (s2.trans sm) nx) (back (s2.trans (sm.trans (made_same nx nd))) nl) (fun q m => back (s2.trans (sm.trans (made_same nx nd))) (nw q m)) ?_ od
        rw [if_neg (by decide)]
        exact pm
    · have d1 : digB w1 = true := cy.2.elim (fun y => absurd y a1) id
      obtain ⟨i1, i2⟩ := dig_num d1
      rw [if_neg a1] at eF
      refine iteFe (decide_eq_false a1) ⟨_, rfl, _, rfl, _, rfl, _, numV w1, rfl, i1, i2, fun r dx nx nd ne => ?_⟩
      refine ⟨r, dx, w0, B, ks, numV w1, rfl, upd_same, ⟨made_same nx nd _ _ hD, fun p m => made_same nx nd _ _ (hns p m)⟩, l0, by omega, each, fun p e => ?_, fun e H' l ms sb nl hr' hc' nw pm od => ⟨rfl, ?_⟩⟩
      · rw [e] at eF
        exact fun d H' nd2 hd sb => bad p eF d H' (back ((s2.trans sm).trans (made_same nx nd)) nd2) hd (s2.trans (sm.trans (made_but nx nd sb)))
      · rw [e] at eF
        refine k 1 w0 _ _ eF r H' dx l ms (s2.trans (sm.trans (made_but nx nd sb))) hr' hc' (back (s2.trans sm) nx) (back (s2.trans (sm.trans (made_same nx nd))) nl) (fun q m => back (s2.trans (sm.trans (made_same nx nd))) (nw q m)) ?_ od
        rw [if_neg (by decide)]
        exact pm
end
end Pm
/-! ### C(e, ..) outside of any suite: the error has no context -/
namespace Cmp
open PySem PySem.Spec PyProof.Rows L2
theorem pmkN {X : Cx} {CX : CXT} {x : Str} {e : Expr} {es : List Expr} {ta : TA} {p pos : Pos} {C f : Addr} {k : Nat} {fd : FuncData} {ps : List Str} {sp : Sp} (T : OexC X.K C) (iC : PySem.W.findIn X.K (.ref C) "__init__" = some (some (.ref f))) (tI : PySem.W.typeIn X.K (.ref f) = some (.type "function"))
    (O : FnOk X.prog X.w X.K X.mg X.base CX k f fd ps sp) (room : Room (k + 1) X.A) (bd : Binds X.K fd ps []) (out : Passes CX X (fun _ _ _ => False)) (gx : Gl X x) (mx : X.mg x = some (.ref C)) (ha : PA X (e :: es) ta)
    (dbg : (x == ("__debug__" : Str)) = false := by decide) (st : starEach (e :: es) X.env = (false, eval e X.env) :: starEach es X.env := by rfl) (pl : (backTo pos (starEach es X.env)).any (·.1) = false := by rfl) :
    L2N.PMk X (.Call (.Name x p) (e :: es) [] pos) (tMkO C sp [] ta) := by
  intro pins s σ H Q I asked
  obtain ⟨nm, q, N, bs, bm, sn, sub, ab, col, dd, k0, k1, k2, k3, k5, own, own2⟩ := T.cls
  refine wpAny_Call_Name_kw (ld_glob I gx mx ?_ dbg)
  refine PySem.W.callWith_K (h₀ := X.base) I.ok.mod.kin T.kC (thn (ha.run pos pins s σ H _ I asked) fun us s1 ⟨vs, H1, I1, rv, few, q1⟩ => ⟨I1.kIn, ?_⟩) st pl
  obtain ⟨h1, g, dr, tk, os⟩ := s1
  have two : h1.objs.size ≤ h1.objs.size + 1 := Nat.le_succ _
  have wish := q1 (h1.objs.size + 1) (I1.hok.fresh two)
  rw [List.append_nil] at wish
  have keep : ∀ b o, h1.get? b = some o → ((h1.push (PySem.W.kdv_tup us)).push (PySem.HandSPX.excO C h1.objs.size)).get? b = some o := fun b o z => Heap.get?_push_of_some _ (Heap.get?_push_of_some _ z)
  have there : ((h1.push (PySem.W.kdv_tup us)).push (PySem.HandSPX.excO C h1.objs.size)).get? (h1.objs.size + 1) = some (PySem.HandSPX.excO C h1.objs.size) := by heap_get
  have I2 : Inv X pins σ (upd H1 (h1.objs.size + 1) (exo (h1.objs.size + 1) C none)) ⟨(h1.push (PySem.W.kdv_tup us)).push (PySem.HandSPX.excO C h1.objs.size), g, dr, tk, os⟩ := I1.laid (t' := tk) keep two (exo_ok there)
  have rv2 : Vals (V.ref (h1.objs.size + 1) :: vs) (Value.ref (h1.objs.size + 1) :: us) := .cons rfl rv
  have len : (Value.ref (h1.objs.size + 1) :: us ++ []).length = ps.length := by
    rw [List.append_nil, ← O.len _ _ _ _ wish]
    exact rv2.length.symm
  have b2 := bd _ (Value.ref (h1.objs.size + 1) :: us) I2.kIn len
  rw [List.append_nil] at b2
  have small : us.length ≤ sizeLine := by
    rw [← Paired.length rv, sizeLine_eq]
    omega
  have ran := O.run _ X.stack _ _ ⟨Value.ref (h1.objs.size + 1) :: us, []⟩ (Value.ref (h1.objs.size + 1) :: us) _ _ (fun _ _ _ => False) (room.make C us []) (I2.env0.make C us []) b2 rv2 wish
  refine wpAny_call (PySem.HandSPX.call_own F.excBase_ValueError (fun Y => PySem.HandSPX.refsVE_contains Y bm own2) (I1.kIn _ _ own) (PySem.W.looks_findIn I1.kIn iC) (fun self => PySem.W.bind_fn I1.kIn self tI) small (codeAny_mono ran fun r s' z => ?_))
  cases r with
  | error er => exact out pins σ _ _ er s' I2 z
  | ok fl =>
    cases fl with
    | ret u =>
      obtain ⟨v, H2, os2, bare2, un2, hok2, ru, ev, d, fs, ea, ed, hd1, q2⟩ := z
      subst ev
      obtain ⟨h2, g2, d2, t2, os'⟩ := s'
      obtain ⟨t0, G, J, kG, ge, hoe, na⟩ := mk_end0 (d2 := d2) (t2 := t2) I1 two keep un2 hok2 os2 bare2 ea ed hd1
      refine ⟨ru, h1.objs.size + 1, _, _, ⟨G, g2, d2, t2, os'⟩, _, .ref C, some d, rfl, J, kG, ge, hoe, ⟨rfl, rfl, fun vs hv => ?_⟩, rfl, rfl, na, rfl, bare2, raises_own T.exC T.tyC, q2⟩
      cases hv
      rfl
    | next => exact z.elim
    | brk => exact z.elim
    | cont => exact z.elim
end Cmp
/-! ### the same for errors without context -/
namespace CmpN
open PySem PySem.Spec PyProof.Rows L2 Cmp
section
variable {X : Cx}
/-- what a callee in the block lets out leaves the def around -/
theorem blk_out {Eo : XK} {pins pins2 : List (Addr × Obj)} {σ σ2 : L2.St} {H3 Hc : Hp} {s3 sc s' : Shared} {scope : Scope} {ce : Env} {fp : List Addr} {acc u : Value} {use : Option (Value → Sem Unit)} {Q : Value → Shared → Prop}
    (hs : X.stack = X.env :: X.outer) (hf : X.env.frame = some X.env.locals) (tk : L2N.Takes X fun cls d _ H => Eo cls d H) (I3 : Inv X pins σ H3 s3) (f3 : ∀ b ∈ fp, FpOk X pins H3 b ∧ b < s3.heap.objs.size)
    (cL : ce.locals = s3.heap.objs.size) (cF : ce.frame = X.env.frame) (Ic : Inv (X.blk s3 H3 scope ce fp) pins2 σ2 Hc sc) (c : L2N.CX X.prog X.w X.stack Hc sc Eo u s') :
    notedBy (model X.prog X.w) X.A ce (fun e s'' => endOf (model X.prog X.w) X.A X.xe use Q acc s3.heap.objs.size X.env.frame (.error e) s'') u s' := by
  obtain ⟨a, B, H', cls, d, rfl, fl, hok, ub, na, os, ag, hE⟩ := c
  have hfr : X.A.frames = some (X.env :: X.outer) := by rw [I3.ok.frames, hs]
  obtain ⟨G, g1, g2⟩ := restrict s'.heap fun b => (B.get? b).isSome || decide (b ∈ frs X.stack)
  have st : B.StaysIn s'.heap := fl.1
  have gB : ∀ b o, B.get? b = some o → G.get? b = some o := fun b o e => by
    rw [g1 b (by simp [e])]
    exact st b o e
  have gF : ∀ b, b ∈ frs X.stack → G.get? b = s'.heap.get? b := fun b hb => g1 b (by simp [hb])
  have og : ∀ b o, G.get? b = some o → s'.heap.get? b = some o ∧ ((B.get? b).isSome = true ∨ b ∈ frs X.stack) := fun b o e => by
    cases q : ((B.get? b).isSome || decide (b ∈ frs X.stack)) with
    | false => rw [g2 b q] at e; cases e
    | true =>
      rw [g1 b q] at e
      exact ⟨e, by simpa [Bool.or_eq_true] using q⟩
  have nb : ∀ b o, G.get? b = some o → b ∉ frs X.stack → B.get? b = some o := fun b o e hb => by
    obtain ⟨e', h⟩ := og b o e
    rcases h with h | h
    · obtain ⟨o', q⟩ := Option.isSome_iff_exists.mp h
      have z := st b o' q
      rw [e'] at z; cases z
      exact q
    · exact absurd h hb
  have IG : Inv (X.blk s3 H3 scope ce fp) pins2 σ2 H' { sc with heap := G, gens := s'.gens, drawn := s'.drawn, toks := s'.toks } := by
    refine Ic.call (ch := []) ⟨fun b o e n hb _ => gB b o (ub.keep b o e n hb), fun b o e n hb _ => ?_, fun b o e n _ => ub.free b o e n, fun b o e _ => ?_, ub.tups, ub.frzs, ub.tbls⟩ (hok.kept gB) ag (fun _ z => nomatch z)
    · obtain ⟨sl, q⟩ := ub.slot b o e hb
      exact ⟨sl, by rw [gF b hb]; exact q⟩
    · by_cases hb : b ∈ frs X.stack
      · obtain ⟨sl, q⟩ := ub.slot b o e hb
        exact ⟨_, by rw [gF b hb]; exact q⟩
      · obtain ⟨o', q⟩ := ub.there b o e hb
        exact ⟨o', gB b o' q⟩
  have upG : G.UpToSlots s'.heap := Heap.UpToSlots.of_keeps fun b o e => (og b o e).1
  unfold notedBy
  have en : noteFrame (.ref a) ce = noteFrame (.ref a) X.env := by
    unfold noteFrame PySem.frameOf
    rw [cF]
  rw [en]
  rw [hs] at fl
  refine PXN.looks_onZ L2N.Zn.steady hfr hf fl fun h3 hh3 up3 => ?_
  have J3 : Inv (X.blk s3 H3 scope ce fp) pins2 σ2 H' { s' with heap := h3 } := IG.landed nb hh3.1 (upG.trans up3) os ag
  have nC : H' s3.heap.objs.size = none := by
    have z : H' ce.locals = none := J3.free
    rwa [cL] at z
  obtain ⟨m, hn, _⟩ := J3.loc
  have hn : h3.Ns ce.locals m := hn
  rw [cL] at hn
  refine ⟨m, hn, fun h4 sb ce2 e2 => ?_⟩
  obtain ⟨k1, k2, k3, oe, vs, T, oT, ts, he, hz, hd, h1, hnT, hTe, hT, hdT, h3T⟩ := hh3
  obtain ⟨oC, esC, epC, hoC, hdC, _⟩ := hn
  generalize hCC : s3.heap.objs.size = C at *
  have aC : a ≠ C := fun z => by rw [z, hoC] at he; cases he; rw [hdC] at hd; cases hd
  have tC : T ≠ C := fun z => by rw [z, hoC] at hT; cases hT; rw [hdC] at hdT; cases hdT
  have he4 : h4.get? a = some oe := (sb.2 a aC).trans he
  have hT4 : h4.get? T = some oT := (sb.2 T tC).trans hT
  have fpC := I3.fpOk (b := C) (Nat.le_of_eq hCC) nC
  have frC : ∀ L ∈ frs X.stack, L ≠ C := fun L hL z => by
    rw [z] at hL
    rcases List.mem_cons.mp (I3.stkSub C hL) with q | q
    · exact fpC.2.1 q
    · exact fpC.2.2.1 q
  obtain ⟨B', b1, b2⟩ := restrict B fun b => b != C
  have bo : ∀ b o, B'.get? b = some o → B.get? b = some o ∧ b ≠ C := fun b o e => by
    cases q : (b != C) with
    | false => rw [b2 b q] at e; cases e
    | true =>
      rw [b1 b q] at e
      exact ⟨e, by simpa using q⟩
  have bn : ∀ b, B.get? b = none → B'.get? b = none := fun b e => by
    cases q : B'.get? b with
    | none => rfl
    | some o =>
      have := (bo b o q).1
      rw [e] at this
      cases this
  have FF : h4.FunFrames B' (X.env :: X.outer) := by
    refine funFrames_at k3 (fun L hL => bn L (k3.mem hL).1) fun L hL => sb.2 L (frC L (by rw [hs]; exact hL))
  have TZ : HandSPX.TracedZ h4 B' a (L2N.Zn cls d) (rawInt X.env.locals) := ⟨oe, vs, T, oT, ts, he4, hz, hd, h1, bn T hnT, hTe, hT4, hdT, h3T⟩
  have SB : B'.StaysIn h4 := fun b o e => by
    obtain ⟨q, n⟩ := bo b o e
    exact (sb.2 b n).trans (k1 b o q)
  obtain ⟨G2, d1, d2⟩ := restrict G fun b => b != C
  have do_ : ∀ b o, G2.get? b = some o → G.get? b = some o ∧ b ≠ C := fun b o e => by
    cases q : (b != C) with
    | false => rw [d2 b q] at e; cases e
    | true =>
      rw [d1 b q] at e
      exact ⟨e, by simpa using q⟩
  have IX : Inv X pins σ H' { sc with heap := G, gens := s'.gens, drawn := s'.drawn, toks := s'.toks } := I3.call' (ch := fp) IG.os IG.base IG.hok IG.bare fun b hb => ⟨(f3 b hb).1.2.2.2.1, (f3 b hb).1.2.1, (f3 b hb).1.2.2.2.2.1, (f3 b hb).1.2.2.2.2.2⟩
  obtain ⟨p0, p1, p2, p3, p4, p5⟩ := fpC
  have IX2 := IX.turned (t' := s'.toks) (h' := G2) (it := C) (fun b o hb e => by rw [d1 b (by simpa using hb)]; exact e) p0 p1 p3 p4 p5
  unfold PySem.passOn
  refine wpAny_bind (wpAny_field he4 hd h1 ?_)
  rw [if_neg (show ¬ ((Value.ref T == Value.none) = true) from by simp)]
  have fin : wpAny (model X.prog X.w) X.A (setFlight (.ref a) ce2.frame) (fun _ s4 => wpAny (model X.prog X.w) X.A (throw (.ref a) : Sem Value) (fun _ _ => False) X.xe s4) X.xe { s' with heap := h4 } := by
    rw [e2, hf]
    refine HandSPX.setFlight_anyZ (base := B') (l := X.env :: X.outer) SB FF TZ fun h5 q1 q2 q3 q4 => wpAny_throw (tk _ _ ?_)
    refine ⟨a, B', _, pins, σ, H', cls, d, rfl, IX2, fun b o e hb => ?_, fun b o e hnf => ?_, .inr (.inr (by rw [hs]; exact ⟨q1, bn a k2, q2, q3⟩)), na, os, ag, hE⟩
    · obtain ⟨q, n⟩ := do_ b o e
      rw [b1 b (by simpa using n)]
      exact nb b o q hb
    · obtain ⟨q, n⟩ := do_ b o e
      obtain ⟨sl, x1⟩ := (upG.trans up3) b o q hnf
      obtain ⟨sl2, x2⟩ := q4 b _ ((sb.2 b n).trans x1) hnf
      exact ⟨sl2, x2⟩
  first
    | exact wpAny_bind (wpAny_pure (wpAny_bind fin))
    | exact wpAny_bind fin
theorem lcX_core {pins : List (Addr × Obj)} {s : Shared} {σ : L2.St} {H : Hp} {Q : VK} {elt tg iter : Expr} {scope : Scope} {own : List (Str × Nat)} {pos pos2 : Pos} {wi : TI} {g : TG} {te : TE} {Eo : XK} {use : Option (Value → Sem Unit)} {Qf : Value → Shared → Prop} (I : Inv X pins σ H s) (hc : X.calm = true) (hN : X.N.Nodup) (hst : X.stack = X.env :: X.outer) (hfr : X.env.frame = some X.env.locals)
    (tk : L2N.Takes X fun cls d _ H => Eo cls d H) (hi : PI X tg iter wi) (ok : BlkOk X.N X.env.scope scope own)
    (hg : ∀ (s : Shared) (H : Hp) (C : Addr) (cl : List (Str × Addr)) (fp : List Addr), PG (X.blk s H scope (compEnvC scope cl C X.env) fp) tg g)
    (he : ∀ (s : Shared) (H : Hp) (C : Addr) (cl : List (Str × Addr)) (fp : List Addr) (xe : Value → Shared → Prop), (∀ σ, PassesAt (L2N.CX X.prog X.w) (blkE X s H scope (compEnvC scope cl C X.env) fp xe) σ Eo) → PE (blkE X s H scope (compEnvC scope cl C X.env) fp xe) elt te)
    (hs : ∀ x, foldedSetIterable iter X.env x = pure x) (h : tLc wi g tYes te (own.map (·.2)) σ H Q)
    (hRR : ∀ D C s' m H', Inv X pins σ H' s' → Q (.ref D) H' → s'.heap.Ns C m → FpOk X pins H' C → endOf (model X.prog X.w) X.A X.xe use Qf (.ref D) C X.env.frame (.ok .next) s') :
    wpAny (model X.prog X.w) X.A (comprehension (.ListComp elt [⟨tg, iter, [], 0⟩] scope pos) scope X.env pos2 (newList []) false (eval iter X.env) use) Qf X.xe s := by
  have cells : ∀ y ∈ scope.names, y.2 = .free → ∃ c, X.env.cells.lookup y.1 = some c := fun y hy e => (ok.free y hy e).elim (fun k => I.ok.has _ (.inl k)) fun k => I.ok.has _ (.inr k)
  refine comp_free rfl hs (closure_ok cells) ok.kind (fun y hy e => by rw [ok.uniq y hy, e]) (thn (hi.run pins s σ H _ I h) fun xv s1 hx => thn hx fun itv s2 h2 => ?_)
  obtain ⟨it, fp, tn, J, H2, e, I2, T, st2, f2, q⟩ := h2
  subst e
  refine wpAny_newObj_type (newEnv_comp ?_) (by show 0 ≤ sizeLine; decide)
  refine ⟨rfl, ?_⟩
  generalize hD : s2.heap.objs.size = D
  have hDn : H2 D = none := I2.hok.fresh (Nat.le_of_eq hD)
  obtain ⟨W, ⟨m0, w0⟩, turn⟩ := q D hDn
  -- the list that is filled
  generalize hs3 : ({ s2 with heap := s2.heap.push { cls := .type "list", data := .seq ([] : List Value).toArray } } : Shared) = s3
  have h3 : s3.heap = s2.heap.push { cls := .type "list", data := .seq ([] : List Value).toArray } := by rw [← hs3]
  have I3 : Inv X pins σ (upd H2 D (.lst [])) s3 := by
    rw [← hs3]
    refine I2.laid (t' := s2.toks) (fun b o e => Heap.get?_push_of_some _ e) (Nat.le_of_eq hD) ⟨Nat.zero_le _, [], 0, .nil, ?_⟩
    rw [← hD]
    exact Heap.get?_push_size _ rfl
  have below : ∀ b ∈ fp, b < s2.heap.objs.size := fun b hb => let ⟨o, e, _⟩ := T.obj _ _ st2 b hb; Heap.lt_size e
  have f3 : ∀ b ∈ fp, FpOk X pins (upd H2 D (.lst [])) b ∧ b < s3.heap.objs.size := fun b hb => by
    refine ⟨⟨?_, (f2 b hb).2⟩, by rw [h3, Heap.size_push]; exact Nat.lt_succ_of_lt (below b hb)⟩
    rw [upd_ne (by rw [← hD]; exact Nat.ne_of_lt (below b hb))]
    exact (f2 b hb).1
  have st3 : tn 0 s3.heap := T.keep _ _ _ st2 fun b _ o e => by rw [h3]; exact Heap.get?_push_of_some _ e
  have I4 := block_start I3 ok hN f3
  have pg := hg s3 (upd H2 D (.lst [])) s3.heap.objs.size (cellsFrom (s3.heap.objs.size + 1) scope.names (cloFrom X.env.cells scope.names [])) fp
  have pe := he s3 (upd H2 D (.lst [])) s3.heap.objs.size (cellsFrom (s3.heap.objs.size + 1) scope.names (cloFrom X.env.cells scope.names [])) fp
  show codeAny _ _ (.compStart (.ListComp elt [⟨tg, iter, [], 0⟩] scope pos) 0 (.ref it) (.ref D) (compEnvC scope (cellsFrom (s3.heap.objs.size + 1) scope.names (cloFrom X.env.cells scope.names [])) s3.heap.objs.size X.env)) (endOf (model X.prog X.w) X.A X.xe use Qf (.ref D) s3.heap.objs.size X.env.frame) { s3 with heap := pushCells (s3.heap.push { cls := .type "dict", data := .dict #[] }) scope.names }
  have nfp : ∀ b ∈ fp, (upd H2 D (.lst [])) b = none := fun b hb => (f3 b hb).1.1
  generalize hce : compEnvC scope (cellsFrom (s3.heap.objs.size + 1) scope.names (cloFrom X.env.cells scope.names [])) s3.heap.objs.size X.env = ce at I4 pg pe ⊢
  have cL : ce.locals = s3.heap.objs.size := by subst hce; rfl
  have cF : ce.frame = X.env.frame := by subst hce; rfl
  generalize hH3 : upd H2 D (.lst []) = H3 at I3 I4 pg pe w0 nfp f3
  generalize hs4 : ({ s3 with heap := pushCells (s3.heap.push { cls := .type "dict", data := .dict #[] }) scope.names } : Shared) = s4 at I4 ⊢
  have st4 : tn 0 s4.heap := T.keep _ _ _ st3 fun b _ o e => by rw [← hs4]; exact pushCells_keeps _ _ _ _ (Heap.get?_push_of_some _ e)
  have out : ∀ {pins2 : List (Addr × Obj)} {σ2 : L2.St} {Hc : Hp} {sc s' : Shared} {u : Value}, Inv (X.blk s3 H3 scope ce fp) pins2 σ2 Hc sc → L2N.CX X.prog X.w X.stack Hc sc Eo u s' → notedBy (model X.prog X.w) X.A ce (fun e s'' => endOf (model X.prog X.w) X.A X.xe use Qf (.ref D) s3.heap.objs.size X.env.frame (.error e) s'') u s' :=
    fun Ic c => blk_out hst hfr tk I3 f3 cL cF Ic c
  have pe1 := pe (notedBy (model X.prog X.w) X.A ce fun e s'' => endOf (model X.prog X.w) X.A X.xe use Qf (.ref D) s3.heap.objs.size X.env.frame (.error e) s'') fun σ2 pins2 Hc sc u s' Ic c => out Ic.unwish c
  have stat : ∀ {σ' : L2.St} {H' : Hp} {s' : Shared}, Inv (X.blk s3 H3 scope ce fp) [] σ' H' s' → (∀ b ∈ fp, H' b = none) → ∀ b ∈ fp, FpOk (X.blk s3 H3 scope ce fp) [] H' b := fun {σ' H' s'} I' hn b hb =>
    ⟨hn b hb, (I'.ok.exf b hb).1, I'.ok.exfs b hb, .inl hb, fun x c e => (I'.ok.exf b hb).2 x c e, fun p hp => absurd (show p ∈ ([] : List (Addr × Obj)) ++ [] from hp) (by simp)⟩
  have loop : codeAny (model X.prog X.w) X.A (.compLoop (.ListComp elt [⟨tg, iter, [], 0⟩] scope pos) 0 (.ref it) (.ref D) ce) (endOf (model X.prog X.w) X.A X.xe use Qf (.ref D) s3.heap.objs.size X.env.frame) s4 := by
    refine compLoop_any (fun n s' => ∃ i H', Inv (X.blk s3 H3 scope ce fp) [] (wipe σ (own.map (·.2))) H' s' ∧ tn i s'.heap ∧ (∀ b ∈ fp, H' b = none) ∧ W i n H') ?_ m0 ⟨0, H3, I4, st4, nfp, w0⟩
    rintro n s5 ⟨i, H5, I5, st5, n5, w5⟩
    rcases turn i n H5 w5 with ⟨stop, qq⟩ | ⟨go, Nx, hNx, step⟩
    · refine thnF (T.done (X.blk s3 H3 scope ce fp) rfl rfl rfl hc i [] s5 _ H5 (fun _ _ => False) I5 (stat I5 n5) st5 stop) fun r s6 ⟨hr, I6⟩ => ?_
      subst hr
      have I7 : Inv X pins σ H5 s6 := I3.call' (ch := fp) I6.os I6.base I6.hok I6.bare fun b hb => ⟨(f3 b hb).1.2.2.2.1, (f3 b hb).1.2.1, (f3 b hb).1.2.2.2.2.1, (f3 b hb).1.2.2.2.2.2⟩
      have nC : H5 s3.heap.objs.size = none := by
        have z : H5 ce.locals = none := I6.free
        rwa [cL] at z
      obtain ⟨m, hn, _⟩ := I6.loc
      have hn : s6.heap.Ns ce.locals m := hn
      rw [cL] at hn
      exact hRR D s3.heap.objs.size s6 m H5 I7 qq hn (I3.fpOk (Nat.le_refl _) nC)
    · refine thnF (T.item (X.blk s3 H3 scope ce fp) rfl rfl rfl hc i [] s5 _ H5 (fun _ _ => False) I5 (stat I5 n5) st5 go) fun r s6 ⟨u, hr, h6⟩ => ?_
      subst hr
      refine thnF h6 fun _ s7 ⟨x, H7, I7, r7, y7, st7, n7⟩ => ?_
      have I7' := I7.pinned (stat I7 n7) (T.obj _ _ st7)
      refine thnF (pg.run _ s7 _ H7 x u _ I7' r7 (step x H7 y7)) fun _ s8 ⟨σ8, H8, I8, hw8, q8⟩ => ?_
      refine wpAny_tests_nil ?_
      rw [if_pos rfl]
      have fin : ∀ {s' : Shared} {H' : Hp}, Inv (X.blk s3 H3 scope ce fp) ([] ++ pinsAt fp s7.heap) σ8 H' s' → Nx H' → ∃ m, m < n ∧ ∃ i H', Inv (X.blk s3 H3 scope ce fp) [] (wipe σ (own.map (·.2))) H' s' ∧ tn i s'.heap ∧ (∀ b ∈ fp, H' b = none) ∧ W i m H' := fun {s' H'} I' nx => by
        obtain ⟨m', hm, w'⟩ := hNx H' nx
        have pin' : ∀ b ∈ fp, ∀ o, s7.heap.get? b = some o → s'.heap.get? b = some o ∧ H' b = none := fun b hb o e =>
          let z := I'.pin (b, o) (List.mem_append_right _ (List.mem_append_right _ (mem_pinsAt hb e)))
          ⟨z.1, z.2.1⟩
        refine ⟨m', hm, i + 1, H', (I'.unpinned (pins := [])).weak (by rw [← hw8, wipe_length]) (fun j v e => ?_), T.keep _ _ _ st7 fun b hb o e => (pin' b hb o e).1, fun b hb => ?_, w'⟩
        · rw [← hw8] at e
          exact (wipe_some e).1
        · obtain ⟨o, e, _⟩ := T.obj _ _ st7 b hb
          exact (pin' b hb o e).2
      have q9 : te σ8 H8 fun y H4 => ∃ acc, H4 D = some (.lst acc) ∧ acc.length < sizeLine ∧ Nx (upd H4 D (.lst (acc ++ [y]))) := q8
      refine wpAny_mono (pe1.run _ s8 σ8 H8 _ (I8.wish _) q9) (fun z s10 ⟨yv, H10, I10, r10, acc, hD10, hz10, nx⟩ => ?_) fun _ _ z => z
      exact app_ok (X := X.blk s3 H3 scope ce fp) I10.unwish hD10 hz10 r10 fun s11 I11 => fin I11 nx
  exact codeAny_compStart_list loop (T.self X.A 0 _ _ _ st4 loop)
/-- [elt for tg in iter], where elt may let an exception out -/
theorem pe_lcX {elt tg iter : Expr} {scope : Scope} {own : List (Str × Nat)} {pos : Pos} {wi : TI} {g : TG} {te : TE} {Eo : XK} (hc : X.calm = true) (hN : X.N.Nodup) (hst : X.stack = X.env :: X.outer) (hfr : X.env.frame = some X.env.locals)
    (tk : L2N.Takes X fun cls d _ H => Eo cls d H) (hi : PI X tg iter wi) (ok : BlkOk X.N X.env.scope scope own)
    (hg : ∀ (s : Shared) (H : Hp) (C : Addr) (cl : List (Str × Addr)) (fp : List Addr), PG (X.blk s H scope (compEnvC scope cl C X.env) fp) tg g)
    (he : ∀ (s : Shared) (H : Hp) (C : Addr) (cl : List (Str × Addr)) (fp : List Addr) (xe : Value → Shared → Prop), (∀ σ, PassesAt (L2N.CX X.prog X.w) (blkE X s H scope (compEnvC scope cl C X.env) fp xe) σ Eo) → PE (blkE X s H scope (compEnvC scope cl C X.env) fp xe) elt te)
    (hs : ∀ x, foldedSetIterable iter X.env x = pure x := by intro _; rfl) : PE X (.ListComp elt [⟨tg, iter, [], 0⟩] scope pos) (tLc wi g tYes te (own.map (·.2))) := by
  refine ⟨fun pins s σ H Q I h => ?_⟩
  rw [eval_ListComp]
  refine lcX_core I hc hN hst hfr tk hi ok hg he hs h fun D C s' m H' I' q hn f => ⟨m, hn, fun h'' sb => ?_⟩
  obtain ⟨p0, p1, p2, p3, p4, p5⟩ := f
  exact ⟨.ref D, H', I'.turned (t' := s'.toks) (fun b o hb e => (sb.2 b hb).trans e) p0 p1 p3 p4 p5, rfl, q⟩
/-- name = [..] on one line, the name a local -/
theorem ps_setLcX {i : Nat} {y : Str} {py : Pos} {elt tg iter : Expr} {scope : Scope} {own : List (Str × Nat)} {pos spos : Pos} {wi : TI} {g : TG} {te : TE} {Eo : XK} (hc : X.calm = true) (hN : X.N.Nodup) (hst : X.stack = X.env :: X.outer) (hfr : X.env.frame = some X.env.locals)
    (tk : L2N.Takes X fun cls d _ H => Eo cls d H) (hy : X.N[i]? = some y) (hyl : X.env.scope.names.lookup y = some .local) (hsw : swapsWith (.ListComp elt [⟨tg, iter, [], 0⟩] scope pos) (some (.Name y py)) spos.line X.env = pure true) (hi : PI X tg iter wi) (ok : BlkOk X.N X.env.scope scope own)
    (hg : ∀ (s : Shared) (H : Hp) (C : Addr) (cl : List (Str × Addr)) (fp : List Addr), PG (X.blk s H scope (compEnvC scope cl C X.env) fp) tg g)
    (he : ∀ (s : Shared) (H : Hp) (C : Addr) (cl : List (Str × Addr)) (fp : List Addr) (xe : Value → Shared → Prop), (∀ σ, PassesAt (L2N.CX X.prog X.w) (blkE X s H scope (compEnvC scope cl C X.env) fp xe) σ Eo) → PE (blkE X s H scope (compEnvC scope cl C X.env) fp xe) elt te)
    (hs : ∀ x, foldedSetIterable iter X.env x = pure x := by intro _; rfl) : PS X (.Assign [.Name y py] (.ListComp elt [⟨tg, iter, [], 0⟩] scope pos) spos) (tAsg (tLc wi g tYes te (own.map (·.2))) (gName i)) := by
  refine ⟨fun pins s σ H D I h => ?_⟩
  rw [exec_Assign_Name_used _ _ _ _ hsw]
  refine wpAny_bind (wpAny_standAt (wpAny_bind ?_))
  show wpAny _ X.A (do let _ ← comprehension (.ListComp elt [⟨tg, iter, [], 0⟩] scope pos) scope X.env (firstIterPos [⟨tg, iter, [], 0⟩] pos) (newList []) false (eval iter X.env) (some (assign (.Name y py) X.env))) _ _ s
  have h : tLc wi g tYes te (own.map (·.2)) σ H (fun x H1 => gName i x σ H1 D.nx) := h
  refine wpAny_bind (wpAny_mono (lcX_core (Qf := fun _ s' => SP X pins D .next s') I hc hN hst hfr tk hi ok hg he hs h fun L C s' m H' I' q hn f => ?_) (fun _ s' hq => wpAny_pure (wpAny_pure hq)) fun _ _ z => z)
  show wpAny _ _ (assign (.Name y py) X.env (.ref L)) _ _ _
  refine wpAny_assign_Name (store_ok2 (v := V.ref L) I' hN hy (.inl hyl) rfl (fun s2 I2 ⟨b, sb, hb⟩ => ?_) (.inr hyl))
  obtain ⟨p0, p1, p2, p3, p4, p5⟩ := f
  have ne : C ≠ b := hb.elim (fun z => by rw [z]; exact p1) fun z e => p4 y b z e.symm
  exact ⟨m, hn.sameBut sb ne, fun h3 sb3 => ⟨_, H', I2.turned (t' := s2.toks) (fun b o hb e => (sb3.2 b hb).trans e) p0 p1 p3 p4 p5, q⟩⟩
end
end CmpN
/-! ### what raises InvalidRule outside of any suite -/
namespace L2
open PySem PySem.Spec PyProof.Rows
section
variable {P : Program} {w : World} {K : PySem.W.Frag} {mg : Str → Option Value} {base : Heap}
theorem Fun.okN {x qual : Str} {st : Stmt} {f : Addr} {fd : FuncData} {N ps : List Str} {k : Nat} {sp : Sp} (F : Fun K x qual st f fd) (S : FnScope N ps (defScope st)) (len : ∀ vs H Q E, sp vs H Q E → vs.length = ps.length)
    (body : ∀ (cdv : Value) (A : Around) (outer : List Env) (s : Shared) (H : Hp) (vs : List V) (Q : VK) (E : XK), Room k (A.deeper (envOfC qual (defScope st) s.heap.objs.size f cdv)) → sp vs H Q E →
      ∃ t, PSs (cxOf (L2N.CX P w) P w K mg base N qual (defScope st) f cdv A outer s H E) (defBody st) t ∧ t { nx := fun _ H' => Q .non H', rt := Q } (start N vs) H) : FnOk P w K mg base (L2N.CX P w) (k + 1) f fd ps sp := by
  obtain ⟨_, _, _, _, _, _, _, _, _, rfl, lk, hcd⟩ := F.ex
  exact fn_of lk hcd S len fun A outer s H vs Q E hr z => body _ A outer s H vs Q E hr z
end
end L2
namespace PmN
open PySem PySem.Spec PyProof.Rows L2 SX NdefX Pm
structure CtorN (P : Program) (w : World) (K : PySem.W.Frag) (mg : Str → Option Value) (base : Heap) (C : Addr) (n : Nat) (ps : List Str) (sp : Sp) (f : Addr) (fd : FuncData) : Prop where
  M : Mk K C f
  ok : FnOk P w K mg base (L2N.CX P w) n f fd ps sp
  bd : Binds K fd ps []
  T : RCls K C
section
variable {P : Program} {w : World} {K : PySem.W.Frag} {mg : Str → Option Value} {base : Heap} {C CI CP CR CC CS D : Addr} {κ : Nat}
theorem ok_check {f g d e : Addr} {fd gd dd ed : FuncData} (F : Fun K "_check_conditions" "_check_conditions" gCheckConditions f fd) (G : Cl P w K mg base CX0 1 "_is_place" ["dx", "dy"] spPlace g gd) (D : Cl P w K mg base CX0 2 "are_different_signs" ["signs", "besides"] spDiff d dd)
    (Ex : EMk P w K mg base CI "InvalidRule" ["self", "part"] (spE1 CI "part") e ed) (T : PTxt K mg C) (R : STxt K mg) (U : UTx K mg) : FnOk P w K mg base (L2N.CX P w) 3 f fd ["conditions"] (spCheck CI) := by
  refine F.okN scCheck (fun vs H Q E h => ?_) (fun cdv A outer s H vs Q E hr h => ?_)
  · obtain ⟨a, ks, rfl, _⟩ := h
    rfl
  · obtain ⟨a, ks, rfl, hc, few, each, bad, good⟩ := h
    have hr1 : Room 1 _ := hr.mono (by decide)
    have hr2 : Room 2 _ := hr
    have hu := hu_of hr
    obtain ⟨mc, cr, _, ⟨uE, hE⟩⟩ := T.cr
    obtain ⟨um, hM, rM⟩ := U.most
    refine ⟨_, (pss_cons (ps_set (i := 1) scCheck.nd rfl (.inl rfl) (pe_callTy0 cr_set0T (by rfl) R.set (by decide +kernel)))
      (pss_one (ps_for (passes_of rfl) rfl (pi_enumS (by rfl) T.enum (pa_cons (pv 0) pa_nil) (pk_cons pe_int pk_nil)) (pg_tup rfl (pgs_cons (pg_name (i := 2) scCheck.nd rfl (.inl rfl)) (pgs_cons (pg_tup rfl (pgs_cons (pg_name (i := 3) scCheck.nd rfl (.inl rfl)) (pgs_cons (pg_name (i := 4) scCheck.nd rfl (.inl rfl)) (pgs_cons (pg_name (i := 5) scCheck.nd rfl (.inl rfl)) pgs_nil)))) pgs_nil))) (pss_cons (ps_if (PW.pt (pw_or (pt_cmpR op_gt (pv 2) (pe_glob (by rfl) hM rM) (nomark _)) (pw_or (pt_not (pt_val (pe_call G.ok hr1 (by rfl) G.gl G.kp G.bd .nil pass0 (pa_cons (pv 3) (pa_cons (pv 4) pa_nil))))) (pw_or1 (pt_cmpR (op_inT hu) (pe_tup (pa_cons (pv 3) (pa_cons (pv 4) pa_nil))) (pv 1) (by rfl)))))) (pss_one (L2N.ps_raise rfl (L2N.takes_of rfl rfl rfl rfl) (Cmp.pmkN Ex.T Ex.at_ Ex.ty Ex.ok hr2 Ex.bd pass0 (by rfl) Ex.gl (pa_cons (pv 2) pa_nil)))) pss_nil)
        (pss_cons (ps_if (pt_not (pt_val (pe_call D.ok hr (by rfl) D.gl D.kp D.bd .nil pass0 (pa_cons (pv 5) (pa_cons (ClX.pe_cval (pe_glob (v := .ref C) (by rfl) T.gC rfl)) pa_nil))))) (pss_one (L2N.ps_raise rfl (L2N.takes_of rfl rfl rfl rfl) (Cmp.pmkN Ex.T Ex.at_ Ex.ty Ex.ok hr2 Ex.bd pass0 (by rfl) Ex.gl (pa_cons (pv 2) pa_nil)))) pss_nil)
        (pss_one (ps_expr (pe_addT hu (pv 1) (pa_cons (pe_tup (pa_cons (pv 3) (pa_cons (pv 4) pa_nil))) pa_nil))))))))), ?_⟩
    refine ⟨rfl, fun D0 nD0 => ?_⟩
    have s0 := same_upd (o := SetTO P w D0 []) nD0
    have hD0 : (upd H D0 (SetTO P w D0 [])) D0 = some (SetTO P w D0 []) := upd_same
    refine ⟨_, rfl, a, _, rfl, rfl, SqL.of (s0 _ _ hc.lst), for_it walkS (fun i σ G => ∃ y2 y3 y4 y5 L, σ = [some (.ref a), some (.ref D0), y2, y3, y4, y5] ∧ Same H G ∧ (∀ b o, b ≠ D0 → upd H D0 (SetTO P w D0 []) b = some o → G b = some o) ∧ G D0 = some (SetTO P w D0 L) ∧ (∀ p ∈ L, G p.1 = some (.tup (p.2.map V.int))) ∧
      (∀ c : Int × Int, [c.1, c.2] ∈ L.map (·.2) ↔ c ∈ seenOf (ks.map (·.2)) i) ∧ L.length ≤ i ∧ i ≤ 8 ∧ fstBad 1 [] (ks.map (·.2)) = fstBad (i + 1) (seenOf (ks.map (·.2)) i) ((ks.map (·.2)).drop i)) ⟨_, _, _, _, [], rfl, s0, fun _ _ _ e => e, hD0, (fun p hp => nomatch hp), (fun c => ⟨fun z => (nomatch z), fun z => (nomatch z)⟩), Nat.le_refl _, by decide, rfl⟩ (fun i σ G _ ⟨_, _, _, _, _, _, sG, _⟩ => SqL.of (sG _ _ hc.lst)) ?_ ?_⟩
    · rintro i x σ G G' hi ⟨y2, y3, y4, y5, L, rfl, sG, oG, hD, hL, hk, ll, i8, ef⟩ ⟨T1, x1, rfl, nT, rfl, gx⟩
      obtain ⟨t, c, hti, rfl⟩ := refC_at gx
      have mq : (t, c) ∈ ks := List.mem_of_getElem? hti
      have s1 := same_upd (o := .tup [.int ((i : Int) + 1), .ref t]) nT
      have s2 := sG.trans s1
      have ht := s2 _ _ (hc.each _ mq)
      have hci : (ks.map (·.2))[i]? = some c := by
        rw [List.getElem?_map, hti]
        rfl
      have edr : (ks.map (·.2)).drop i = c :: (ks.map (·.2)).drop (i + 1) := by
        obtain ⟨h1, h2⟩ := List.getElem?_eq_some_iff.mp hci
        rw [List.drop_eq_getElem_cons h1, h2]
      rw [edr, fst_step] at ef
      have isbad : badAt (i + 1) (seenOf (ks.map (·.2)) i) c = true → fstBad 1 [] (ks.map (·.2)) = some (i + 1) := fun e => by rw [ef, if_pos e]
      refine ⟨T1, _, rfl, SqT.of upd_same, rfl, _, _, rfl, _, _, rfl, t, _, rfl, SqT.of ht, rfl, _, _, rfl, _, _, rfl, _, _, rfl, rfl, rfl, ?_⟩
      refine ⟨_, rfl, _, _, rfl, rfl, _, rfl, ?_⟩
      by_cases b1 : 8 < i + 1
      · have hb := isbad (by unfold badAt; simp [b1])
        refine iteTe (decide_eq_true (by omega)) (iteT ?_)
        refine ⟨_, rfl, by show 1 ≤ 1000; decide, fun x nx => ⟨x, _, rfl, upd_same, fun H2 d h1 h2 nd ne sb => ⟨rfl, d, _, h1, h2, ?_, ?_⟩⟩⟩
        · rwa [upd_ne ne] at nd
        · exact bad _ hb d _ (back s2 (by rwa [upd_ne ne] at nd)) upd_same (s2.trans (on_way nx nd ne sb))
      refine iteFe (decide_eq_false (by omega)) ⟨_, rfl, _, rfl, _, _, rfl, _, rfl, ?_⟩
      cases b2 : placeB c.1 with
      | false =>
        have hb := isbad (by unfold badAt; simp [b2])
        refine iteTe rfl (iteT ?_)
        refine ⟨_, rfl, by show 1 ≤ 1000; decide, fun x nx => ⟨x, _, rfl, upd_same, fun H2 d h1 h2 nd ne sb => ⟨rfl, d, _, h1, h2, ?_, ?_⟩⟩⟩
        · rwa [upd_ne ne] at nd
        · exact bad _ hb d _ (back s2 (by rwa [upd_ne ne] at nd)) upd_same (s2.trans (on_way nx nd ne sb))
      | true =>
      refine iteFe rfl ⟨_, rfl, _, rfl, by show 2 ≤ sizeLine; decide, fun p np => ?_⟩
      have s3 := s2.trans (same_upd (o := .tup [.int c.1.1, .int c.1.2]) np)
      have hD2 : upd (upd G T1 (.tup [.int ((i : Int) + 1), .ref t])) p (.tup [.int c.1.1, .int c.1.2]) D0 = some (SetTO P w D0 L) := by
        rw [upd_ne (ne_of_none (s1 _ _ hD) np)]
        exact s1 _ _ hD
      have hL2 : ∀ q ∈ L, upd (upd G T1 (.tup [.int ((i : Int) + 1), .ref t])) p (.tup [.int c.1.1, .int c.1.2]) q.1 = some (.tup (q.2.map V.int)) := fun q hq => same_upd np _ _ (s1 _ _ (hL q hq))
      refine ⟨_, rfl, p, D0, [c.1.1, c.1.2], L, rfl, rfl, SqT.of upd_same, hD2, fun q hq => SqT.of (hL2 q hq), _, rfl, ?_⟩
      by_cases b3 : c.1 ∈ seenOf (ks.map (·.2)) i
      · have hb := isbad (by unfold badAt; simp [b3])
        refine iteTe (decide_eq_true ((hk c.1).mpr b3)) ?_
        refine ⟨_, rfl, by show 1 ≤ 1000; decide, fun x nx => ⟨x, _, rfl, upd_same, fun H2 d h1 h2 nd ne sb => ⟨rfl, d, _, h1, h2, ?_, ?_⟩⟩⟩
        · rwa [upd_ne ne] at nd
        · exact bad _ hb d _ (back s3 (by rwa [upd_ne ne] at nd)) upd_same (s3.trans (on_way nx nd ne sb))
      refine iteFe (decide_eq_false fun z => b3 ((hk c.1).mp z)) ?_
      refine ⟨_, rfl, C, mc, _, uE, rfl, cr, hE, c.2, 35, (by rw [hash_S]; rfl), each _ mq, fun G4 s4 => ⟨_, rfl, ?_⟩⟩
      cases b4 : diffB 35 c.2 with
      | false =>
        have hb := isbad (by unfold badAt; simp [b4])
        have s5 := s3.trans s4
        refine iteT ?_
        refine ⟨_, rfl, by show 1 ≤ 1000; decide, fun x nx => ⟨x, _, rfl, upd_same, fun H2 d h1 h2 nd ne sb => ⟨rfl, d, _, h1, h2, ?_, ?_⟩⟩⟩
        · rwa [upd_ne ne] at nd
        · exact bad _ hb d _ (back s5 (by rwa [upd_ne ne] at nd)) upd_same (s5.trans (on_way nx nd ne sb))
      | true =>
      refine iteF ?_
      refine ⟨_, rfl, ⟨D0, L, rfl, s4 _ _ hD2, fun q hq => SqT.of (s4 _ _ (hL2 q hq))⟩, _, rfl, _, rfl, by show 2 ≤ sizeLine; decide, fun p2 np2 => ?_⟩
      have s6 := same_upd (o := .tup [.int c.1.1, .int c.1.2]) np2
      have hD3 := s6 _ _ (s4 _ _ hD2)
      have new : [c.1.1, c.1.2] ∉ L.map (·.2) := fun z => b3 ((hk c.1).mp z)
      refine ⟨D0, p2, [c.1.1, c.1.2], L, rfl, rfl, hD3, fun q hq => SqT.of (s6 _ _ (s4 _ _ (hL2 q hq))), SqT.of upd_same, by omega, fun L' _ c2 => ?_⟩
      have pm := c2 new
      have s7 : ∀ b o, b ≠ D0 → upd G4 p2 (.tup [.int c.1.1, .int c.1.2]) b = some o → upd (upd G4 p2 (.tup [.int c.1.1, .int c.1.2])) D0 (SetTO P w D0 L') b = some o := fun b o nb e => by
        rw [upd_ne nb]
        exact e
      have sAll : Same G (upd G4 p2 (.tup [.int c.1.1, .int c.1.2])) := ((s1.trans (same_upd np)).trans s4).trans s6
      have np2D : p2 ≠ D0 := Ne.symm (ne_of_none (s4 _ _ hD2) np2)
      refine ⟨_, _, _, _, L', rfl, fun b o e => ?_, fun b o nb e => s7 b o nb (sAll _ _ (oG b o nb e)), upd_same, fun q hq => ?_, fun d => ?_, ?_, by omega, ?_⟩
      · exact s7 b o (ne_of_none e nD0) (sAll _ _ (sG _ _ e))
      · rcases List.mem_cons.mp (pm.mem_iff.mp hq) with z | z
        · subst z
          exact s7 _ _ np2D upd_same
        · refine s7 _ _ (fun y => ?_) (sAll _ _ (hL q z))
          have y2 := hL q z
          rw [y, hD] at y2
          cases y2
      · rw [(pm.map (·.2)).mem_iff, seen_succ hci, List.map_cons, List.mem_cons, List.mem_cons, hk d]
        constructor
        · rintro (z | z)
          · simp only [List.cons.injEq, and_true] at z
            exact .inl (Prod.ext z.1 z.2)
          · exact .inr z
        · rintro (z | z)
          · rw [z]
            exact .inl rfl
          · exact .inr z
      · rw [pm.length_eq, List.length_cons]
        omega
      · rw [ef, if_neg (by unfold badAt; simp [b1, b2, b3, b4]), seen_succ hci]
    · rintro σ G ⟨y2, y3, y4, y5, L, rfl, sG, oG, hD, hL, hk, ll, i8, ef⟩
      refine good ?_ G sG
      rw [ef, show (refC ks).length = (ks.map (·.2)).length by unfold refC; rw [List.length_map, List.length_map], List.drop_length]
      rfl
theorem ok_need {f e : Addr} {fd ed : FuncData} (F : Fun K "_check_need" "_check_need" gCheckNeed f fd) (Ex : EMk P w K mg base CI "InvalidRule" ["self", "part"] (spE1 CI "part") e ed) : FnOk P w K mg base (L2N.CX P w) 3 f fd ["need", "count"] (spNeed CI) := by
  refine F.okN scNeed (fun vs H Q E h => ?_) (fun cdv A outer s H vs Q E hr h => ?_)
  · obtain ⟨n, c, rfl, _⟩ := h
    rfl
  · obtain ⟨n, c, rfl, bad, good⟩ := h
    have hr2 : Room 2 _ := hr
    refine ⟨_, (pss_one (ps_if (pt_not (pt_chain op_le op_le pe_int (pv 0) (pv 1))) (pss_one (L2N.ps_raise rfl (L2N.takes_of rfl rfl rfl rfl) (Cmp.pmkN Ex.T Ex.at_ Ex.ty Ex.ok hr2 Ex.bd pass0 (by rfl) Ex.gl (pa_cons pe_int pa_nil)))) pss_nil)), ?_⟩
    have out : ¬ (0 ≤ n ∧ n ≤ c) → ∀ x, H x = none → ∀ H2 d, H2 x = some (exo x CI (some d)) → H2 d = some (exd d [("part", .int 0)]) → upd H x (exo x CI none) d = none → d ≠ x → SameBut x (upd H x (exo x CI none)) H2 → E (.ref CI) (some d) (upd (del H2 x) d (.xd [("part", .int 0)])) := fun nb x nx H2 d h1 h2 nd ne sb => by
      exact bad nb d _ (by rwa [upd_ne ne] at nd) upd_same (on_way nx nd ne sb)
    refine ⟨_, rfl, _, _, rfl, rfl, _, rfl, ite2 (fun a => ?_) (fun a => ?_)⟩
    · have a : 0 ≤ n := of_decide_eq_true a
      refine ⟨_, rfl, _, _, rfl, rfl, _, rfl, ?_⟩
      by_cases b : n ≤ c
      · exact iteFe (by rw [decide_eq_true b]; rfl) (good ⟨a, b⟩)
      · refine iteTe (by rw [decide_eq_false b]; rfl) ⟨by show 1 ≤ 1000; decide, fun x nx => ⟨x, _, rfl, upd_same, fun H2 d h1 h2 nd ne sb => ⟨rfl, d, _, h1, h2, ?_, ?_⟩⟩⟩
        · rwa [upd_ne ne] at nd
        · exact out (fun z => b z.2) x nx H2 d h1 h2 nd ne sb
    · have a : ¬ 0 ≤ n := fun z => a (decide_eq_true z)
      refine ⟨_, rfl, iteT ⟨by show 1 ≤ 1000; decide, fun x nx => ⟨x, _, rfl, upd_same, fun H2 d h1 h2 nd ne sb => ⟨rfl, d, _, h1, h2, ?_, ?_⟩⟩⟩⟩
      · rwa [upd_ne ne] at nd
      · exact out (fun z => a z.1) x nx H2 d h1 h2 nd ne sb
theorem ok_ruleinit {f i c o e : Addr} {fd di dc do_ ed : FuncData} (F : Fun K "__init__" "Rule.__init__" cRuleInit f fd) (Is : Cl P w K mg base CX0 1 "is_stone" ["sign"] spStone i di) (Ck : Cl P w K mg base (L2N.CX P w) 3 "_check_conditions" ["conditions"] (spCheck CI) c dc) (Io : Cl P w K mg base CX0 2 "_in_order" ["conditions"] spInOrder o do_)
    (Ex : EMk P w K mg base CI "InvalidRule" ["self", "part"] (spE1 CI "part") e ed) : FnOk P w K mg base (L2N.CX P w) 4 f fd ["self", "stone", "conditions"] (spRuleInit CI K) := by
  refine F.okN scRuleInit (fun vs H Q E h => ?_) (fun cdv A outer s H vs Q E hr h => ?_)
  · obtain ⟨r, dx, C, st, a, ks, rfl, _⟩ := h
    rfl
  · obtain ⟨r, dx, C, st, a, ks, rfl, T, hr0, hc, fs, few, each, bad, good⟩ := h
    have hr1 : Room 1 _ := hr.mono (by decide)
    have hr2 : Room 2 _ := hr.mono (by decide)
    refine ⟨_, (pss_cons (ps_if (pt_not (pt_val (pe_call Is.ok hr1 (by rfl) Is.gl Is.kp Is.bd .nil pass0 (pa_cons (pv 1) pa_nil)))) (pss_one (L2N.ps_raise rfl (L2N.takes_of rfl rfl rfl rfl) (Cmp.pmkN Ex.T Ex.at_ Ex.ty Ex.ok hr2 Ex.bd pass0 (by rfl) Ex.gl (pa_cons pe_int pa_nil)))) pss_nil)
      (pss_cons (ps_expr (pe_callS (E := fun _ => E) Ck.ok hr (by rfl) Ck.gl Ck.kp Ck.bd (fun σ pins H s e s' I c => L2N.passes_call (L2N.takes_of rfl rfl rfl rfl) (fun _ _ _ _ z => z) pins σ H s e s' I c) (pa_cons (pv 2) pa_nil)))
      (pss_cons (ps_fld (pv 0) (pv 1) rfl)
      (pss_one (ps_fld (pv 0) (pe_call Io.ok hr2 (by rfl) Io.gl Io.kp Io.bd .nil pass0 (pa_cons (pv 2) pa_nil)) rfl))))), ?_⟩
    refine ⟨_, rfl, st, rfl, fs, _, rfl, ?_⟩
    cases e0 : stoneB st with
    | false =>
      refine iteT ⟨by show 1 ≤ 1000; decide, fun x nx => ⟨x, _, rfl, upd_same, fun H2 d h1 h2 nd ne sb => ⟨rfl, d, _, h1, h2, ?_, ?_⟩⟩⟩
      · rwa [upd_ne ne] at nd
      · exact bad 0 (by unfold faultR; rw [e0]; rfl) d _ (by rwa [upd_ne ne] at nd) upd_same (same_sb (on_way nx nd ne sb))
    | true =>
      have ef : faultR st (ks.map (·.2)) = fstBad 1 [] (ks.map (·.2)) := by unfold faultR; rw [e0]; rfl
      refine iteF ?_
      refine ⟨_, rfl, a, ks, rfl, hc, few, each, fun p hp => (bad p (ef.trans hp)).lets, fun hn H1 s1 => ?_⟩
      have nd : (ks.map fun q => q.2.1).Nodup := by
        have y := (fst_none hn).1
        rw [List.map_map] at y
        exact y
      refine ⟨_, rfl, _, rfl, r, C, dx, [], rfl, s1 _ _ hr0, T.cl, T.nS, by show 0 < 1000; decide, ?_⟩
      have ner : ∀ b o, b ≠ r → H b = some o → upd H1 r (.ins C dx [("stone", V.str (S st))]) b = some o := fun b o nb e => by
        rw [upd_ne nb]
        exact s1 _ _ e
      have nar : a ≠ r := ne_of hc.lst hr0 (by intro z; cases z)
      have hc2 : CndsAt (upd H1 r (.ins C dx [("stone", V.str (S st))])) a ks := ⟨ner _ _ nar hc.lst, fun q hq => ner _ _ (ne_of (hc.each q hq) hr0 (by intro z; cases z)) (hc.each q hq)⟩
      refine ⟨_, rfl, a, ks, rfl, hc2, few, each, nd, fun l ms H2 s2 nl hm nw pm od => ?_⟩
      have hr2' : H2 r = some (.ins C dx [("stone", V.str (S st))]) := s2 _ _ upd_same
      refine ⟨_, rfl, r, C, dx, _, rfl, hr2', T.cl, T.nC, by show 1 < 1000; decide, ?_⟩
      have nl0 : H l = none := by
        cases z : H l with
        | none => rfl
        | some o =>
          have y : l ≠ r := fun e => by
            rw [e, upd_same] at nl
            cases nl
          have y2 := (ner _ _ y z).symm.trans nl
          cases y2
      have nw0 : New H ms := fun q hq => by
        cases z : H q.1 with
        | none => rfl
        | some o =>
          have y : q.1 ≠ r := fun e => by
            have n2 : upd H1 r (.ins C dx [("stone", V.str (S st))]) q.1 = none := nw q hq
            rw [e, upd_same] at n2
            cases n2
          have y2 := (ner _ _ y z).symm.trans (nw q hq)
          cases y2
      have nlr : l ≠ r := ne_of hm.lst hr2' (by intro z; cases z)
      refine good (ef.trans hn) _ l ms (fun b o nb e => ?_) nl0 (by rw [upd_same]; rfl) ⟨?_, fun q hq => ?_⟩ nw0 pm od
      · rw [upd_ne nb]
        exact s2 _ _ (ner _ _ nb e)
      · rw [upd_ne nlr]
        exact hm.lst
      · rw [upd_ne (ne_of (hm.each q hq) hr2' (by intro z; cases z))]
        exact hm.each q hq
theorem ok_countinit {f cc cda g c : Addr} {fd gd dc : FuncData} (F : FunS P K "__init__" "CountRule.__init__" cCountRuleInit C f cc cda fd) (gm : mg "super" = none) (hM : SupM K C C "__init__" g) (G : FnOk P w K mg base (L2N.CX P w) 4 g gd ["self", "stone", "conditions"] (spRuleInit CI K)) (bG : Binds K gd ["self", "stone", "conditions"] [])
    (Nd : Cl P w K mg base (L2N.CX P w) 3 "_check_need" ["need", "count"] (spNeed CI) c dc) (L : LTxt K mg) (T : RCls K C) : FnOk P w K mg base (L2N.CX P w) 5 f fd ["self", "stone", "conditions", "need"] (spCountInit CI C K) := by
  refine supfn_of (k := 4) (j := 4) F scCountInit gm rfl rfl rfl rfl hM G bG (fun vs H Q E h => ?_) (fun A outer s H vs Q E hr h => ?_)
  · obtain ⟨r, dx, st, a, ks, n, rfl, _⟩ := h
    rfl
  · obtain ⟨r, dx, st, a, ks, n, rfl, hr0, hc, fs, few, each, bad, good⟩ := h
    have hr3 : Room 3 _ := hr.mono (by decide)
    refine ⟨_, _, r, dx, [], E, rfl, hr0, hr, fun σ pins H s e s' I c => L2N.passes_call (L2N.takes_of rfl rfl rfl rfl) (fun _ _ _ _ z => z) pins σ H s e s' I c, (pa_cons (pv 1) (pa_cons (pv 2) pa_nil)), (pss_cons (ps_expr (pe_callS (E := fun _ => E) Nd.ok hr3 (by rfl) Nd.gl Nd.kp Nd.bd (fun σ pins H s e s' I c => L2N.passes_call (L2N.takes_of rfl rfl rfl rfl) (fun _ _ _ _ z => z) pins σ H s e s' I c) (pa_cons (pv 3) (pa_cons (pe_callB call_len_seq (by rfl) L.len PySem.boot_len (pa_cons (pv 2) pa_nil)) pa_nil))))
      (pss_one (ps_fld (pv 0) (pv 3) rfl))), ?_⟩
    refine ⟨_, rfl, _, rfl, r, dx, C, st, a, ks, rfl, T, hr0, hc, fs, few, each, fun p hp => bad p (by unfold faultC; rw [hp]), fun hn H1 l ms s1 nl hr1 hm nw pm od => ?_⟩
    have nar : a ≠ r := ne_of hc.lst hr0 (by intro z; cases z)
    have len : (refC ks).length = (ks.map (·.2)).length := by unfold refC; rw [List.length_map, List.length_map]
    refine ⟨_, rfl, _, rfl, a, _, rfl, .inl (SqL.of (s1 _ _ nar hc.lst)), n, _, rfl, fun nb => ?_, fun ok => ?_⟩
    · have lt : LetsB r E CI [("part", .int 0)] H := bad 0 (by
        unfold faultC
        rw [hn]
        show (if _ then _ else _) = _
        rw [if_neg (by rw [← len]; exact nb)])
      intro d H' nd hd sg
      have nd0 : H d = none := by
        cases z : H d with
        | none => rfl
        | some o =>
          have y : d ≠ r := fun e => by
            rw [e, hr1] at nd
            cases nd
          rw [s1 _ _ y z] at nd
          cases nd
      exact lt d H' nd0 hd (sb_trans s1 (same_sb sg))
    · refine ⟨_, rfl, _, rfl, r, C, dx, _, rfl, hr1, T.cl, T.nN, by show 2 < 1000; decide, ?_⟩
      have nlr : l ≠ r := ne_of hm.lst hr1 (by intro z; cases z)
      refine good (by unfold faultC; rw [hn]; exact if_pos (by rw [← len]; exact ok)) _ l ms (fun b o nb e => ?_) nl (by rw [upd_same]; rfl) ⟨?_, fun q hq => ?_⟩ nw pm od
      · rw [upd_ne nb]
        exact s1 _ _ nb e
      · rw [upd_ne nlr]
        exact hm.lst
      · rw [upd_ne (ne_of (hm.each q hq) hr1 (by intro z; cases z))]
        exact hm.each q hq
theorem ok_sameinit {f c o d : Addr} {fd dc do_ dd : FuncData} (F : Fun K "__init__" "SameRule.__init__" cSameRuleInit f fd) (Ck : Cl P w K mg base (L2N.CX P w) 3 "_check_conditions" ["conditions"] (spCheck CI) c dc) (Io : Cl P w K mg base CX0 2 "_in_order" ["conditions"] spInOrder o do_)
    (Nd : Cl P w K mg base (L2N.CX P w) 3 "_check_need" ["need", "count"] (spNeed CI) d dd) (L : LTxt K mg) (Tx : PTxt K mg D) (T : RCls K C) : FnOk P w K mg base (L2N.CX P w) 5 f fd ["self", "places", "need"] (spSameInit CI C K) := by
  refine F.okN scSameInit (fun vs H Q E h => ?_) (fun cdv A outer s H vs Q E hr h => ?_)
  · obtain ⟨r, dx, a, ps, n, rfl, _⟩ := h
    rfl
  · obtain ⟨r, dx, a, ps, n, rfl, hr0, hp, few, bad, good⟩ := h
    obtain ⟨uS, hS, rS⟩ := Tx.stones
    have hr2 : Room 2 _ := hr.mono (by decide)
    have hr3 : Room 3 _ := hr.mono (by decide)
    refine ⟨_, (pss_cons (ps_setLc (i := 3) (own := [("dx", 4), ("dy", 5)]) (g := (gTup K 2 (gCons (gName 4) (gCons (gName 5) gNil)))) (tt := tYes) rfl scSameInit.nd rfl rfl (sw_true rfl rfl rfl (by decide +kernel)) (pi_list (pv 1)) (blkOk_by (own := [("dx", 4), ("dy", 5)]) (N := nSameInit) (sc := defScope cSameRuleInit) (by decide +kernel)) (fun _ _ _ _ _ => (pg_tup rfl (pgs_cons (pg_name (i := 4) scSameInit.nd rfl (.inl rfl)) (pgs_cons (pg_name (i := 5) scSameInit.nd rfl (.inl rfl)) pgs_nil)))) (fun _ _ _ _ _ => pts_nil) (fun _ _ _ _ _ => (pe_tup (pa_cons (pv 4) (pa_cons (pv 5) (pa_cons (pe_glob (by rfl) hS rS) pa_nil))))))
      (pss_cons (ps_expr (pe_callS (E := fun _ => E) Ck.ok hr3 (by rfl) Ck.gl Ck.kp Ck.bd (fun σ pins H s e s' I c => L2N.passes_call (L2N.takes_of rfl rfl rfl rfl) (fun _ _ _ _ z => z) pins σ H s e s' I c) (pa_cons (pv 3) pa_nil)))
      (pss_cons (ps_expr (pe_callS (E := fun _ => E) Nd.ok hr3 (by rfl) Nd.gl Nd.kp Nd.bd (fun σ pins H s e s' I c => L2N.passes_call (L2N.takes_of rfl rfl rfl rfl) (fun _ _ _ _ z => z) pins σ H s e s' I c) (pa_cons (pv 2) (pa_cons (pe_callB call_len_seq (by rfl) L.len PySem.boot_len (pa_cons (pv 3) pa_nil)) pa_nil))))
      (pss_cons (ps_fld (pv 0) pe_str rfl)
      (pss_cons (ps_fld (pv 0) (pv 2) rfl)
      (pss_one (ps_fld (pv 0) (pe_call Io.ok hr2 (by rfl) Io.gl Io.kp Io.bd .nil pass0 (pa_cons (pv 3) pa_nil)) rfl))))))), ?_⟩
    refine ⟨.ref a, rfl, a, rfl, ⟨_, SqL.of hp.lst⟩, fun D nD => lc_list (K := K) (a := a) (xs := ps.map fun q => V.ref q.1) (fun i G => ∃ ks : List (Addr × Cnd), Same H G ∧ G D = some (.lst (refC ks)) ∧ (∀ q ∈ ks, G q.1 = some (CondO q.2)) ∧ ks.map (·.2) = (ps.take i).map fun q => wideC q.2) ⟨[], same_upd nD, upd_same, (fun p hp => nomatch hp), rfl⟩ (fun i G _ ⟨ts, sm, _⟩ => SqL.of (sm _ _ hp.lst)) ?_ ?_⟩
    · rintro i x G hx ⟨ks, sm, hD, hks, ek⟩
      rw [List.getElem?_map] at hx
      obtain ⟨q, hi, rfl⟩ : ∃ q, ps[i]? = some q ∧ x = V.ref q.1 := by
        cases e : ps[i]? with
        | none =>
          rw [e] at hx
          cases hx
        | some p =>
          rw [e] at hx
          cases hx
          exact ⟨p, rfl, rfl⟩
      have htc := sm _ _ (hp.each q (List.mem_of_getElem? hi))
      have li : i < ps.length := (List.getElem?_eq_some_iff.mp hi).1
      refine ⟨q.1, _, rfl, SqT.of htc, rfl, _, _, rfl, _, _, rfl, rfl, rfl, ?_⟩
      refine tyes (iteT ⟨_, rfl, _, rfl, by show 3 ≤ sizeLine; decide, fun T nT => ?_⟩)
      have s3 := same_upd (o := .tup [.int q.2.1, .int q.2.2, .str alphaS]) nT
      have nDT : D ≠ T := ne_of_none hD nT
      refine ⟨refC ks, s3 _ _ hD, ?_, ks ++ [(T, wideC q.2)], fun b o e => ?_, ?_, fun p hp => ?_, ?_⟩
      · have := congrArg List.length ek
        rw [List.length_map, List.length_map, List.length_take] at this
        rw [show (refC ks).length = ks.length from List.length_map _]
        exact small1000 (by omega)
      · rw [upd_ne (ne_of_none e nD)]
        exact s3 _ _ (sm _ _ e)
      · rw [upd_same]
        unfold refC
        rw [List.map_append]
        rfl
      · rcases List.mem_append.mp hp with z | z
        · have y := s3 _ _ (hks p z)
          rw [upd_ne (fun e => ?_)]
          · exact y
          · rw [e, s3 _ _ hD] at y
            cases y
        · rw [List.mem_singleton.mp z]
          rw [upd_ne nDT.symm, upd_same]
          show _ = some (HO.tup [.int q.2.1, .int q.2.2, .str (S alphaL)])
          rw [alphaL_S]
      · rw [List.map_append, ek, List.take_add_one, hi, List.map_append]
        rfl
    · rintro G ⟨ks, sm, hD, hks, ek⟩
      rw [List.length_map, List.take_of_length_le (Nat.le_refl _)] at ek
      have lk : ks.length = ps.length := by
        have := congrArg List.length ek
        rwa [List.length_map, List.length_map] at this
      have hcG : CndsAt G D ks := ⟨hD, hks⟩
      have each : ∀ q ∈ ks, q.2.2.length ≤ 1000 := fun q hq => by
        have m : q.2 ∈ ks.map (·.2) := List.mem_map.mpr ⟨q, hq, rfl⟩
        rw [ek] at m
        obtain ⟨p, _, e⟩ := List.mem_map.mp m
        rw [← e]
        show alphaL.length ≤ 1000
        rw [alphaL_len]
        decide
      have back2 : ∀ {G2 : Hp}, Same H G2 → ∀ p, faultS (ps.map fun q => wideC q.2) n = some p → Lets E CI [("part", .int (p : Int))] G2 := fun {G2} sg p e d H' nd hd s => bad p e d H' (back sg nd) hd (same_sb (sg.trans s))
      refine ⟨_, rfl, D, ks, rfl, hcG, by omega, each, fun p hf => back2 sm p (by unfold faultS; rw [← ek, hf]), fun hn G1 s1 => ?_⟩
      have len : (refC ks).length = (ps.map fun q => wideC q.2).length := by
        unfold refC
        rw [List.length_map, List.length_map, lk]
      have hn2 : fstBad 1 [] (ps.map fun q => wideC q.2) = none := by rw [← ek]; exact hn
      refine ⟨_, rfl, _, rfl, D, _, rfl, .inl (SqL.of (s1 _ _ hD)), n, _, rfl, fun nb => back2 (sm.trans s1) 0 ?_, fun ok => ?_⟩
      · unfold faultS
        rw [hn2]
        exact if_neg (by rw [← len]; exact nb)
      have sG1 := sm.trans s1
      have hrG := sG1 _ _ hr0
      refine ⟨_, rfl, r, C, dx, [], rfl, hrG, T.cl, T.nS, by show 0 < 1000; decide, ?_⟩
      refine ⟨_, rfl, _, rfl, r, C, dx, _, rfl, upd_same, T.cl, T.nN, by show 1 < 1000; decide, ?_⟩
      have hcU : CndsAt (upd (upd G1 r (.ins C dx [("stone", .str "")])) r (.ins C dx [("stone", .str ""), ("need", .int n)])) D ks := by
        refine ⟨?_, fun q hq => ?_⟩
        · have ne := ne_of (s1 _ _ hD) hrG (by intro z; cases z)
          rw [upd_ne ne, upd_ne ne]
          exact s1 _ _ hD
        · have y := s1 _ _ (hks q hq)
          have ne := ne_of y hrG (by intro z; cases z)
          rw [upd_ne ne, upd_ne ne]
          exact y
      have nd : (ks.map fun q => q.2.1).Nodup := by
        have y := (fst_none hn).1
        rw [List.map_map] at y
        exact y
      refine ⟨_, rfl, D, ks, rfl, hcU, by omega, each, nd, fun l ms H2 s2 nl hm nw pm od => ?_⟩
      have hr2' : H2 r = some (.ins C dx [("stone", .str ""), ("need", .int n)]) := s2 _ _ upd_same
      refine ⟨_, rfl, r, C, dx, _, rfl, hr2', T.cl, T.nC, by show 2 < 1000; decide, ?_⟩
      have sbU : SameBut r H (upd (upd G1 r (.ins C dx [("stone", .str "")])) r (.ins C dx [("stone", .str ""), ("need", .int n)])) := fun b o nb e => by
        rw [upd_ne nb, upd_ne nb]
        exact sG1 _ _ e
      have nl0 : H l = none := by
        cases z : H l with
        | none => rfl
        | some o =>
          have y : l ≠ r := fun e => by
            have nl2 : upd (upd G1 r (.ins C dx [("stone", .str "")])) r (.ins C dx [("stone", .str ""), ("need", .int n)]) l = none := nl
            rw [e, upd_same] at nl2
            cases nl2
          have y2 := (sbU l _ y z).symm.trans nl
          cases y2
      have nw0 : New H ms := fun q hq => by
        cases z : H q.1 with
        | none => rfl
        | some o =>
          have y : q.1 ≠ r := fun e => by
            have n2 : upd (upd G1 r (.ins C dx [("stone", .str "")])) r (.ins C dx [("stone", .str ""), ("need", .int n)]) q.1 = none := nw q hq
            rw [e, upd_same] at n2
            cases n2
          have y2 := (sbU _ _ y z).symm.trans (nw q hq)
          cases y2
      have nlr : l ≠ r := ne_of hm.lst hr2' (by intro z; cases z)
      refine good (by unfold faultS; rw [hn2]; exact if_pos (by rw [← len]; exact ok)) _ l ms (fun b o nb e => ?_) nl0 (by rw [upd_same]; rfl) ⟨?_, fun q hq => ?_⟩ nw0 (by rw [← ek]; exact pm) od
      · rw [upd_ne nb]
        exact s2 _ _ (sbU b o nb e)
      · rw [upd_ne nlr]
        exact hm.lst
      · rw [upd_ne (ne_of (hm.each q hq) hr2' (by intro z; cases z))]
        exact hm.each q hq
theorem ok_readp {f g e : Addr} {fd gd ed : FuncData} (F : Fun K "_read_place" "_read_place" gReadPlace f fd) (G : Cl P w K mg base CX0 2 "_is_number" ["text"] spNumber g gd) (L : LTxt K mg) (Ex : EMk P w K mg base CI "InvalidRule" ["self", "part"] (spE1 CI "part") e ed) :
    FnOk P w K mg base (L2N.CX P w) 3 f fd ["word", "part"] (spReadP CI) := by
  refine F.okN scReadP (fun vs H Q E h => ?_) (fun cdv A outer s H vs Q E hr h => ?_)
  · obtain ⟨z, n, rfl, _⟩ := h
    rfl
  · obtain ⟨z, n, rfl, few, bad, good⟩ := h
    have hr2 : Room 2 _ := hr.mono (by decide)
    refine ⟨_, (pss_cons (ps_asg (pe_bm PySem.F.plainAttrs_str PySem.F.slot_str_partition PySem.F.type_str_partition mt_partition (pv 0) (pa_cons pe_str pa_nil)) (pg_tup rfl (pgs_cons (pg_name (i := 2) scReadP.nd rfl (.inl rfl)) (pgs_cons (pg_name (i := 3) scReadP.nd rfl (.inl rfl)) (pgs_cons (pg_name (i := 4) scReadP.nd rfl (.inl rfl)) pgs_nil)))))
      (pss_cons (ps_if (PW.pt (pw_or (pt_not (pt_val (pe_call G.ok hr (by rfl) G.gl G.kp G.bd .nil pass0 (pa_cons (pv 2) pa_nil)))) (pw_or1 (pt_not (pt_val (pe_call G.ok hr (by rfl) G.gl G.kp G.bd .nil pass0 (pa_cons (pv 4) pa_nil))))))) (pss_one (L2N.ps_raise rfl (L2N.takes_of rfl rfl rfl rfl) (Cmp.pmkN Ex.T Ex.at_ Ex.ty Ex.ok hr2 Ex.bd pass0 (by rfl) Ex.gl (pa_cons (pv 1) pa_nil)))) pss_nil)
      (pss_one (ps_ret (pe_tup (pa_cons (pe_callTy call_int_str (by rfl) L.int (by decide +kernel) (pa_cons (pv 2) pa_nil)) (pa_cons (pe_callTy call_int_str (by rfl) L.int (by decide +kernel) (pa_cons (pv 4) pa_nil)) pa_nil))))))), ?_⟩
    obtain ⟨m, em⟩ := part_S 44 z
    refine ⟨_, rfl, rfl, S z, S [44], rfl, by rw [← comma_S], by decide +kernel, by rw [len_S]; exact small_line few, fun T nT => ?_⟩
    rw [em]
    have sT := same_upd (o := .tup [.str (S (cutA 44 z)), .str m, .str (S (cutB 44 z))]) nT
    have hT : upd H T (.tup [.str (S (cutA 44 z)), .str m, .str (S (cutB 44 z))]) T = some (.tup [.str (S (cutA 44 z)), .str m, .str (S (cutB 44 z))]) := upd_same
    refine ⟨T, _, rfl, SqT.of hT, rfl, _, _, rfl, _, _, rfl, _, _, rfl, rfl, ?_⟩
    have out : readP z = none → ∀ x, upd H T (.tup [.str (S (cutA 44 z)), .str m, .str (S (cutB 44 z))]) x = none → ∀ H2 d, H2 x = some (exo x CI (some d)) → H2 d = some (exd d [("part", .int n)]) → upd (upd H T (.tup [.str (S (cutA 44 z)), .str m, .str (S (cutB 44 z))])) x (exo x CI none) d = none → d ≠ x → SameBut x (upd (upd H T (.tup [.str (S (cutA 44 z)), .str m, .str (S (cutB 44 z))])) x (exo x CI none)) H2 → E (.ref CI) (some d) (upd (del H2 x) d (.xd [("part", .int n)])) := fun nb x nx H2 d h1 h2 nd ne sb => by
      exact bad nb d _ (back sT (by rwa [upd_ne ne] at nd)) upd_same (sT.trans (on_way nx nd ne sb))
    have la := cutA_len 44 z
    have lb := cutB_len 44 z
    refine ⟨_, rfl, cutA 44 z, rfl, by omega, _, rfl, ?_⟩
    cases na : numB (cutA 44 z) with
    | false =>
      have nb : readP z = none := by unfold readP; rw [na]; simp
      refine iteT (iteT ⟨_, rfl, by show 1 ≤ 1000; decide, fun x nx => ⟨x, _, rfl, upd_same, fun H2 d h1 h2 nd ne sb => ⟨rfl, d, _, h1, h2, ?_, ?_⟩⟩⟩)
      · rwa [upd_ne ne] at nd
      · exact out nb x nx H2 d h1 h2 nd ne sb
    | true =>
      refine iteF ⟨_, rfl, cutB 44 z, rfl, by omega, _, rfl, ?_⟩
      cases nb : numB (cutB 44 z) with
      | false =>
        have nb : readP z = none := by unfold readP; rw [nb]; simp
        refine iteT ⟨_, rfl, by show 1 ≤ 1000; decide, fun x nx => ⟨x, _, rfl, upd_same, fun H2 d h1 h2 nd ne sb => ⟨rfl, d, _, h1, h2, ?_, ?_⟩⟩⟩
        · rwa [upd_ne ne] at nd
        · exact out nb x nx H2 d h1 h2 nd ne sb
      | true =>
        obtain ⟨e1, l1⟩ := int_num na
        obtain ⟨e2, l2⟩ := int_num nb
        refine iteF ⟨_, rfl, _, _, rfl, e1, by rw [len_S]; omega, _, rfl, _, _, rfl, e2, by rw [len_S]; omega, by show 2 ≤ sizeLine; decide, fun t nt => ?_⟩
        refine good (numV (cutA 44 z), numV (cutB 44 z)) (by unfold readP; rw [na, nb]; simp) t _ (sT.trans (same_upd nt)) (back sT nt) upd_same
theorem ok_readc {f g e : Addr} {fd gd ed : FuncData} (F : Fun K "_read_condition" "_read_condition" gReadCondition f fd) (G : Cl P w K mg base (L2N.CX P w) 3 "_read_place" ["word", "part"] (spReadP CI) g gd) (Ex : EMk P w K mg base CI "InvalidRule" ["self", "part"] (spE1 CI "part") e ed) :
    FnOk P w K mg base (L2N.CX P w) 4 f fd ["word", "part"] (spReadC CI) := by
  refine F.okN scReadC (fun vs H Q E h => ?_) (fun cdv A outer s H vs Q E hr h => ?_)
  · obtain ⟨z, n, rfl, _⟩ := h
    rfl
  · obtain ⟨z, n, rfl, few, bad, good⟩ := h
    have hr2 : Room 2 _ := hr.mono (by decide)
    have hr3 : Room 3 _ := hr
    refine ⟨_, (pss_cons (ps_asg (pe_bm PySem.F.plainAttrs_str PySem.F.slot_str_partition PySem.F.type_str_partition mt_partition (pv 0) (pa_cons pe_str pa_nil)) (pg_tup rfl (pgs_cons (pg_name (i := 2) scReadC.nd rfl (.inl rfl)) (pgs_cons (pg_name (i := 3) scReadC.nd rfl (.inl rfl)) (pgs_cons (pg_name (i := 4) scReadC.nd rfl (.inl rfl)) pgs_nil)))))
      (pss_cons (ps_if (pt_cmpR op_eq (pv 4) pe_str (nomark _)) (pss_one (L2N.ps_raise rfl (L2N.takes_of rfl rfl rfl rfl) (Cmp.pmkN Ex.T Ex.at_ Ex.ty Ex.ok hr2 Ex.bd pass0 (by rfl) Ex.gl (pa_cons (pv 1) pa_nil)))) pss_nil)
      (pss_cons (ps_asg (pe_callS (E := fun _ => E) G.ok hr3 (by rfl) G.gl G.kp G.bd (fun σ pins H s e s' I c => L2N.passes_call (L2N.takes_of rfl rfl rfl rfl) (fun _ _ _ _ z => z) pins σ H s e s' I c) (pa_cons (pv 2) (pa_cons (pv 1) pa_nil))) (pg_tup rfl (pgs_cons (pg_name (i := 5) scReadC.nd rfl (.inl rfl)) (pgs_cons (pg_name (i := 6) scReadC.nd rfl (.inl rfl)) pgs_nil))))
      (pss_one (ps_ret (pe_tup (pa_cons (pv 5) (pa_cons (pv 6) (pa_cons (pv 4) pa_nil))))))))), ?_⟩
    obtain ⟨m, em⟩ := part_S 58 z
    refine ⟨_, rfl, rfl, S z, S [58], rfl, by rw [← colon_S], by decide +kernel, by rw [len_S]; exact small_line few, fun T nT => ?_⟩
    rw [em]
    have sT := same_upd (o := .tup [.str (S (cutA 58 z)), .str m, .str (S (cutB 58 z))]) nT
    have hT : upd H T (.tup [.str (S (cutA 58 z)), .str m, .str (S (cutB 58 z))]) T = some (.tup [.str (S (cutA 58 z)), .str m, .str (S (cutB 58 z))]) := upd_same
    refine ⟨T, _, rfl, SqT.of hT, rfl, _, _, rfl, _, _, rfl, _, _, rfl, rfl, ?_⟩
    have la := cutA_len 58 z
    have e1 : decide (V.str (S (cutB 58 z)) = V.str ("" : Str)) = decide (cutB 58 z = []) := by
      rw [none_S]
      exact decide_eq_decide.mpr ⟨fun h => S_inj (V.str.inj h), fun h => by rw [h]⟩
    refine ⟨_, rfl, rfl, _, rfl, ?_⟩
    rw [e1]
    by_cases hb : cutB 58 z = []
    · rw [decide_eq_true hb]
      have nb : readC z = none := by unfold readC; rw [if_pos hb]
      refine iteT ⟨_, rfl, by show 1 ≤ 1000; decide, fun x nx => ⟨x, _, rfl, upd_same, fun H2 d h1 h2 nd ne sb => ⟨rfl, d, _, h1, h2, ?_, ?_⟩⟩⟩
      · rwa [upd_ne ne] at nd
      · exact bad nb d _ (back sT (by rwa [upd_ne ne] at nd)) upd_same (sT.trans (on_way nx nd ne sb))
    · rw [decide_eq_false hb]
      refine iteF ⟨_, rfl, _, rfl, cutA 58 z, n, rfl, by omega, fun nb => ?_, fun p ep t G sG nt ht => ?_⟩
      · have nb : readC z = none := by unfold readC; rw [if_neg hb, nb]; rfl
        exact fun d H' nd hd sg => bad nb d H' (back sT nd) hd (sT.trans sg)
      · refine ⟨t, _, rfl, SqT.of ht, rfl, _, _, rfl, _, _, rfl, rfl, ?_⟩
        refine ⟨_, rfl, _, rfl, _, rfl, by show 3 ≤ sizeLine; decide, fun t2 nt2 => ?_⟩
        have s1 := sT.trans sG
        exact good (p, cutB 58 z) (by unfold readC; rw [if_neg hb, ep]; rfl) t2 _ (s1.trans (same_upd nt2)) (back s1 nt2) upd_same
theorem ok_readX {f fD fI fP fC2 fR fC fS e : Addr} {fd dD dI dP dC2 dR dC dS ed : FuncData} (F : Fun K "read_rule" "read_rule" gReadRule f fd) (L : LTxt K mg) (W : WTx K mg) (T : PTxt K mg CP) (Gt : GTx mg CR CC CS) (Di : Cl P w K mg base CX0 1 "_is_digit" ["text"] spDigit fD dD) (Is : Cl P w K mg base CX0 1 "is_stone" ["sign"] spStone fI dI)
    (Rp : Cl P w K mg base (L2N.CX P w) 3 "_read_place" ["word", "part"] (spReadP CI) fP dP) (Rc : Cl P w K mg base (L2N.CX P w) 4 "_read_condition" ["word", "part"] (spReadC CI) fC2 dC2)
    (kR : CtorN P w K mg base CR 4 ["self", "stone", "conditions"] (spRuleInit CI K) fR dR) (kC : CtorN P w K mg base CC 5 ["self", "stone", "conditions", "need"] (spCountInit CI CC K) fC dC) (kS : CtorN P w K mg base CS 5 ["self", "places", "need"] (spSameInit CI CS K) fS dS)
    (Ex : EMk P w K mg base CI "InvalidRule" ["self", "part"] (spE1 CI "part") e ed) : FnOk P w K mg base (L2N.CX P w) 7 f fd ["line"] (spReadX CI CR CC CS) := by
  refine F.okN scRead (fun vs H Q E h => ?_) (fun cdv A outer s H vs Q E hr h => ?_)
  · obtain ⟨z, rfl, _⟩ := h
    rfl
  obtain ⟨z, rfl, lz, bad, k⟩ := h
  have hr1 : Room 1 _ := hr.mono (by decide)
  have hr2 : Room 2 _ := hr.mono (by decide)
  have hr3 : Room 3 _ := hr.mono (by decide)
  have hr4 : Room 4 _ := hr.mono (by decide)
  have hr5 : Room 5 _ := hr.mono (by decide)
  obtain ⟨uA, hA, rA⟩ := W.all
  obtain ⟨uS, hS, rS⟩ := W.same
  refine ⟨_, (pss_cons (ps_set (i := 1) scRead.nd rfl (.inl rfl) (pe_bm PySem.F.plainAttrs_str PySem.F.slot_str_split PySem.F.type_str_split mt_split (pv 0) (pa_cons pe_str pa_nil)))
    (pss_cons (ps_if (pt_cmpR op_lt (pe_callB call_len_seq (by rfl) L.len PySem.boot_len (pa_cons (pv 1) pa_nil)) pe_int (nomark _)) (pss_one (L2N.ps_raise rfl (L2N.takes_of rfl rfl rfl rfl) (Cmp.pmkN Ex.T Ex.at_ Ex.ty Ex.ok hr2 Ex.bd pass0 (by rfl) Ex.gl (pa_cons pe_int pa_nil)))) pss_nil)
    (pss_cons (ps_asg (pv 1) (pg_star (n := 3) (i := 2) rfl (pgs_cons (pg_name (i := 2) scRead.nd rfl (.inl rfl)) (pgs_cons (pg_name (i := 3) scRead.nd rfl (.inl rfl)) (pgs_star (pg_name (i := 4) scRead.nd rfl (.inl rfl)) pgs_nil)))))
    (pss_cons (ps_if (PW.pt (pw_and (pt_cmpR op_eq (pv 2) (pe_glob (by rfl) hS rS) (nomark _)) (pw_and1 (pt_val (pe_call Di.ok hr1 (by rfl) Di.gl Di.kp Di.bd .nil pass0 (pa_cons (pv 3) pa_nil)))))) (pss_one (ps_ret (pe_makeS (E := fun _ => E) kS.M kS.ok hr (by rfl) Gt.gS kS.bd (fun σ pins H s e s' I c => L2N.passes_call (L2N.takes_of rfl rfl rfl rfl) (fun _ _ _ _ z => z) pins σ H s e s' I c) (pa_cons (CmpN.pe_lcX (Eo := E) (own := [("part", 5), ("word", 6)]) (g := (gTup K 2 (gCons (gName 5) (gCons (gName 6) gNil)))) (te := (tCallS (spReadP CI) (fun _ => E) (tCons (tVar 6) (tCons (tVar 5) tNil)))) rfl scRead.nd rfl rfl (L2N.takes_of rfl rfl rfl rfl) (pi_enumS (by rfl) T.enum (pa_cons (pv 4) pa_nil) (pk_cons pe_int pk_nil)) (blkOk_by (own := [("part", 5), ("word", 6)]) (N := nRead) (sc := defScope gReadRule) (by decide +kernel)) (fun _ _ _ _ _ => (pg_tup rfl (pgs_cons (pg_name (i := 5) scRead.nd rfl (.inl rfl)) (pgs_cons (pg_name (i := 6) scRead.nd rfl (.inl rfl)) pgs_nil)))) (fun _ _ _ _ _ _ px => (pe_callS (E := fun _ => E) Rp.ok hr3 (by rfl) Rp.gl Rp.kp Rp.bd px (pa_cons (pv 6) (pa_cons (pv 5) pa_nil))))) (pa_cons (pe_callTy call_int_str (by rfl) L.int (by decide +kernel) (pa_cons (pv 3) pa_nil)) pa_nil))))) pss_nil)
    (pss_cons (ps_if (PW.pt (pw_or (pt_not (pt_val (pe_call Is.ok hr1 (by rfl) Is.gl Is.kp Is.bd .nil pass0 (pa_cons (pv 2) pa_nil)))) (pw_or1 (pt_not (PW.pt (pw_or (pt_cmpR op_eq (pv 3) (pe_glob (by rfl) hA rA) (nomark _)) (pw_or1 (pt_val (pe_call Di.ok hr1 (by rfl) Di.gl Di.kp Di.bd .nil pass0 (pa_cons (pv 3) pa_nil)))))))))) (pss_one (L2N.ps_raise rfl (L2N.takes_of rfl rfl rfl rfl) (Cmp.pmkN Ex.T Ex.at_ Ex.ty Ex.ok hr2 Ex.bd pass0 (by rfl) Ex.gl (pa_cons pe_int pa_nil)))) pss_nil)
    (pss_cons (CmpN.ps_setLcX (i := 7) (Eo := E) (own := [("part", 5), ("word", 6)]) (g := (gTup K 2 (gCons (gName 5) (gCons (gName 6) gNil)))) (te := (tCallS (spReadC CI) (fun _ => E) (tCons (tVar 6) (tCons (tVar 5) tNil)))) rfl scRead.nd rfl rfl (L2N.takes_of rfl rfl rfl rfl) rfl rfl (sw_true rfl rfl rfl (by decide +kernel)) (pi_enumS (by rfl) T.enum (pa_cons (pv 4) pa_nil) (pk_cons pe_int pk_nil)) (blkOk_by (own := [("part", 5), ("word", 6)]) (N := nRead) (sc := defScope gReadRule) (by decide +kernel)) (fun _ _ _ _ _ => (pg_tup rfl (pgs_cons (pg_name (i := 5) scRead.nd rfl (.inl rfl)) (pgs_cons (pg_name (i := 6) scRead.nd rfl (.inl rfl)) pgs_nil)))) (fun _ _ _ _ _ _ px => (pe_callS (E := fun _ => E) Rc.ok hr4 (by rfl) Rc.gl Rc.kp Rc.bd px (pa_cons (pv 6) (pa_cons (pv 5) pa_nil)))))
    (pss_cons (ps_if (pt_cmpR op_eq (pv 3) (pe_glob (by rfl) hA rA) (nomark _)) (pss_one (ps_ret (pe_makeS (E := fun _ => E) kR.M kR.ok hr5 (by rfl) Gt.gR kR.bd (fun σ pins H s e s' I c => L2N.passes_call (L2N.takes_of rfl rfl rfl rfl) (fun _ _ _ _ z => z) pins σ H s e s' I c) (pa_cons (pv 2) (pa_cons (pv 7) pa_nil))))) pss_nil)
    (pss_one (ps_ret (pe_makeS (E := fun _ => E) kC.M kC.ok hr (by rfl) Gt.gC kC.bd (fun σ pins H s e s' I c => L2N.passes_call (L2N.takes_of rfl rfl rfl rfl) (fun _ _ _ _ z => z) pins σ H s e s' I c) (pa_cons (pv 2) (pa_cons (pv 7) (pa_cons (pe_callTy call_int_str (by rfl) L.int (by decide +kernel) (pa_cons (pv 3) pa_nil)) pa_nil))))))))))))), ?_⟩
  refine ⟨_, rfl, rfl, S z, S [32], rfl, by rw [← space_S], by decide +kernel, by rw [len_S, sizeLine_eq]; omega, fun a na => ?_⟩
  rw [split_S (by decide) (by decide)]
  obtain ⟨sl1, sl2⟩ := spl_len z []
  have eF : readF z = match TL.spl [32] 0 [] z with
    | w0 :: w1 :: rest =>
      if w0 = sameL ∧ digB w1 = true then
        match readAll readP 1 rest with
        | .inl i => .inl i
        | .inr ps => match faultS (ps.map wideC) (numV w1) with
          | some p => .inl p
          | none => .inr (2, [], ps.map (fun p => (p, [97])), numV w1)
      else if stoneB w0 = true ∧ (w1 = allL ∨ digB w1 = true) then
        match readAll readC 1 rest with
        | .inl i => .inl i
        | .inr cs => if w1 = allL then
            match faultR w0 cs with
            | some p => .inl p
            | none => .inr (0, w0, cs, (cs.length : Int))
          else match faultC w0 cs (numV w1) with
            | some p => .inl p
            | none => .inr (1, w0, cs, numV w1)
      else .inl 0
    | _ => .inl 0 := rfl
  generalize TL.spl [32] 0 [] z = W at sl1 sl2 eF
  have s1 := same_upd (o := .lst ((W.map S).map V.str)) na
  have y1 : upd H a (.lst ((W.map S).map V.str)) a = some (.lst ((W.map S).map V.str)) := upd_same
  generalize upd H a (.lst ((W.map S).map V.str)) = H1 at s1 y1
  have zero : readF z = .inl 0 → ∀ G, Same H G → Lets E CI [("part", .int 0)] G := fun e G sG => (bad 0 e).up sG
  have lw : ((W.map S).map V.str).length = W.length := by rw [List.length_map, List.length_map]
  by_cases two : W.length < 2
  · refine ⟨_, rfl, a, _, rfl, .inl (SqL.of y1), _, _, rfl, rfl, _, rfl, iteTe (decide_eq_true (by rw [lw]; omega)) ?_⟩
    have e0 : readF z = .inl 0 := by
      rw [eF]
      match W, two with
      | [], _ => rfl
      | [_], _ => rfl
      | _ :: _ :: _, h => exact absurd h (by simp)
    refine ⟨by show 1 ≤ 1000; decide, fun x nx => ⟨x, _, rfl, upd_same, fun H2 d h1 h2 nd ne sb => ⟨rfl, d, _, h1, h2, ?_, ?_⟩⟩⟩
    · rwa [upd_ne ne] at nd
    · have nd1 : H1 d = none := by rwa [upd_ne ne] at nd
      exact zero e0 H1 s1 d _ nd1 upd_same (on_way nx nd ne sb)
  match W, two with
  | [], h => exact absurd (by show 0 < 2; decide) h
  | [_], h => exact absurd (by show 1 < 2; decide) h
  | w0 :: w1 :: rest, _ =>
  have y1 : H1 a = some (.lst (.str (S w0) :: .str (S w1) :: txtV rest)) := y1
  have l0 : w0.length ≤ 1000 := by
    have := sl1 w0 List.mem_cons_self
    simp at this
    omega
  have l1 : w1.length ≤ 1000 := by
    have := sl1 w1 (List.mem_cons_of_mem _ List.mem_cons_self)
    simp at this
    omega
  have lr : ∀ w ∈ rest, w.length ≤ 1000 := fun w m => by
    have := sl1 w (List.mem_cons_of_mem _ (List.mem_cons_of_mem _ m))
    simp at this
    omega
  have lrr : rest.length ≤ 900 := by
    rw [List.length_cons, List.length_cons] at sl2
    omega
  dsimp only at eF
  refine ⟨_, rfl, a, _, rfl, .inl (SqL.of y1), _, _, rfl, rfl, _, rfl, iteFe (decide_eq_false (by rw [List.length_cons, List.length_cons]; omega)) ?_⟩
  refine ⟨_, rfl, starTwo (SqL.of y1) (by rw [txtV_len]; omega) fun D nD => ?_⟩
  have s2 := s1.trans (same_upd (o := .lst (txtV rest)) nD)
  have y2 : upd H1 D (.lst (txtV rest)) D = some (.lst (txtV rest)) := upd_same
  generalize upd H1 D (.lst (txtV rest)) = H2 at s2 y2
  refine ⟨_, _, rfl, _, _, rfl, _, _, rfl, rfl, ?_⟩
  dsimp only
  refine seqIfN (b := decide (w0 = sameL) && digB w1) (fun _ q => tAndW (fun _ q1 => ⟨_, rfl, rfl, _, rfl, by rw [same_S, Tr.dec_tx]; exact q1⟩) (fun _ q1 => ⟨_, rfl, w1, rfl, l1, _, rfl, q1⟩) q) (fun e1 => ?_) (fun e1 => ?_)
  · rw [Bool.and_eq_true] at e1
    obtain ⟨c0, d1⟩ := e1
    have c0 := of_decide_eq_true c0
    obtain ⟨i1, i2⟩ := dig_num d1
    rw [if_pos ⟨c0, d1⟩] at eF
    refine ⟨_, rfl, D, _, rfl, rfl, SqL.of y2, fun B nB => lc_it walk_enS (fun i G => ∃ ns : List (Addr × (Int × Int)), Same H2 G ∧ G B = some (.lst (ns.map fun q => V.ref q.1)) ∧ (∀ q ∈ ns, G q.1 = some (PairO q.2)) ∧ (rest.take i).map readP = (ns.map (·.2)).map some) ⟨[], same_upd nB, upd_same, (fun p hp => nomatch hp), rfl⟩ (fun i G _ ⟨ns, sm, _⟩ => SqL.of (sm _ _ y2)) ?_ ?_⟩
    · rintro i x G G' hi ⟨ns, sm, hD, hns, en⟩ ⟨T, y, rfl, nT, rfl, hy⟩
      obtain ⟨wd, hw, rfl⟩ := txtV_get hy
      have li : i < rest.length := (List.getElem?_eq_some_iff.mp hw).1
      have sT := same_upd (o := .tup [.int ((i : Int) + 1), .str (S wd)]) nT
      refine ⟨T, _, rfl, SqT.of upd_same, rfl, _, _, rfl, _, _, rfl, rfl, rfl, ?_⟩
      refine tyes (iteT ⟨_, rfl, _, rfl, wd, (i : Int) + 1, rfl, lr wd (List.mem_of_getElem? hw), fun e => ?_, fun p ep t G2 s2' nt ht => ?_⟩)
      · have e5 : readF z = .inl (1 + i) := by rw [eF, readAll_bad en hw e]
        have q := (bad _ e5).up ((s2.trans sm).trans sT)
        rw [show (((1 + i : Nat)) : Int) = (i : Int) + 1 from by omega] at q
        exact q
      · have sA := sT.trans s2'
        obtain ⟨b1, b2, b3⟩ := listMore (O := PairO) (x := p) nB (sm.trans sA) (sA _ _ hD) (fun q m => sA _ _ (hns q m)) ht (fun _ _ e => by cases e)
        refine ⟨_, sA _ _ hD, ?_, ns ++ [(t, p)], b1, b2, b3, ?_⟩
        · have := congrArg List.length en
          rw [List.length_map, List.length_take, List.length_map, List.length_map] at this
          rw [List.length_map]
          exact small1000 (by omega)
        · rw [List.take_add_one, hw, List.map_append, en, List.map_append, List.map_append]
          show _ ++ [readP wd] = _
          rw [ep]
          rfl
    · rintro G ⟨ns, sm, hD, hns, en⟩
      rw [txtV_len, List.take_of_length_le (Nat.le_refl _)] at en
      have ln : ns.length = rest.length := by
        have := congrArg List.length en
        rw [List.length_map, List.length_map, List.length_map] at this
        exact this.symm
      rw [readAll_good en] at eF
      dsimp only at eF
      rw [List.map_map] at eF
      have eF : readF z = match faultS (ns.map fun q => wideC q.2) (numV w1) with
        | some p => .inl p
        | none => .inr (2, [], (ns.map (·.2)).map (fun p => (p, [97])), numV w1) := eF
      refine ⟨_, rfl, _, numV w1, rfl, i1, i2, fun r dx nx nd ne => ?_⟩
      refine ⟨r, dx, B, ns, numV w1, rfl, upd_same, ⟨made_same nx nd _ _ hD, fun q m => made_same nx nd _ _ (hns q m)⟩, by omega, fun p e => ?_, fun e H' l ms sb nl hr' hc' nw pm od => ⟨rfl, ?_⟩⟩
      · rw [e] at eF
        exact fun d H' nd2 hd sb => bad p eF d H' (back ((s2.trans sm).trans (made_same nx nd)) nd2) hd (s2.trans (sm.trans (made_but nx nd sb)))
      · rw [e] at eF
        refine k 2 [] _ _ eF r H' dx l ms (s2.trans (sm.trans (made_but nx nd sb))) hr' hc' (back (s2.trans sm) nx) (back (s2.trans (sm.trans (made_same nx nd))) nl) (fun q m => back (s2.trans (sm.trans (made_same nx nd))) (nw q m)) ?_ od
        rw [if_pos rfl, List.map_map, List.map_map]
        rw [List.map_map] at pm
        exact pm
  · have cn : ¬ (w0 = sameL ∧ digB w1 = true) := fun ⟨x, y⟩ => by
      rw [decide_eq_true x, y] at e1
      cases e1
    rw [if_neg cn] at eF
    refine seqIfN (b := !stoneB w0 || !(decide (w1 = allL) || digB w1)) (fun _ q => tOrW (fun _ q1 => tNotW (b := stoneB w0) (fun Q' k' => ⟨_, rfl, w0, rfl, l0, _, rfl, k'⟩) q1) (fun _ q1 => tNotW (b := decide (w1 = allL) || digB w1) (fun Q' k' => tOrW (fun Q2 k3 => ⟨_, rfl, rfl, _, rfl, by rw [all_S, Tr.dec_tx]; exact k3⟩) (fun Q2 k3 => ⟨_, rfl, w1, rfl, l1, _, rfl, k3⟩) k') q1) q) (fun e2 => ?_) (fun e2 => ?_)
    · have np : ¬ (stoneB w0 = true ∧ (w1 = allL ∨ digB w1 = true)) := fun ⟨x, y⟩ => by
        rw [x] at e2
        rcases y with y | y
        · rw [decide_eq_true y] at e2
          cases e2
        · rw [y, Bool.or_true] at e2
          cases e2
      have e0 : readF z = .inl 0 := by rw [eF, if_neg np]
      refine ⟨by show 1 ≤ 1000; decide, fun x nx => ⟨x, _, rfl, upd_same, fun H3 d h1 h2 nd ne sb => ⟨rfl, d, _, h1, h2, ?_, ?_⟩⟩⟩
      · rwa [upd_ne ne] at nd
      · have nd1 : H2 d = none := by rwa [upd_ne ne] at nd
        exact zero e0 H2 s2 d _ nd1 upd_same (on_way nx nd ne sb)
    have cy : stoneB w0 = true ∧ (w1 = allL ∨ digB w1 = true) := by
      cases x : stoneB w0 with
      | false => rw [x] at e2; cases e2
      | true =>
        refine ⟨rfl, ?_⟩
        by_cases y : w1 = allL
        · exact .inl y
        · rw [x, decide_eq_false y] at e2
          cases v : digB w1 with
          | false => rw [v] at e2; cases e2
          | true => exact .inr rfl
    rw [if_pos cy] at eF
    refine ⟨_, rfl, D, _, rfl, rfl, SqL.of y2, fun B nB => lc_it walk_enS (fun i G => ∃ ks : List (Addr × Cnd), Same H2 G ∧ G B = some (.lst (refC ks)) ∧ (∀ q ∈ ks, G q.1 = some (CondO q.2)) ∧ (rest.take i).map readC = (ks.map (·.2)).map some) ⟨[], same_upd nB, upd_same, (fun p hp => nomatch hp), rfl⟩ (fun i G _ ⟨ns, sm, _⟩ => SqL.of (sm _ _ y2)) ?_ ?_⟩
    · rintro i x G G' hi ⟨ks, sm, hD, hns, en⟩ ⟨T, y, rfl, nT, rfl, hy⟩
      obtain ⟨wd, hw, rfl⟩ := txtV_get hy
      have li : i < rest.length := (List.getElem?_eq_some_iff.mp hw).1
      have sT := same_upd (o := .tup [.int ((i : Int) + 1), .str (S wd)]) nT
      refine ⟨T, _, rfl, SqT.of upd_same, rfl, _, _, rfl, _, _, rfl, rfl, rfl, ?_⟩
      refine tyes (iteT ⟨_, rfl, _, rfl, wd, (i : Int) + 1, rfl, lr wd (List.mem_of_getElem? hw), fun e => ?_, fun p ep t G2 s2' nt ht => ?_⟩)
      · have e5 : readF z = .inl (1 + i) := by rw [eF, readAll_bad en hw e]
        have q := (bad _ e5).up ((s2.trans sm).trans sT)
        rw [show (((1 + i : Nat)) : Int) = (i : Int) + 1 from by omega] at q
        exact q
      · have sA := sT.trans s2'
        obtain ⟨b1, b2, b3⟩ := listMore (O := CondO) (x := p) nB (sm.trans sA) (sA _ _ hD) (fun q m => sA _ _ (hns q m)) ht (fun _ _ e => by cases e)
        refine ⟨_, sA _ _ hD, ?_, ks ++ [(t, p)], b1, b2, b3, ?_⟩
        · have := congrArg List.length en
          rw [List.length_map, List.length_take, List.length_map, List.length_map] at this
          rw [show (refC ks).length = ks.length from List.length_map _]
          exact small1000 (by omega)
        · rw [List.take_add_one, hw, List.map_append, en, List.map_append, List.map_append]
          show _ ++ [readC wd] = _
          rw [ep]
          rfl
    rintro G ⟨ks, sm, hD, hns, en⟩
    rw [txtV_len, List.take_of_length_le (Nat.le_refl _)] at en
    have ln : ks.length = rest.length := by
      have := congrArg List.length en
      rw [List.length_map, List.length_map, List.length_map] at this
      exact this.symm
    have each : ∀ q ∈ ks, q.2.2.length ≤ 1000 := fun q m => by
      have m1 : some q.2 ∈ rest.map readC := by
        rw [en]
        exact List.mem_map.mpr ⟨q.2, List.mem_map.mpr ⟨q, m, rfl⟩, rfl⟩
      obtain ⟨wd, mw, ew⟩ := List.mem_map.mp m1
      exact Nat.le_trans (readC_len ew) (lr wd mw)
    rw [readAll_good en] at eF
    dsimp only at eF
    refine ⟨_, rfl, rfl, _, rfl, ?_⟩
    rw [all_S, Tr.dec_tx]
    by_cases a1 : w1 = allL
    · rw [if_pos a1] at eF
      refine iteTe (decide_eq_true a1) ⟨_, rfl, _, rfl, fun r dx nx nd ne => ?_⟩
      refine ⟨r, dx, CR, w0, B, ks, rfl, kR.T, upd_same, ⟨made_same nx nd _ _ hD, fun p m => made_same nx nd _ _ (hns p m)⟩, l0, by omega, each, fun p e => ?_, fun e H' l ms sb nl hr' hc' nw pm od => ⟨rfl, ?_⟩⟩
      · rw [e] at eF
        exact fun d H' nd2 hd sb => bad p eF d H' (back ((s2.trans sm).trans (made_same nx nd)) nd2) hd (s2.trans (sm.trans (made_but nx nd sb)))
      · rw [e] at eF
        refine k 0 w0 _ _ eF r H' dx l ms (s2.trans (sm.trans (made_but nx nd sb))) hr' hc' (back (s2.trans sm) nx) (back (s2.trans (sm.trans (made_same nx nd))) nl) (fun q m => back (s2.trans (sm.trans (made_same nx nd))) (nw q m)) ?_ od
        rw [if_neg (by decide)]
        exact pm
    · have d1 : digB w1 = true := cy.2.elim (fun y => absurd y a1) id
      obtain ⟨i1, i2⟩ := dig_num d1
      rw [if_neg a1] at eF
      refine iteFe (decide_eq_false a1) ⟨_, rfl, _, rfl, _, rfl, _, numV w1, rfl, i1, i2, fun r dx nx nd ne => ?_⟩
      refine ⟨r, dx, w0, B, ks, numV w1, rfl, upd_same, ⟨made_same nx nd _ _ hD, fun p m => made_same nx nd _ _ (hns p m)⟩, l0, by omega, each, fun p e => ?_, fun e H' l ms sb nl hr' hc' nw pm od => ⟨rfl, ?_⟩⟩
      · rw [e] at eF
        exact fun d H' nd2 hd sb => bad p eF d H' (back ((s2.trans sm).trans (made_same nx nd)) nd2) hd (s2.trans (sm.trans (made_but nx nd sb)))
      · rw [e] at eF
        refine k 1 w0 _ _ eF r H' dx l ms (s2.trans (sm.trans (made_but nx nd sb))) hr' hc' (back (s2.trans sm) nx) (back (s2.trans (sm.trans (made_same nx nd))) nl) (fun q m => back (s2.trans (sm.trans (made_same nx nd))) (nw q m)) ?_ od
        rw [if_neg (by decide)]
        exact pm
end
end PmN
namespace Pm
open PySem PySem.Spec PyProof.Rows L2 SX
/-! ### a def that is called where an error is handled, whatever error it is -/
structure FnW (P : Program) (w : World) (K : PySem.W.Frag) (mg : Str → Option Value) (base : Heap) (CXf : CXT) (k : Nat) (f : Addr) (fd : FuncData) (ps : List Str) (sp : Sp) : Prop where
  len : ∀ vs H Q E, sp vs H Q E → vs.length = ps.length
  run : ∀ (A : Around) (outer : List Env) (s : Shared) (H : Hp) (args : Args) (us : List Value) (vs : List V) (Q : VK) (E : XK) (p : Addr × Obj), L2H.RoomH k A → L2H.PinOk outer H s p → Env0 P w K mg base A outer s H →
    BindsTo s fd args (ps.zip us) → Vals vs us → sp vs H Q E → codeAny (model P w) A (.call (.ref f) args) (CR CXf outer P w H s Q E) s
theorem fnW_of {CXf : CXT} {P : Program} {w : World} {K : PySem.W.Frag} {mg : Str → Option Value} {base : Heap} {k : Nat} {x qual : Str} {st : Stmt} {f : Addr} {fd : FuncData} {N ps : List Str} {sp : Sp} (F : Fun K x qual st f fd) (S : FnScope N ps (defScope st))
    (len : ∀ vs H Q E, sp vs H Q E → vs.length = ps.length)
    (body : ∀ (cdv : Value) (A : Around) (outer : List Env) (s : Shared) (H : Hp) (vs : List V) (Q : VK) (E : XK) (p : Addr × Obj), L2H.RoomH k (A.deeper (envOfC qual (defScope st) s.heap.objs.size f cdv)) → sp vs H Q E →
      ∃ t, PSs (L2H.cxH CXf P w K mg base N qual (defScope st) f cdv A outer s H E p) (defBody st) t ∧ t { nx := fun _ G => Q .non G, rt := Q } (L2.start N vs) H) : FnW P w K mg base CXf (k + 1) f fd ps sp := by
  obtain ⟨oc, od, kV, doc, pm, an, cdv, ct, osl, rfl, lk, hcd⟩ := F.ex
  constructor
  case len => exact len
  case run =>
    intro A outer s H args us vs Q E p room pin env0 bind rv asked
    have few := len _ _ _ _ asked
    have kin : K.In s.heap := env0.mod.kin.keeps fun b o e => (env0.bs b o e).1
    have unlimited : s.heap.NoLimit := env0.mod.nolimit.keeps fun b o e => (env0.bs b o e).1
    have kinds : ∀ y ∈ ps.zip us, (defScope st).names.lookup y.1 = some .local ∨ ((defScope st).names.lookup y.1 = some .cell ∧ ((cellsFrom (s.heap.objs.size + 1) (defScope st).names []).lookup y.1).isSome = true) := by
      rintro ⟨n, v⟩ hy
      rcases S.par n (List.of_mem_zip hy).1 with q | q
      · exact Or.inl q
      · exact Or.inr ⟨q, PySem.W.cellsFrom_some _ _ _ (.inl q)⟩
    refine codeAny_call_function room.depth (kin _ _ lk) rfl S.co S.gen rfl (PySem.W.codeRec_of kin hcd) (bind _ _ _ _ (wpAny_newFunctionEnv_cells S.kind kinds fun env he s1 call => ?_))
    subst he
    refine ⟨unlimited.keeps call.toInCall.keep, codeAny_func ?_⟩
    obtain ⟨t, ht, read⟩ := body cdv A outer s H vs Q E p (room.deeper _) asked
    have I := L2H.inv_startH (CX := CXf) (E := E) S pin env0 few rv call
    refine wpAny_mono (ht.run [] s1 (L2.start N vs) H _ I read) (fun fl s2 z => ?_) fun _ _ z => z
    cases fl with
    | ret u =>
      obtain ⟨v, _, G, J, ru, q⟩ := z
      exact ⟨v, G, J.os, J.bare, J.base, J.hok, ru, q⟩
    | next =>
      obtain ⟨_, G, J, q⟩ := z
      exact ⟨V.non, G, J.os, J.bare, J.base, J.hok, rfl, q⟩
    | brk =>
      obtain ⟨_, _, _, q⟩ := z
      exact q.elim
    | cont =>
      obtain ⟨_, _, _, q⟩ := z
      exact q.elim
section
variable {X : Cx} {CXf : CXT} {k : Nat} {f : Addr} {fd : FuncData} {ps : List Str} {sp : Sp} {x : Str} {q pos : Pos} {e : Expr} {es : List Expr} {t : TA}
/-- f(e, ..) where something is pinned; nothing that is raised leaves f -/
theorem pe_callW {p : Addr × Obj} (F : FnW X.prog X.w X.K X.mg X.base CX0 k f fd ps sp) (hr : L2H.RoomH k X.A) (hp : p ∈ X.pn) (hg : Gl X x) (hm : X.mg x = some (.ref f)) (hk : PySem.W.keepIn X.K (.ref f) = true) (hb : Binds X.K fd ps []) (ha : PA X (e :: es) t)
    (dbg : (x == ("__debug__" : Str)) = false := by decide) (st : starEach (e :: es) X.env = (false, eval e X.env) :: starEach es X.env := by rfl) (pl : (backTo pos (starEach es X.env)).any (·.1) = false := by rfl) :
    PE X (.Call (.Name x q) (e :: es) [] pos) (tCall sp [] E0 t) := by
  refine ⟨fun pins s σ H Q I h => wpAny_Call_Name_kw (ld_glob I hg hm ?_ dbg)⟩
  refine PySem.W.callWith_K (h₀ := X.base) I.ok.mod.kin hk (thn (ha.run pos pins s σ H _ I h) fun us s1 ⟨vs, H1, I1, rv, asked⟩ => ⟨I1.kIn, ?_⟩) st pl
  have asked : sp (vs ++ []) H1 Q E0 := asked
  rw [List.append_nil] at asked
  show wpAny _ _ (call (.ref f) us) _ _ _
  have len : us.length = ps.length := rv.length.symm.trans (F.len _ _ _ _ asked)
  have bind := hb s1 us I1.kIn (by rw [List.append_nil]; exact len)
  rw [List.append_nil] at bind
  obtain ⟨p1, p2, p3, p4, p5⟩ := I1.pin p (List.mem_append_left _ hp)
  have pin : L2H.PinOk X.stack H1 s1 p := ⟨p1, p2, fun hm => (List.mem_cons.mp (I1.stkSub p.1 hm)).elim p3 p4, p5⟩
  refine wpAny_call (codeAny_mono (F.run X.A X.stack s1 H1 ⟨us, []⟩ us vs Q E0 p hr pin I1.env0 bind rv asked) fun r s2 z => ?_)
  cases r with
  | error er => exact z.elim
  | ok fl =>
    cases fl with
    | ret u => exact I1.after z
    | next => exact z.elim
    | brk => exact z.elim
    | cont => exact z.elim
end
end Pm
/-! ### a line of a book, of any form -/
namespace Pm
open PySem PySem.Spec PyProof.Rows L2 SX NdefX
section
variable {P : Program} {w : World} {K : PySem.W.Frag} {mg : Str → Option Value} {base : Heap} {C CI CV CR CC CS : Addr}
theorem fnH_W {k : Nat} {f : Addr} {fd : FuncData} {ps : List Str} {sp : Sp} (F : FnW P w K mg base CX0 k f fd ps sp) : L2H.FnH P w K mg base CX0 k f fd ps sp := ⟨F.len, fun A outer s H args us vs Q E p r _ pin e b v a => F.run A outer s H args us vs Q E p r pin e b v a⟩
theorem scEBookH : FnScope ["self", "line"] ["self", "line"] (defScope cInvalidBookInit) := ⟨rfl, rfl, rfl, by decide +kernel, rfl, by decide +kernel, by decide +kernel⟩
theorem hotEInvalidBook {f C : Addr} {fd : FuncData} (F : Fun K "__init__" "InvalidBook.__init__" cInvalidBookInit f fd) (T : OexC K C) (nx : PySem.W.findIn K (.ref C) "line" = some none) : FnW P w K mg base CX0 1 f fd ["self", "line"] (spE1 C "line") := by
  refine fnW_of F scEBookH (fun vs H Q E h => ?_) (fun cdv A outer s H vs Q E p hr h => ?_)
  · obtain ⟨a, v, rfl, _⟩ := h
    rfl
  · obtain ⟨a, v, rfl, ha, k⟩ := h
    refine ⟨_, pss_one (ps_ost (pv 0) (pv 1)), ?_⟩
    refine ⟨_, rfl, _, rfl, a, C, rfl, T, nx, .inl ⟨ha, fun dx nd ne => ?_⟩⟩
    refine k _ dx upd_same (by rw [upd_ne ne, upd_same]) nd ne fun b o nb e => ?_
    rw [upd_ne nb, upd_ne (ne_of_none e nd)]
    exact e
def spLineX (CV CR CC CS : Addr) : Sp := fun vs H Q E => ∃ z n, vs = [.str (S z), .int n] ∧ z.length ≤ 900 ∧ (∀ p, readF z = .inl p → Lets E CV [("line", .int n)] H) ∧
  (∀ κ w0 need cs, readF z = .inr (κ, w0, cs, need) → ∀ r H' dx l ms, Same H H' → H' r = some (.ins (clsOf CR CC CS κ) dx (fvD κ w0 need l)) → CndsAt H' l ms → H r = none → H l = none → New H ms → (ms.map (·.2)).Perm (if κ = 2 then cs.map fun c => ascC (wideC c.1) else cs.map ascC) → Ord (ms.map (·.2)) → Q (.ref r) H')
theorem scLineX : FnScope ["text", "line"] ["text", "line"] (defScope gReadLine) := ⟨rfl, rfl, rfl, by decide +kernel, rfl, by decide +kernel, by decide +kernel⟩
theorem ok_lineX {f r e : Addr} {fd rd ed : FuncData} (F : Fun K "_read_line" "_read_line" gReadLine f fd) (Rd : Cl P w K mg base (L2N.CX P w) 7 "read_rule" ["line"] (spReadX CI CR CC CS) r rd) (gI : mg "InvalidRule" = some (.ref CI)) (te : PySem.W.exmOne K (.ref CI) (.ref CI) = some true)
    (T : OexC K CV) (at_ : PySem.W.findIn K (.ref CV) "__init__" = some (some (.ref e))) (ty : PySem.W.typeIn K (.ref e) = some (.type "function")) (OH : FnW P w K mg base CX0 1 e ed ["self", "line"] (spE1 CV "line")) (bd : Binds K ed ["self", "line"] []) (gl : mg "InvalidBook" = some (.ref CV)) :
    FnOk P w K mg base (L2.CX P w) 8 f fd ["text", "line"] (spLineX CV CR CC CS) := by
  refine F.okX scLineX (fun vs H Q E h => ?_) (fun cdv A outer s H vs Q E hr h => ?_)
  · obtain ⟨z, n, rfl, _⟩ := h
    rfl
  obtain ⟨z, n, rfl, lz, bad, k⟩ := h
  have hr2 : Room 2 _ := hr.mono (by decide)
  refine ⟨_, pss_one (L2H.ps_try_onlyX (c := .ref CI) (Wout := fun cls d _ H => E cls d H) (tb := fun W => tRet (tCallS (spReadX CI CR CC CS) (WE W) (tCons (tVar 0) tNil))) (ts := fun _ _ _ => fun _ σ H => tMkO CV (spE1 CV "line") [] (tCons (tVar 1) tNil) σ H fun cls d H' => E cls d H') rfl rfl ⟨rfl, by decide, .inl gI⟩ (fun hd => L2H.passesAt_of rfl hd) (L2.takes_of rfl rfl rfl rfl)
    (fun W pn xe tk _ _ => pss_one (ps_ret (by exact pe_callS (E := WE W) Rd.ok hr (by rfl) Rd.gl Rd.kp Rd.bd (fun σ => L2N.passAt tk σ) (by exact pa_cons (pv 0) pa_nil))))
    (fun a oe cls d pn hz hf tk hot => pss_one (by exact L2H.ps_raiseHN hot tk (L2H.pmk5_oexH T at_ ty (fnH_W OH) (L2H.roomH_mark hr2 _) hot bd pass0 (by rfl) gl (by exact pa_cons (pv 1) pa_nil))))), ?_⟩
  refine ⟨_, rfl, z, rfl, lz, fun p e d G nd hd sG => ?_, fun κ w0 need cs e r G dx l ms sG hr' hc nr nl nw pm od => k κ w0 need cs e r G dx l ms sG hr' hc nr nl nw pm od⟩
  refine ⟨true, te, fun _ ea na => ?_, fun z => nomatch z⟩
  refine ⟨_, rfl, by show 1 ≤ 1000; decide, fun x nx => ⟨x, _, rfl, upd_same, fun H2 d2 h1 h2 nd2 ne sb => ⟨rfl, d2, _, h1, h2, ?_, ?_⟩⟩⟩
  · rwa [upd_ne ne] at nd2
  · refine bad p e d2 _ ?_ upd_same (sG.trans (on_way nx nd2 ne sb))
    rw [upd_ne ne] at nd2
    cases q : H d2 with
    | none => rfl
    | some o =>
      rw [sG _ _ q] at nd2
      cases nd2
end
end Pm
/-! ### what a hand-written promise with new places gives to trees; a line of a book -/
namespace Tr
open PySem PySem.Spec PyProof.Rows L2 SX
/-- the frozen part with all that is new -/
def put (F H H' : Hp) : Hp := fun a => match H a with
  | none => H' a
  | some _ => F a
theorem put_new {F H H' : Hp} {a : Addr} {o : HO} (e : H' a = some o) (n : H a = none) : put F H H' a = some o := by
  unfold put
  rw [n]
  exact e
theorem put_old {F H H' : Hp} {a : Addr} {o : HO} (e : H a = some o) : put F H H' a = F a := by
  unfold put
  rw [e]
theorem put_gr {F H H' : Hp} (fh : Same F H) (s : Same H H') : Gr F H (put F H H') H' := ⟨fun a o e => by rw [put_old (fh _ _ e)]; exact e, s, fun a o e n => by rw [put_old e]; exact n⟩
theorem put_in {F H H' : Hp} (fh : Same F H) (s : Same H H') : Same (put F H H') H' := fun a o e => by
  cases z : H a with
  | none =>
    unfold put at e
    rw [z] at e
    exact e
  | some u =>
    rw [put_old z] at e
    exact s _ _ (fh _ _ e)
section
variable {X : Cx} {B : Hp × Hp} {Γ : Env} {ou : Out}
/-- try: body except C: suite, where the body raises nothing -/
theorem s_try {x : Str} {c : Value} {body suite : List Stmt} {b0 : Stmt} {np pos pos' : Pos} (hs : X.stack = X.env :: X.outer) (hf : X.env.frame = some X.env.locals) (hc : Names X x c) (tk : Takes X (fun _ _ _ _ => False))
    (hb : ∀ (W : WX) (pn : List (Addr × Obj)) (xe : Value → Shared → Prop), Takes (X.tr pn xe) W → OkSs (X.tr pn xe) B body Γ ou) :
    OkS X B (.Try body [.ExceptHandler (some (.Name x np)) none (b0 :: suite) pos'] [] [] pos) Γ ou :=
  PS.weak (ps_try_only (c := c) (tb := fun _ => tSt X.K B Γ ou) (ts := fun _ _ _ _ _ _ => False) hs hf hc tk (fun W pn xe t _ => hb W pn xe t) fun _ _ _ _ _ _ _ => ⟨fun _ _ _ _ _ _ q => q.elim⟩) fun _ _ _ q => q
end
end Tr
namespace Pm
open PySem PySem.Spec PyProof.Rows L2 SX NdefX Tr
/-! the rule that a line makes -/
def stOf (κ hue : Nat) : List Nat := if κ = 2 then [] else [hue]
def msOf (κ : Nat) (cs : List Cnd) : List Cnd := if κ = 2 then (ordC cs).map fun c => ascC (wideC c.1) else (ordC cs).map ascC
abbrev bornD (CR CC CS : Addr) (κ hue : Nat) (cs : List Cnd) (need : Int) : D := objD (clsOf CR CC CS κ) κ (stOf κ hue) need (msOf κ cs)
theorem Made.uniq {κ hue : Nat} {st : List Nat} {cs ms : List Cnd} (nd : (cs.map (·.1)).Nodup) (h : Made κ hue st cs ms) : st = stOf κ hue ∧ ms = msOf κ cs := by
  have k1 : List.Perm ((ordC cs).map (·.1)) (cs.map (·.1)) := (ordC_perm cs).map _
  have nd2 : ((ordC cs).map (·.1)).Nodup := k1.nodup_iff.mpr nd
  have keys : ∀ f : Cnd → Cnd, (∀ c, (f c).1 = c.1) → (((ordC cs).map f).map (·.1)).Nodup := fun f hf => by
    rw [List.map_map, show ((fun c : Cnd => c.1) ∘ f) = fun c => c.1 from funext hf]
    exact nd2
  unfold stOf msOf
  rcases h.2 with ⟨k, e, p⟩ | ⟨k, e, p⟩
  · rw [if_neg k, if_neg k]
    exact ⟨e, ord_uniq (p.trans ((ordC_perm cs).symm.map _)) (keys _ fun _ => rfl) h.1 (ord_map _ (fun _ => rfl) (ordC_ord cs))⟩
  · rw [if_pos k, if_pos k]
    exact ⟨e, ord_uniq (p.trans ((ordC_perm cs).symm.map _)) (keys _ fun _ => rfl) h.1 (ord_map _ (fun _ => rfl) (ordC_ord cs))⟩
section
variable {P : Program} {w : World} {K : PySem.W.Frag} {mg : Str → Option Value} {base : Heap} {C CI CB CR CC CS : Addr} {E : XK} {vs : List V} {H : Hp} {Q : VK}
theorem as_read {κ hue : Nat} {cs : List Cnd} {need : Int} (hG : GoodR κ hue cs need) (h : spT K [.tx (lineT κ [hue] need cs)] (bornD CR CC CS κ hue cs need) vs H Q E) : spRead CR CC CS vs H Q E := by
  obtain ⟨F, fh, r, k⟩ := h
  cases r with
  | cons r1 r =>
    cases r
    cases r1
    refine ⟨κ, hue, need, cs, rfl, hG, fun r st ms H' s f m => ?_⟩
    obtain ⟨rfl, rfl⟩ := m.uniq hG.nd
    obtain ⟨dx, l, ks, a, b, c, n1, n2, n3⟩ := f
    exact k _ _ _ (put_gr fh s) (put_in fh s) (RuleE.rep ⟨dx, l, ks, put_new a n1, ⟨put_new b.lst n2, fun q m => put_new (b.each q m) (n3 q m)⟩, c⟩)
/-! _read_line -/
def gLine (CR CC CS : Addr) (ds : List D) (d : D) : Prop := ∃ κ hue cs need n, GoodR κ hue cs need ∧ ds = [.tx (lineT κ [hue] need cs), .int n] ∧ d = bornD CR CC CS κ hue cs need
theorem scRdLine : FnScope ["text", "line"] ["text", "line"] (defScope gReadLine) := ⟨rfl, rfl, rfl, by decide +kernel, rfl, by decide +kernel, by decide +kernel⟩
theorem ok_rdline {f r : Addr} {fd rd : FuncData} (F : Fun K "_read_line" "_read_line" gReadLine f fd) (Rd : Cl P w K mg base CX0 7 "read_rule" ["line"] (spRead CR CC CS) r rd) (gI : mg "InvalidRule" = some (.ref CI)) : FnOk P w K mg base CX0 8 f fd ["text", "line"] (spG K (gLine CR CC CS)) := by
  refine F.ok scRdLine (spG_len fun ds d ⟨_, _, _, _, _, _, e, _⟩ => by rw [e]; rfl) (fun cdv A outer s H vs Q E hr h => ?_)
  obtain ⟨ds, d, ⟨κ, hue, cs, need, n, hG, rfl, rfl⟩, h⟩ := h
  obtain ⟨B, tw⟩ := tree_wish (N := ["text", "line"]) h (by show 2 ≤ 2; decide)
  refine ⟨_, (show OkSs _ B _ [.d (.tx (lineT κ [hue] need cs)), .d (.int n)] (.rt (bornD CR CC CS κ hue cs need)) from ?_), tw⟩
  refine s_one (s_try (c := .ref CI) rfl rfl ⟨rfl, by decide, .inl gI⟩ takes0 fun W pn xe tk => ?_)
  exact s_one (s_ret (t_call (fun h => pe_call Rd.ok hr (by rfl) Rd.gl Rd.kp Rd.bd .nil pass0 h) (a_cons (ok_var (pv 0) rfl) a_nil) fun _ _ _ q => as_read hG q))
end
end Pm
/-! ### enumerate(.., start=1), split, a class in a slot -/
namespace Tr
open PySem PySem.Spec PyProof.Rows L2 SX
def enumD (ds : List D) : List D := ds.zipIdx.map fun p => .tup [.int ((p.2 : Int) + 1), p.1]
section
variable {X : Cx} {B : Hp × Hp} {Γ : Env} {e : Expr} {es : List Expr} {E : L2.St → XK}
theorem i_enum1 {tg : Expr} {tk : TA} {ds : List D} (ho : ∀ {t : TA}, PA X es t → PI X tg e (Pm.iEnS X.K t tk)) (hk : ∀ σ H Q, Q [.int 1] H → tk σ H Q) (h : OkA X B es Γ [.lst ds]) : OkI X B tg e Γ (enumD ds) := PI.weak (ho h) fun σ H R ⟨F, w, k⟩ => ⟨F, w, fun vs F1 H1 w1 g1 r1 => hk _ _ _ (by
  cases r1 with
  | cons r1 r2 =>
    cases r2
    cases r1 with
    | @lst a us _ h1 r1 =>
      refine ⟨a, us, rfl, rfl, tofl (w1.fh _ _ h1), k _ F1 H1 w1 g1 ⟨_, _, by rw [show (enumD ds).length = us.length from by unfold enumD; rw [List.length_map, List.length_zipIdx, r1.length]]; exact Pm.walk_enS (K := X.K) (a := a) (xs := us), fun F H s fh => tofl (fh _ _ (s _ _ h1)), fun i F H v H' d s fh hd y => ?_⟩⟩
      obtain ⟨T, x, rfl, nT, rfl, hx⟩ := y
      obtain ⟨d', hd', rx⟩ := r1.atV hx
      unfold enumD at hd
      rw [List.getElem?_map, List.getElem?_zipIdx, hd'] at hd
      cases hd
      have g := Gr.new (o := .tup [.int ((i : Int) + 1), x]) fh nT
      refine ⟨_, g, same_both fh, ?_⟩
      show Rep X.K _ (.ref T) (.tup [.int (((0 + i : Nat) : Int) + 1), d'])
      rw [Nat.zero_add]
      exact .tup upd_same (.cons (.int _) (.cons ((rx.mono s).mono g.f) .nil)))⟩
theorem rm_split {K : PySem.W.Frag} {u v : List Nat} {ws : List (List Nat)} (e : Txt.split (S u) (S v) = ws.map S) (n : v ≠ []) (l : u.length ≤ 100000) :
    RMT K (fun x xs H Q => ∃ a b, x = .str a ∧ xs = [.str b] ∧ (b.length == 0) = false ∧ a.length + 2 ≤ sizeLine ∧ rNewStrs (Txt.split a b) H Q) (.tx u) [.tx v] (.lst (ws.map D.tx)) := fun F H fh x vs rx r Q q => by
  cases rx
  cases r with
  | cons r1 r =>
    cases r
    cases r1
    refine ⟨S u, S v, rfl, rfl, ?_, ?_, fun p np => ?_⟩
    · rw [lenS]
      cases v with
      | nil => exact absurd rfl n
      | cons => rfl
    · rw [lenS]
      exact Nat.le_trans (Nat.add_le_add_right l 2) (by decide)
    · rw [e]
      have g := Gr.new (o := .lst ((ws.map S).map V.str)) fh np
      refine q _ _ _ g (same_both fh) (.lst upd_same ?_)
      have go : ∀ {G : Hp} (zs : List (List Nat)), Reps K G ((zs.map S).map V.str) (zs.map D.tx) := fun {G} zs => by
        induction zs with
        | nil => exact .nil
        | cons z zs ih => exact .cons (.str _) ih
      exact go ws
/-- c(..), the class in slot i -/
theorem t_makeV {i : Nat} {C : Addr} {sp : Sp} {ds : List D} {fs : List (Str × D)} (ho : ∀ {t : TA}, PA X es t → PE X e (Pm.tMakeV i C sp E t)) (hc : Γ[i]? = some (.d (.val (.ref C)))) (ha : OkA X B es Γ ds) (h : ∀ vs H Q E, spI X.K C (fun ds' fs' => ds' = ds ∧ fs' = fs) vs H Q E → sp vs H Q E) : Ok X B e Γ (.obj C fs) :=
  PE.weak (ho ha) fun σ H Q ⟨F, w, k⟩ => ⟨by
    have li : i < Γ.length := (List.getElem?_eq_some_iff.mp hc).1
    have ls : i < σ.length := by rw [w.len]; exact li
    obtain ⟨v, e, r⟩ := w.sl i _ _ (List.getElem?_eq_getElem ls) hc
    cases r
    rw [List.getElem?_eq_getElem ls, e], F, w, fun vs F1 H1 w1 g1 r1 xa dx nx nd ne => by
    have keep : ∀ {a : Addr} {u : HO}, H1 a = some u → upd (upd H1 dx (.own xa)) xa (.ins C dx []) a = some u := fun {a u} e => by
      rw [upd_ne (ne_of_none e nx), upd_ne (ne_of_none e nd)]
      exact e
    refine h _ _ _ _ ⟨ds, fs, ⟨rfl, rfl⟩, xa, vs, dx, F1, rfl, upd_same, w1.fh.free nx, fun a u e => keep (w1.fh _ _ e), r1, fun F' H' sF sH ex fh hfv => ⟨rfl, ?_⟩⟩
    obtain ⟨fv, hx, hr⟩ := hfv
    have nF : F' xa = none := ex _ _ upd_same (w1.fh.free nx)
    have sx := sup (o := .ins C dx fv) nF
    have g : Gr F1 H1 (upd F' xa (.ins C dx fv)) H' := ⟨sF.trans sx, fun a u e => sH a u (ne_of_none e nx) (keep e), fun a u e n => by
      rw [upd_ne (ne_of_none e nx)]
      exact ex _ _ (keep e) n⟩
    have fh2 : Same (upd F' xa (.ins C dx fv)) H' := fun a u e => by
      by_cases y : a = xa
      · subst y
        rw [upd_same] at e
        rw [← e]
        exact hx
      · rw [upd_ne y] at e
        exact fh _ _ e
    exact k _ _ _ (w1.gr g fh2) (g1.trans g) (.obj upd_same (FReps.mono sx hr))⟩
end
end Tr
/-! ### texts of books -/
namespace Pm
open PySem PySem.Spec PyProof.Rows L2 SX NdefX Tr
/-- a drawn rule -/
structure RL where
  κ : Nat
  hue : Nat
  cs : List Cnd
  need : Int
abbrev RL.good (R : RL) : Prop := GoodR R.κ R.hue R.cs R.need
def RL.cs' (R : RL) : List Cnd := (ordC R.cs).map ascR
def RL.line (R : RL) : List Nat := writT R.κ R.hue R.cs R.need
def RL.born (CR CC CS : Addr) (R : RL) : D := bornD CR CC CS R.κ R.hue R.cs' R.need
abbrev RL.tree (R : RL) : D := ruleD R.κ R.hue R.cs R.need
def bookT (rs : List RL) : List Nat := TL.joinL [10] (rs.map RL.line)
abbrev bookD (CB : Addr) (xs : List D) : D := .obj CB [(("_rules" : Str), .lst xs)]
theorem Made.of {κ hue : Nat} {cs : List Cnd} : Made κ hue (stOf κ hue) cs (msOf κ cs) := by
  unfold stOf msOf
  by_cases k : κ = 2
  · rw [if_pos k, if_pos k]
    exact ⟨ord_map _ (fun _ => rfl) (ordC_ord cs), .inr ⟨k, rfl, (ordC_perm cs).map _⟩⟩
  · rw [if_neg k, if_neg k]
    exact ⟨ord_map _ (fun _ => rfl) (ordC_ord cs), .inl ⟨k, rfl, (ordC_perm cs).map _⟩⟩
theorem RL.line_is {R : RL} (h : R.good) : R.line = lineT R.κ [R.hue] R.need R.cs' := writ_line h.k3
theorem RL.made {R : RL} : Made R.κ R.hue (stOf R.κ R.hue) R.cs (msOf R.κ R.cs') := Made.asc Made.of
theorem RL.written {R : RL} (h : R.good) : lineT R.κ (stOf R.κ R.hue) R.need (msOf R.κ R.cs') = R.line := h.perm_line RL.made
theorem words_no10 {κ hue : Nat} {cs : List Cnd} {need : Int} (h : GoodR κ hue cs need) : ∀ z ∈ wordsT κ [hue] need cs, 10 ∉ z := by
  obtain ⟨_, tn⟩ := h.tiny
  intro z m
  rw [words_is h.k3] at m
  rcases List.mem_cons.mp m with rfl | m
  · unfold h1T
    split
    · decide
    · intro y
      have e := List.mem_singleton.mp y
      have := h.hue
      rw [← e] at this
      unfold Let at this
      omega
  · rcases List.mem_cons.mp m with rfl | m
    · unfold h2T
      split
      · decide
      · exact numT_no tn (by decide) (by decide)
    · unfold tailT at m
      split at m
      · obtain ⟨c, hc, rfl⟩ := List.mem_map.mp m
        obtain ⟨a, b, _⟩ := h.each_tiny hc
        exact pwT_no a b (by decide) (by decide) (by decide)
      · obtain ⟨c, hc, rfl⟩ := List.mem_map.mp m
        obtain ⟨a, b, _⟩ := h.each_tiny hc
        rw [cwT_is]
        intro y
        rcases List.mem_append.mp y with y | y
        · exact pwT_no a b (by decide) (by decide) (by decide) y
        · rcases List.mem_cons.mp y with e | y
          · cases e
          · rcases (h.each c hc).2.all 10 y with e | e
            · cases e
            · unfold Let at e
              omega
theorem not_join {c : Nat} (n : c ≠ 32) : ∀ {ws : List (List Nat)}, (∀ z ∈ ws, c ∉ z) → c ∉ TL.joinL [32] ws
  | [], _ => fun m => nomatch m
  | [z], h => h z List.mem_cons_self
  | z :: y :: r, h => fun m => by
    rcases List.mem_append.mp (show c ∈ z ++ ([32] ++ TL.joinL [32] (y :: r)) from m) with m | m
    · exact h z List.mem_cons_self m
    · rcases List.mem_append.mp m with m | m
      · exact n (List.mem_singleton.mp m)
      · exact not_join n (fun x hx => h x (List.mem_cons_of_mem _ hx)) m
theorem RL.line_no {R : RL} (h : R.good) : 10 ∉ R.line := by
  rw [RL.line_is h]
  exact not_join (by decide) (words_no10 h.asc)
theorem joinL_le (s : Nat) (m : Nat) : ∀ ws : List (List Nat), (∀ z ∈ ws, z.length ≤ m) → (TL.joinL [s] ws).length ≤ ws.length * (m + 1)
  | [], _ => Nat.zero_le _
  | [z], h => by
    have := h z List.mem_cons_self
    show z.length ≤ 1 * (m + 1)
    omega
  | z :: y :: r, h => by
    have h1 := h z List.mem_cons_self
    have h2 := joinL_le s m (y :: r) fun x hx => h x (List.mem_cons_of_mem _ hx)
    show (z ++ ([s] ++ TL.joinL [s] (y :: r))).length ≤ _
    rw [List.length_append, List.length_append, List.length_cons (a := z), Nat.succ_mul]
    show z.length + (1 + _) ≤ _
    omega
theorem RL.line_len {R : RL} (h : R.good) : R.line.length ≤ 510 := by
  have ho := h.ok.ord
  have few := h.few
  have q := joinL_le 32 50 (headW R.κ R.hue R.need ++ (ordC R.cs).map (wordW R.κ)) fun z m => by
    rcases List.mem_append.mp m with m | m
    · exact headW_each z m
    · obtain ⟨c, hc, rfl⟩ := List.mem_map.mp m
      exact wordW_len (ho.2 c hc).2.2
  rw [List.length_append, headW_len, List.length_map] at q
  have e : (2 + (ordC R.cs).length) * 51 ≤ 510 := by
    have := ho.1
    omega
  exact Nat.le_trans q e
theorem RL.line_ne {R : RL} (h : R.good) : R.line ≠ [] := by
  rw [RL.line_is h]
  unfold lineT
  rw [words_is h.k3]
  intro e
  have e2 : h1T R.κ R.hue ++ ([32] ++ TL.joinL [32] (h2T R.κ R.need :: tailT R.κ R.cs')) = [] := e
  have := (List.append_eq_nil_iff.mp (List.append_eq_nil_iff.mp e2).2).1
  cases this
theorem book_ne {rs : List RL} (h : ∀ R ∈ rs, R.good) : bookT rs = [] ↔ rs = [] := by
  match rs with
  | [] => exact ⟨fun _ => rfl, fun _ => rfl⟩
  | [R] => exact ⟨fun e => absurd e (RL.line_ne (h R List.mem_cons_self)), fun e => nomatch e⟩
  | R :: T :: r =>
    refine ⟨fun e => ?_, fun e => nomatch e⟩
    have e2 : R.line ++ ([10] ++ TL.joinL [10] ((T :: r).map RL.line)) = [] := e
    have := (List.append_eq_nil_iff.mp (List.append_eq_nil_iff.mp e2).2).1
    cases this
theorem book_len {rs : List RL} (h : ∀ R ∈ rs, R.good) : (bookT rs).length ≤ rs.length * 511 := by
  have q := joinL_le 10 510 (rs.map RL.line) fun z m => by
    obtain ⟨R, hR, rfl⟩ := List.mem_map.mp m
    exact RL.line_len (h R hR)
  rwa [List.length_map] at q
theorem book_split {rs : List RL} (h : ∀ R ∈ rs, R.good) (n : rs ≠ []) : Txt.split (S (bookT rs)) (S [10]) = (rs.map RL.line).map S := by
  rw [split_S (by decide) (by decide)]
  unfold bookT
  rw [spl_join (fun e => n (List.map_eq_nil_iff.mp e)) fun z m => by
    obtain ⟨R, hR, rfl⟩ := List.mem_map.mp m
    exact RL.line_no (h R hR)]
end Pm
/-! ### the methods of books -/
namespace Tr
open PySem PySem.Spec PyProof.Rows L2 SX
section
variable {X : Cx} {B : Hp × Hp} {Γ : Env} {e a b c : Expr} {i j k : Int}
theorem i_as {tg : Expr} {ds ds' : List D} (h : OkI X B tg e Γ ds) (q : ds = ds') : OkI X B tg e Γ ds' := q ▸ h
/-- i <= j < k -/
theorem o_leLt (ha : Ok X B a Γ (.int i)) (hb : Ok X B b Γ (.int j)) (hc : Ok X B c Γ (.int k)) (hm : lastMarks [.LtE, .Lt] [b, c] = false := by with_unfolding_all rfl) : OkT X B (.Compare a [.LtE, .Lt] [b, c] pos) Γ (decide (i ≤ j) && decide (j < k)) :=
  PT.weak (pt_chain op_le op_lt ha hb (PE.when (p := i ≤ j) fun _ => hc) hm) fun σ H Q ⟨F, w, q⟩ => ⟨F, w, fun v1 F1 H1 w1 g1 r1 => ⟨F1, w1, fun v2 F2 H2 w2 g2 r2 => by
    cases r1
    cases r2
    refine ⟨_, _, rfl, rfl, _, rfl, ?_⟩
    by_cases h : i ≤ j
    · rw [if_pos (decide_eq_true h)]
      refine ⟨h, F2, w2, fun v3 F3 H3 w3 g3 r3 => ?_⟩
      cases r3
      refine ⟨_, _, rfl, rfl, _, rfl, ?_⟩
      have := q F3 H3 w3 ((g1.trans g2).trans g3)
      rw [decide_eq_true h, Bool.true_and] at this
      exact this
    · rw [if_neg (by rw [decide_eq_false h]; decide)]
      have := q F2 H2 w2 (g1.trans g2)
      rw [decide_eq_false h, Bool.false_and] at this
      exact ⟨_, rfl, this⟩⟩⟩
end
end Tr
namespace Pm
open PySem PySem.Spec PyProof.Rows L2 SX NdefX Tr
structure BCls (K : PySem.W.Frag) (C : Addr) : Prop where
  cl : L2.Cls K C
  nR : NoAttr K C "_rules"
def MTx (mg : Str → Option Value) : Prop := ∃ u, mg "MOST_RULES" = some u ∧ RelV (.int 20) u
theorem RL.tiny {R : RL} (h : R.good) : Tiny (msOf R.κ R.cs') ∧ (stOf R.κ R.hue).length ≤ 1000 := by
  have m := RL.made (R := R)
  have few := h.few
  refine ⟨⟨by have := m.len; omega, fun c hc => ?_⟩, ?_⟩
  · rcases m.2 with ⟨_, _, p⟩ | ⟨_, _, p⟩
    · obtain ⟨d, hd, rfl⟩ := List.mem_map.mp (p.mem_iff.mp hc)
      obtain ⟨a, b, _, e⟩ := h.each_tiny hd
      exact ⟨a, b, by show (asc d.2).length ≤ 1000; rw [(asc_perm d.2).length_eq]; omega⟩
    · obtain ⟨d, hd, rfl⟩ := List.mem_map.mp (p.mem_iff.mp hc)
      obtain ⟨a, b, _, _⟩ := h.each_tiny hd
      exact ⟨a, b, by show (asc alphaL).length ≤ 1000; rw [(asc_perm alphaL).length_eq, alphaL_len]; decide⟩
  · rcases m.2 with ⟨_, e, _⟩ | ⟨_, e, _⟩ <;> rw [e]
    · show 1 ≤ 1000
      decide
    · show 0 ≤ 1000
      decide
theorem mem_fst {rs : List RL} {p : RL × Nat} (h : p ∈ rs.zipIdx) : p.1 ∈ rs := by
  obtain ⟨_, _, e⟩ := List.mem_zipIdx h
  rw [e]
  exact List.getElem_mem _
section
variable {P : Program} {w : World} {K : PySem.W.Frag} {mg : Str → Option Value} {base : Heap} {CI CP CB CV CR CC CS : Addr} {E : XK} {vs : List V} {H : Hp} {Q : VK}
theorem as_writ {R : RL} (h : R.good) (q : spT K [R.born CR CC CS] (.tx R.line) vs H Q E) : spWritten (clsOf CR CC CS R.κ) R.κ vs H Q E := by
  rw [← RL.written h] at q
  exact as_written (RL.tiny h).1 h.tiny.2 (RL.tiny h).2 q
/-! __init__ -/
def gBookI (ds : List D) (fs : List (Str × D)) : Prop := ∃ xs, xs.length ≤ 20 ∧ ds = [.lst xs] ∧ fs = [(("_rules" : Str), .lst xs)]
def spBookI (K : PySem.W.Frag) (CB CV : Addr) : Sp := fun vs H Q E => spI K CB gBookI vs H Q E ∨ ∃ x p us, vs = [.ref x, .ref p] ∧ H p = some (.lst us) ∧ 20 < us.length ∧ Lets E CV [("line", .int 21)] H
theorem scBookInit : FnScope ["self", "rules"] ["self", "rules"] (defScope cBookInit) := ⟨rfl, rfl, rfl, by decide +kernel, rfl, by decide +kernel, by decide +kernel⟩
theorem ok_bookI {f e : Addr} {fd ed : FuncData} (F : Fun K "__init__" "Book.__init__" cBookInit f fd) (L : LTxt K mg) (M : MTx mg) (T : BCls K CB) (xv : EMk P w K mg base CV "InvalidBook" ["self", "line"] (spE1 CV "line") e ed) : FnOk P w K mg base (L2.CX P w) 3 f fd ["self", "rules"] (spBookI K CB CV) := by
  refine F.okX scBookInit (fun vs H Q E h => ?_) (fun cdv A outer s H vs Q E hr h => ?_)
  · rcases h with ⟨_, _, ⟨xs, _, rfl, _⟩, x, us, dx, F, rfl, _, _, _, r, _⟩ | ⟨x, p, us, rfl, _⟩
    · show us.length + 1 = 2
      rw [r.length]
      rfl
    · rfl
  obtain ⟨uM, hM, rM⟩ := M
  have hr2 : Room 2 _ := hr
  rcases h with ⟨ds, fs, ⟨xs, few, rfl, rfl⟩, x, us, dx, F0, ev, hx, nx, fh, r, k⟩ | ⟨x, p, us, rfl, hp, big, out⟩
  · have tw := init_wish (N := ["self", "rules"]) (Γf := [.own (.o x dx CB [("_rules", .lst xs)]), .d (.lst xs)]) ev hx nx fh r (by show 2 ≤ 2; decide) k rfl
    refine ⟨_, (show OkSs _ _ _ [.own (.o x dx CB []), .d (.lst xs)] (.nx _) from ?_), tw⟩
    refine (s_ifNo (o_as (o_op (fun p q => pt_cmpR op_gt p q (nomark _)) (t_cb (fun h => pe_callB call_len_seq (by rfl) L.len PySem.boot_len h) (a_cons (ok_var (pv 1) rfl) a_nil) rc_len) (ok_c (pe_glob (v := .int 20) (by rfl) hM rM) (fun _ _ => .int _)) (r2_i fun _ => .bl _)) (decide_eq_false (by omega))) (s_one (s_fld (i := 0) (f := "_rules") (fs := []) (d := .lst xs) (fun h => ps_fld (pv 0) h rfl) rfl (t_cb (fun h => pe_callTy call_list_of (by rfl) L.lst (by decide +kernel) h) (a_cons (ok_var (pv 1) rfl) a_nil) rc_list) T.cl T.nR (by show 0 < 1000; decide))))
  · refine ⟨_, (pss_cons (ps_if (pt_cmpR op_gt (pe_callB call_len_seq (by rfl) L.len PySem.boot_len (pa_cons (pv 1) pa_nil)) (pe_glob (by rfl) hM rM) (nomark _)) (pss_one (ps_raise rfl (takes_of rfl rfl rfl rfl) (pmk_oex xv.T xv.at_ xv.ty xv.ok hr2 xv.bd .nil pass0 (by rfl) xv.gl (pa_cons (pe_op op_add (pe_glob (by rfl) hM rM) pe_int) pa_nil)))) pss_nil)
      (PSs.when (p := False) (t := fun _ _ _ => True) fun z => z.elim)), ?_⟩
    refine ⟨_, rfl, p, us, rfl, .inl (SqL.of hp), _, _, rfl, rfl, _, rfl, iteTe (decide_eq_true (by omega)) ?_⟩
    refine ⟨_, _, rfl, rfl, by show 1 ≤ 1000; decide, fun a na => ⟨a, _, rfl, upd_same, fun H2 d h1 h2 nd ne sb => ⟨rfl, d, _, h1, h2, ?_, ?_⟩⟩⟩
    · rwa [upd_ne ne] at nd
    · exact out d _ (by rwa [upd_ne ne] at nd) upd_same (on_way na nd ne sb)
/-! read -/
def gRead (CB CR CC CS : Addr) (ds : List D) (d : D) : Prop := ∃ rs : List RL, (∀ R ∈ rs, R.good) ∧ rs.length ≤ 20 ∧ ds = [.val (.ref CB), .tx (bookT rs)] ∧ d = bookD CB (rs.map (RL.born CR CC CS))
abbrev nBRead : List Str := ["cls", "text", "lines", "rules", "number", "line"]
theorem scBRead : FnScope nBRead ["cls", "text"] (defScope cBookRead) := ⟨rfl, rfl, rfl, by decide +kernel, rfl, by decide +kernel, by decide +kernel⟩
theorem ok_bread {f l i : Addr} {fd ld di : FuncData} (F : Fun K "read" "Book.read" cBookRead f fd) (L : LTxt K mg) (Tx : PTxt K mg CP) (M : MTx mg) (G : Cl P w K mg base CX0 8 "_read_line" ["text", "line"] (spG K (gLine CR CC CS)) l ld)
    (MI : Mk K CB i) (OI : FnOk P w K mg base (L2.CX P w) 3 i di ["self", "rules"] (spBookI K CB CV)) (bI : Binds K di ["self", "rules"] []) : FnOk P w K mg base CX0 9 f fd ["cls", "text"] (spG K (gRead CB CR CC CS)) := by
  refine F.ok scBRead (spG_len fun ds d ⟨_, _, _, e, _⟩ => by rw [e]; rfl) (fun cdv A outer s H vs Q E hr h => ?_)
  obtain ⟨ds, d, ⟨rs, good, few, rfl, rfl⟩, h⟩ := h
  obtain ⟨B, tw⟩ := tree_wish (N := nBRead) h (by show 2 ≤ 6; decide)
  refine ⟨_, (show OkSs _ B _ [.d (.val (.ref CB)), .d (.tx (bookT rs)), .no, .no, .no, .no] (.rt (bookD CB (rs.map (RL.born CR CC CS)))) from ?_), tw⟩
  obtain ⟨uM, hM, rM⟩ := M
  have hr4 : Room 4 _ := hr.mono (by decide)
  have ll : (bookT rs).length ≤ 100000 := by
    have := book_len good
    omega
  have sp : (!decide (bookT rs = [])) = true → Txt.split (S (bookT rs)) (S [10]) = (rs.map RL.line).map S := fun hb => book_split good fun e => by
    rw [(book_ne good).mpr e] at hb
    cases hb
  have e1 : (bif !decide (bookT rs = []) then D.lst ((rs.map RL.line).map D.tx) else .lst []) = .lst ((rs.map RL.line).map D.tx) := by
    by_cases y : bookT rs = []
    · rw [decide_eq_true y, (book_ne good).mp y]
      rfl
    · rw [decide_eq_false y]
      rfl
  have ln : ((rs.map RL.line).map D.tx).length = rs.length := by rw [List.length_map, List.length_map]
  have e2 : enumD (cutTr ((rs.map RL.line).map D.tx) none (some 20)) = rs.zipIdx.map fun p => .tup [.int ((p.2 : Int) + 1), .tx p.1.line] := by
    have c := cut_take ((rs.map RL.line).map D.tx) 20
    rw [show (some (20 : Int)) = some ((20 : Nat) : Int) from rfl, c, List.take_of_length_le (by omega)]
    unfold enumD
    rw [List.map_map, List.zipIdx_map, List.map_map]
    rfl
  have e3 : (rs.zipIdx.map fun p => p.1.born CR CC CS) = rs.map (RL.born CR CC CS) := by
    have := congrArg (List.map (RL.born CR CC CS)) (List.zipIdx_map_fst 0 rs)
    rw [List.map_map] at this
    exact this
  have lz : rs.zipIdx.length ≤ 90000 := by
    rw [List.length_zipIdx]
    omega
  rw [← e3]
  have lf : (rs.zipIdx.map fun p => p.1.born CR CC CS).length ≤ 20 := by
    rw [List.length_map, List.length_zipIdx]
    exact few
  refine (s_cons (s_set (i := 2) (fun h => ps_set (i := 2) scBRead.nd rfl (.inl rfl) h) (ok_as (t_if (o_op (fun p q => pt_cmpR op_ne p q (nomark _)) (ok_var (pv 1) rfl) (ok_tx (z := []) (by decide +kernel)) r2_neS) (fun hb => (t_bm (fun h g => pe_bm PySem.F.plainAttrs_str PySem.F.slot_str_split PySem.F.type_str_split mt_split h g) (ok_var (pv 1) rfl) (a_cons (ok_tx (z := [10]) (by decide +kernel)) a_nil) ty_str (rm_split (sp hb) (by decide) ll))) (fun hb => (t_lst a_nil (by show 0 ≤ 100000; decide)))) e1))
    (s_cons (s_setLc (i := 3) (vs := [4, 5]) (rs.zipIdx) (fun p => .tup [.int ((p.2 : Int) + 1), .tx p.1.line]) (fun k => _) (fun p => p.1.born CR CC CS) (fun h => by exact ps_setLc (i := 3) (own := [("number", 4), ("line", 5)]) (g := (gTup K 2 (gCons (gName 4) (gCons (gName 5) gNil)))) (tt := tYes) rfl scBRead.nd rfl rfl (sw_true rfl rfl rfl (by decide +kernel)) h (blkOk_by (own := [("number", 4), ("line", 5)]) (N := nBRead) (sc := defScope cBookRead) (by decide +kernel)) (fun _ _ _ _ _ => (pg_tup rfl (pgs_cons (pg_name (i := 4) scBRead.nd rfl (.inl rfl)) (pgs_cons (pg_name (i := 5) scBRead.nd rfl (.inl rfl)) pgs_nil)))) (fun _ _ _ _ _ => pts_nil) (fun _ _ _ _ _ => (pe_el fun B k m => (t_callG (fun h => pe_call G.ok hr (by rfl) G.gl G.kp G.bd .nil pass0 h) (a_cons (ok_var (pv 5) rfl) (a_cons (ok_var (pv 4) rfl) a_nil)) ⟨k.1.κ, k.1.hue, k.1.cs', k.1.need, (k.2 : Int) + 1, (good k.1 (mem_fst m)).asc, by rw [RL.line_is (good k.1 (mem_fst m))], rfl⟩)))) (i_as (i_enum1 (fun h => pi_enumS (by rfl) Tx.enum h (pk_cons pe_int pk_nil)) (fun _ _ _ q => q) (a_cons (t_slL (ok_var (pv 2) rfl) so_none (so_some (ok_c (pe_glob (v := .int 20) (by rfl) hM rM) (fun _ _ => .int _)))) a_nil)) e2) (fun _ _ _ => (b_tup (b_cons (b_name (i := 4) (by decide)) (b_cons (b_name (i := 5) (by decide)) b_nil)))) lz)
    (s_ifNo (o_as (o_op (fun p q => pt_cmpR op_gt p q (nomark _)) (t_cb (fun h => pe_callB call_len_seq (by rfl) L.len PySem.boot_len h) (a_cons (ok_var (pv 2) rfl) a_nil) rc_len) (ok_c (pe_glob (v := .int 20) (by rfl) hM rM) (fun _ _ => .int _)) (r2_i fun _ => .bl _)) (decide_eq_false (by omega)))
    (s_one (s_ret (t_makeV (i := 0) (fun h => pe_makeV (i := 0) (E := fun _ => E0) MI OI hr4 rfl (.inl rfl) bI (fun σ pins H s e s' I c => passF pins σ H s e s' I c) h) rfl (a_cons (ok_var (pv 3) rfl) a_nil) (fun _ _ _ _ ⟨_, _, ⟨e1, e2⟩, r⟩ => .inl ⟨_, _, ⟨_, lf, e1, e2⟩, r⟩)))))))
/-! text, rule, len -/
def gBText (CB CR CC CS : Addr) (ds : List D) (d : D) : Prop := ∃ rs : List RL, (∀ R ∈ rs, R.good) ∧ rs.length ≤ 20 ∧ ds = [bookD CB (rs.map (RL.born CR CC CS))] ∧ d = .tx (bookT rs)
abbrev nBText : List Str := ["self", "rule"]
theorem scBText : FnScope ["self", "rule"] ["self"] (defScope cBookText) := ⟨rfl, rfl, rfl, by decide +kernel, rfl, by decide +kernel, by decide +kernel⟩
theorem ok_btext {f : Addr} {fd : FuncData} (F : Fun K "text" "Book.text" cBookText f fd) (T : BCls K CB)
    (WR : ∀ κ, κ < 3 → ∃ g gd, Meth K (clsOf CR CC CS κ) "written" g ∧ FnOk P w K mg base CX0 2 g gd ["self"] (spWritten (clsOf CR CC CS κ) κ) ∧ Binds K gd ["self"] [] ∧ L2.Cls K (clsOf CR CC CS κ)) : FnOk P w K mg base CX0 3 f fd ["self"] (spG K (gBText CB CR CC CS)) := by
  refine F.ok scBText (spG_len fun ds d ⟨_, _, _, e, _⟩ => by rw [e]; rfl) (fun cdv A outer s H vs Q E hr h => ?_)
  obtain ⟨ds, d, ⟨rs, good, few, rfl, rfl⟩, h⟩ := h
  obtain ⟨B, tw⟩ := tree_wish (N := ["self", "rule"]) h (by show 1 ≤ 2; decide)
  refine ⟨_, (show OkSs _ B _ [.d (bookD CB (rs.map (RL.born CR CC CS))), .no] (.rt (.tx (bookT rs))) from ?_), tw⟩
  have e1 : D.lst (rs.map fun R => .tx R.line) = .lst ((rs.map RL.line).map D.tx) := by
    rw [List.map_map]
    rfl
  have j1 : ∀ z ∈ rs.map RL.line, z.length ≤ 510 := fun z m => by
    obtain ⟨R, hR, rfl⟩ := List.mem_map.mp m
    exact RL.line_len (good R hR)
  have j2 : (rs.map RL.line).length * (510 + [10].length) ≤ 16777216 := by
    rw [List.length_map]
    show rs.length * 511 ≤ _
    omega
  have few9 : rs.length ≤ 90000 := by omega
  refine (s_one (s_ret (t_bm (fun h g => pe_bm PySem.F.plainAttrs_str PySem.F.slot_str_join PySem.F.type_str_join mt_join h g) (ok_tx (z := [10]) (by decide +kernel)) (a_cons (ok_as (t_lc (vs := [1]) (rs) (RL.born CR CC CS) (fun k => _) (fun R => .tx R.line) (fun h => by exact pe_lc (own := [("rule", 1)]) (g := (gName 1)) (tt := tYes) rfl scBText.nd h (blkOk_by (own := [("rule", 1)]) (N := nBText) (sc := defScope cBookText) (by decide +kernel)) (fun _ _ _ _ _ => (pg_name (i := 1) scBText.nd rfl (.inl rfl))) (fun _ _ _ _ _ => pts_nil) (fun _ _ _ _ _ => (pe_el fun B k m => (by obtain ⟨g, gd, mW, OW, bW, cl⟩ := WR k.κ (good k m).k3; exact t_meth0 (fun h => pe_meth0 h cl mW OW hr bW .nil pass0) (ok_var (pv 1) rfl) (fs_low _ (by decide)) fun _ _ _ q => as_writ (good k m) q)))) (i_list (t_fld (ok_var (pv 0) rfl) T.cl T.nR rfl rfl)) (fun _ _ _ => (b_name (i := 1) (by decide))) few9) e1) a_nil) ty_str (rm_join 510 j1 j2))))
def gBRule (CB : Addr) (ds : List D) (d : D) : Prop := ∃ xs i, xs[i]? = some d ∧ ds = [bookD CB xs, .int (i : Nat)]
theorem scBRule : FnScope ["self", "number"] ["self", "number"] (defScope cBookRule) := ⟨rfl, rfl, rfl, by decide +kernel, rfl, by decide +kernel, by decide +kernel⟩
theorem ok_brule {f : Addr} {fd : FuncData} (F : Fun K "rule" "Book.rule" cBookRule f fd) (L : LTxt K mg) (T : BCls K CB) : FnOk P w K mg base CX0 1 f fd ["self", "number"] (spG K (gBRule CB)) := by
  refine F.ok scBRule (spG_len fun ds d ⟨_, _, _, e⟩ => by rw [e]; rfl) (fun cdv A outer s H vs Q E hr h => ?_)
  obtain ⟨ds, d, ⟨xs, i, hi, rfl⟩, h⟩ := h
  obtain ⟨B, tw⟩ := tree_wish (N := ["self", "number"]) h (by show 2 ≤ 2; decide)
  refine ⟨_, (show OkSs _ B _ [.d (bookD CB xs), .d (.int (i : Nat))] (.rt d) from ?_), tw⟩
  have li : i < xs.length := (List.getElem?_eq_some_iff.mp hi).1
  have at1 : atI xs (i : Int) = some d := atI_nat hi
  refine (s_ifNo (o_as (o_not (o_leLt ok_int (ok_var (pv 1) rfl) (t_cb (fun h => pe_callB call_len_seq (by rfl) L.len PySem.boot_len h) (a_cons (t_fld (ok_var (pv 0) rfl) T.cl T.nR rfl rfl) a_nil) rc_len))) (by rw [decide_eq_true (by omega), decide_eq_true (by omega)]; rfl))
    (s_one (s_ret (t_ixL (t_fld (ok_var (pv 0) rfl) T.cl T.nR rfl rfl) (ok_var (pv 1) rfl) at1 (fun _ _ => rfl)))))
def gBLen (CB : Addr) (ds : List D) (d : D) : Prop := ∃ xs : List D, ds = [bookD CB xs] ∧ d = .int (xs.length : Int)
theorem scBLen : FnScope ["self"] ["self"] (defScope cBookLen) := ⟨rfl, rfl, rfl, by decide +kernel, rfl, by decide +kernel, by decide +kernel⟩
theorem ok_blen {f : Addr} {fd : FuncData} (F : Fun K "__len__" "Book.__len__" cBookLen f fd) (L : LTxt K mg) (T : BCls K CB) : FnOk P w K mg base CX0 1 f fd ["self"] (spG K (gBLen CB)) := by
  refine F.ok scBLen (spG_len fun ds d ⟨_, e, _⟩ => by rw [e]; rfl) (fun cdv A outer s H vs Q E hr h => ?_)
  obtain ⟨ds, d, ⟨xs, rfl, rfl⟩, h⟩ := h
  obtain ⟨B, tw⟩ := tree_wish (N := ["self"]) h (by show 1 ≤ 1; decide)
  refine ⟨_, (show OkSs _ B _ [.d (bookD CB xs)] (.rt (.int (xs.length : Int))) from ?_), tw⟩
  refine (s_one (s_ret (t_cb (fun h => pe_callB call_len_seq (by rfl) L.len PySem.boot_len h) (a_cons (t_fld (ok_var (pv 0) rfl) T.cl T.nR rfl rfl) a_nil) rc_len)))
end
end Pm
/-! ### a book of a list (out of k15's Bp) -/
namespace Pm
open PySem PySem.Spec PyProof.Rows L2 SX NdefX Tr
section
variable {P : Program} {w : World} {K : PySem.W.Frag} {mg : Str → Option Value} {base : Heap} {CB : Addr}
def spBookN (CB : Addr) : Sp := fun vs H Q _ => ∃ x dx p us, vs = [.ref x, .ref p] ∧ H x = some (.ins CB dx []) ∧ H p = some (.lst us) ∧ us.length ≤ 20 ∧
  ∀ H' j, SameBut x H H' → H j = none → H' j = some (.lst us) → H' x = some (.ins CB dx [(("_rules" : Str), .ref j)]) → Q .non H'
theorem ok_bookN {f : Addr} {fd : FuncData} (F : Fun K "__init__" "Book.__init__" cBookInit f fd) (L : LTxt K mg) (M : MTx mg) (T : BCls K CB) : FnOk P w K mg base CX0 1 f fd ["self", "rules"] (spBookN CB) := by
  refine F.ok scBookInit (fun vs H Q E h => ?_) (fun cdv A outer s H vs Q E hr h => ?_)
  · obtain ⟨x, dx, p, us, rfl, _⟩ := h
    rfl
  obtain ⟨uM, hM, rM⟩ := M
  obtain ⟨x, dx, p, us, rfl, hx, hp, few, k⟩ := h
  refine ⟨_, pss_cons (ps_if (pt_cmpR op_gt (pe_callB call_len_seq (by rfl) L.len PySem.boot_len (pa_cons (pv 1) pa_nil)) (pe_glob (by rfl) hM rM) (nomark _)) (PSs.when (p := False) (t := fun _ _ _ => True) fun z => z.elim) pss_nil)
    (pss_one (ps_fld (pv 0) (pe_callTy call_list_of (by rfl) L.lst (by decide +kernel) (pa_cons (pv 1) pa_nil)) rfl)), ?_⟩
  refine ⟨_, rfl, p, us, rfl, .inl (SqL.of hp), _, _, rfl, rfl, _, rfl, iteFe (decide_eq_false (by omega)) ?_⟩
  refine ⟨_, rfl, p, us, rfl, .inl (SqL.of hp), fun j nj => ?_⟩
  have s1 := same_upd (o := .lst us) nj
  refine ⟨_, rfl, x, CB, dx, [], rfl, s1 _ _ hx, T.cl, T.nR, by show 0 < 1000; decide, ?_⟩
  have jx : j ≠ x := fun e => by rw [e, hx] at nj; cases nj
  exact k _ j (fun a o na e => by rw [upd_ne na]; exact s1 _ _ e) nj (by rw [upd_ne jx]; exact upd_same) (by rw [upd_same]; rfl)
end
end Pm
/-! ### Book.read of any text -/
namespace Pm
open PySem PySem.Spec PyProof.Rows L2 SX NdefX
def okR (z : List Nat) : Option (Nat × List Nat × List Cnd × Int) := match readF z with
  | .inl _ => none
  | .inr x => some x
def linesZ (z : List Nat) : List (List Nat) := if z = [] then [] else TL.spl [10] 0 [] z
/-- the line that is at fault, or how many rules a book has -/
def dueB (z : List Nat) : Nat ⊕ Nat := match readAll okR 1 ((linesZ z).take 20) with
  | .inl i => .inl i
  | .inr _ => if 20 < (linesZ z).length then .inl 21 else .inr (linesZ z).length
section
variable {P : Program} {w : World} {K : PySem.W.Frag} {mg : Str → Option Value} {base : Heap} {C CI CV CB CP CR CC CS : Addr}
def spReadB (CB CV : Addr) : Sp := fun vs H Q E => ∃ z, vs = [.ref CB, .str (S z)] ∧ z.length ≤ 10000 ∧ (∀ l ∈ linesZ z, l.length ≤ 900) ∧ (∀ i, dueB z = .inl i → Lets E CV [("line", .int (i : Int))] H) ∧
  (∀ n, dueB z = .inr n → ∀ r dx l us H', Same H H' → H' r = some (.ins CB dx [(("_rules" : Str), .ref l)]) → H' l = some (.lst us) → us.length = n → Q (.ref r) H')
theorem no_S : ("" : Str) = S [] := by decide +kernel
theorem nl_S : ("\n" : Str) = S [10] := by decide +kernel
theorem cutV_to (xs : List V) (t : Nat) : cutV xs none (some (t : Int)) = xs.take t := by
  unfold cutV
  rw [HT.sIx_none, HT.sIx_nat, List.drop_zero, Nat.sub_zero]
  rcases Nat.le_total t xs.length with h | h
  · rw [Nat.min_eq_left h]
  · rw [Nat.min_eq_right h, List.take_of_length_le (Nat.le_refl _), List.take_of_length_le h]
theorem setW {te : TE} {i : Nat} {r : TS} {D : Ends} {σ : L2.St} {H : Hp} (J : V → Hp → Prop) (hA : ∀ Q' : VK, (∀ v H', J v H' → Q' v H') → te σ H Q') (hR : ∀ v H', J v H' → r D (σ.set i (some v)) H') : tSeq (tAsg te (gName i)) r D σ H := hA _ fun v H' j => hR v H' j
theorem ok_readB {f l i e : Addr} {fd ld di ed : FuncData} (F : Fun K "read" "Book.read" cBookRead f fd) (L : LTxt K mg) (Tx : PTxt K mg CP) (M : MTx mg) (G : Cl P w K mg base (L2.CX P w) 8 "_read_line" ["text", "line"] (spLineX CV CR CC CS) l ld)
    (xv : EMk P w K mg base CV "InvalidBook" ["self", "line"] (spE1 CV "line") e ed) (MI : Mk K CB i) (OI : FnOk P w K mg base CX0 1 i di ["self", "rules"] (spBookN CB)) (bI : Binds K di ["self", "rules"] []) : FnOk P w K mg base (L2.CX P w) 9 f fd ["cls", "text"] (spReadB CB CV) := by
  refine F.okX scBRead (fun vs H Q E h => ?_) (fun cdv A outer s H vs Q E hr h => ?_)
  · obtain ⟨z, rfl, _⟩ := h
    rfl
  obtain ⟨z, rfl, lz, ll, bad, k⟩ := h
  obtain ⟨uM, hM, rM⟩ := M
  have hr2 : Room 2 _ := hr.mono (by decide)
  refine ⟨_, (pss_cons (ps_set (i := 2) scBRead.nd rfl (.inl rfl) (pe_ifExp (pt_cmpR op_ne (pv 1) pe_str (nomark _)) (pe_bm PySem.F.plainAttrs_str PySem.F.slot_str_split PySem.F.type_str_split mt_split (pv 1) (pa_cons pe_str pa_nil)) (pe_lst pa_nil)))
    (pss_cons (Cmp.ps_setLcX (i := 3) (Eo := E) (own := [("number", 4), ("line", 5)]) (g := (gTup K 2 (gCons (gName 4) (gCons (gName 5) gNil)))) (te := (tCallS (spLineX CV CR CC CS) (fun _ => E) (tCons (tVar 5) (tCons (tVar 4) tNil)))) rfl scBRead.nd rfl rfl (takes_of rfl rfl rfl rfl) rfl rfl (sw_true rfl rfl rfl (by decide +kernel)) (pi_enumS (by rfl) Tx.enum (pa_cons (pe_slice sl_list (pv 2) po_none (po_some (pe_glob (by rfl) hM rM))) pa_nil) (pk_cons pe_int pk_nil)) (blkOk_by (own := [("number", 4), ("line", 5)]) (N := nBRead) (sc := defScope cBookRead) (by decide +kernel)) (fun _ _ _ _ _ => (pg_tup rfl (pgs_cons (pg_name (i := 4) scBRead.nd rfl (.inl rfl)) (pgs_cons (pg_name (i := 5) scBRead.nd rfl (.inl rfl)) pgs_nil)))) (fun _ _ _ _ _ _ px => (pe_callS (E := fun _ => E) G.ok hr (by rfl) G.gl G.kp G.bd px (pa_cons (pv 5) (pa_cons (pv 4) pa_nil)))))
    (pss_cons (ps_if (pt_cmpR op_gt (pe_callB call_len_seq (by rfl) L.len PySem.boot_len (pa_cons (pv 2) pa_nil)) (pe_glob (by rfl) hM rM) (nomark _)) (pss_one (ps_raise rfl (takes_of rfl rfl rfl rfl) (pmk_oex xv.T xv.at_ xv.ty xv.ok hr2 xv.bd .nil pass0 (by rfl) xv.gl (pa_cons (pe_op op_add (pe_glob (by rfl) hM rM) pe_int) pa_nil)))) pss_nil)
    (pss_one (ps_ret (pe_makeV (i := 0) (E := fun _ => E0) MI OI hr2 rfl (.inl rfl) bI (fun σ pins H s e s' I c => pass0 pins σ H s e s' I c) (pa_cons (pv 3) pa_nil))))))), ?_⟩
  refine setW (fun v G => ∃ a, v = .ref a ∧ Same H G ∧ G a = some (.lst (txtV (linesZ z)))) (fun Q' q => ?_) (fun v G hv => ?_)
  · refine ⟨_, rfl, rfl, _, rfl, ?_⟩
    by_cases ze : z = []
    · subst ze
      refine iteFe (by decide +kernel) ⟨by decide, fun a na => q _ _ ⟨a, rfl, same_upd na, upd_same⟩⟩
    · refine iteTe (by rw [no_S, Tr.dec_tx, decide_eq_false ze]; rfl) ⟨_, rfl, rfl, S z, S [10], rfl, by rw [← nl_S], by decide +kernel, by rw [len_S, sizeLine_eq]; omega, fun a na => ?_⟩
      rw [split_S (by decide) (by decide)]
      refine q _ _ ⟨a, rfl, same_upd na, ?_⟩
      rw [upd_same]
      unfold linesZ
      rw [if_neg ze]
      rfl
  obtain ⟨a, rfl, s1, y1⟩ := hv
  have dB : dueB z = match readAll okR 1 ((linesZ z).take 20) with
    | .inl i => .inl i
    | .inr _ => if 20 < (linesZ z).length then .inl 21 else .inr (linesZ z).length := rfl
  generalize linesZ z = W at y1 ll dB
  refine ⟨_, rfl, _, rfl, a, _, rfl, SqL.of y1, fun p np => ?_⟩
  rw [show (20 : Int) = ((20 : Nat) : Int) from rfl, cutV_to]
  have eT : (txtV W).take 20 = txtV (W.take 20) := by
    unfold txtV
    rw [List.map_take, List.map_take]
  rw [eT]
  have s2 := s1.trans (same_upd (o := .lst (txtV (W.take 20))) np)
  have y2 : upd G p (.lst (txtV (W.take 20))) a = some (.lst (txtV W)) := same_upd np _ _ y1
  have yp : upd G p (.lst (txtV (W.take 20))) p = some (.lst (txtV (W.take 20))) := upd_same
  generalize upd G p (.lst (txtV (W.take 20))) = H2 at s2 y2 yp
  have lT : (W.take 20).length ≤ 20 := by
    rw [List.length_take]
    omega
  have lw : (txtV W).length = W.length := txtV_len W
  refine ⟨p, _, rfl, rfl, SqL.of yp, fun B nB => lc_it walk_enS (fun i G => ∃ us as, Same H2 G ∧ G B = some (.lst us) ∧ us.length = i ∧ ((W.take 20).take i).map okR = as.map some) ⟨[], [], same_upd nB, upd_same, rfl, rfl⟩ (fun i G _ ⟨us, as, sm, _⟩ => SqL.of (sm _ _ yp)) ?_ ?_⟩
  · rintro i x G G' hi ⟨us, as, sm, hB, lu, en⟩ ⟨T, y, rfl, nT, rfl, hy⟩
    obtain ⟨wd, hw, rfl⟩ := txtV_get hy
    have li : i < (W.take 20).length := (List.getElem?_eq_some_iff.mp hw).1
    have sT := same_upd (o := .tup [.int ((i : Int) + 1), .str (S wd)]) nT
    refine ⟨T, _, rfl, SqT.of upd_same, rfl, _, _, rfl, _, _, rfl, rfl, rfl, ?_⟩
    refine tyes (iteT ⟨_, rfl, _, rfl, wd, (i : Int) + 1, rfl, ll wd (List.mem_of_mem_take (List.mem_of_getElem? hw)), fun q e => ?_, fun κ w0 need cs e r G2 dx l ms s2' _ _ _ _ _ _ _ => ?_⟩)
    · have e2 : okR wd = none := by
        unfold okR
        rw [e]
      have e5 : dueB z = .inl (1 + i) := by rw [dB, readAll_bad en hw e2]
      have q := (bad _ e5).up ((s2.trans sm).trans sT)
      rw [show (((1 + i : Nat)) : Int) = (i : Int) + 1 from by omega] at q
      exact q
    · have sA := (sm.trans sT).trans s2'
      have e2 : okR wd = some (κ, w0, cs, need) := by
        unfold okR
        rw [e]
      refine ⟨us, (sT.trans s2') _ _ hB, small1000 (by omega), us ++ [.ref r], as ++ [(κ, w0, cs, need)], fun b o e => ?_, upd_same, ?_, ?_⟩
      · rw [upd_ne (ne_of_none e nB)]
        exact sA _ _ e
      · rw [List.length_append, List.length_singleton, lu]
      · rw [List.take_add_one, hw, List.map_append, en, List.map_append]
        show _ ++ [okR wd] = _
        rw [e2]
        rfl
  · rintro G ⟨us, as, sm, hB, lu, en⟩
    rw [txtV_len] at lu
    rw [txtV_len, List.take_of_length_le (Nat.le_refl _)] at en
    have e0 : readAll okR 1 (W.take 20) = .inr as := readAll_good en
    rw [e0] at dB
    have sG := s2.trans sm
    have yG := sm _ _ y2
    refine ⟨_, rfl, a, _, rfl, .inl (SqL.of yG), _, _, rfl, rfl, _, rfl, ?_⟩
    by_cases big : 20 < W.length
    · rw [if_pos big] at dB
      refine iteTe (decide_eq_true (by rw [lw]; omega)) ⟨_, _, rfl, rfl, by show 1 ≤ 1000; decide, fun x nx => ⟨x, _, rfl, upd_same, fun H3 d h1 h2 nd ne sb => ⟨rfl, d, _, h1, h2, ?_, ?_⟩⟩⟩
      · rwa [upd_ne ne] at nd
      · exact ((bad 21 dB).up sG) d _ (by rwa [upd_ne ne] at nd) upd_same (on_way nx nd ne sb)
    · rw [if_neg big] at dB
      have lu2 : us.length = W.length := by
        rw [lu, List.length_take]
        omega
      refine iteFe (decide_eq_false (by rw [lw]; omega)) ⟨rfl, _, rfl, fun xa dx nx nd ne => ⟨xa, dx, B, us, rfl, upd_same, made_same nx nd _ _ hB, by omega, fun H' j sb nj hj hx => ⟨rfl, k _ dB xa dx j us H' (sG.trans (made_but nx nd sb)) hx hj lu2⟩⟩⟩
end
end Pm
/-! ### how many rules a book has, by hand -/
namespace Pm
open PySem PySem.Spec PyProof.Rows L2 SX NdefX
structure OwnF (K : PySem.W.Frag) (C : Addr) (m : Str) (f : Addr) : Prop where
  at_ : PySem.W.findIn K (.ref C) m = some (some (.ref f))
  fn : PySem.W.isFn K (.ref f) = true
section
variable {X : Cx} {CX : CXT} {k : Nat} {f C : Addr} {fd : FuncData} {ps : List Str} {sp : Sp} {E : XK} {pins : List (Addr × Obj)} {σ : L2.St} {H : Hp} {s : Shared} {κ : Nat}
/-- a def called from any place around with the same frames -/
theorem run_inR {A : Around} {Q : VK} {us : List Value} {vs : List V} (F : FnOk X.prog X.w X.K X.mg X.base CX k f fd ps sp) (hr : Room k A) (fr : A.frames = X.A.frames) (hb : Binds X.K fd ps []) (hx : Passes CX X E) (I : L2.Inv X pins σ H s)
    (r : Vals vs us) (h : sp vs H Q E) : wpAny (model X.prog X.w) A (call (.ref f) us) (EP X pins σ Q) X.xe s := by
  have e0 : Env0 X.prog X.w X.K X.mg X.base A X.stack s H := by
    have e := I.env0
    exact ⟨by rw [fr]; exact e.frames, e.mod, e.bs, e.bsz, e.funs, e.frf, e.hok, e.bare⟩
  have hl := F.len _ _ _ _ h
  refine wpAny_call (codeAny_mono (F.run A X.stack s H ⟨us, []⟩ us vs _ E hr e0 (by
    have := hb s us I.kIn (by rw [List.append_nil, ← r.length]; exact hl)
    simpa using this) r h) fun q s' hq => ?_)
  cases q with
  | error e => exact hx pins σ H s e s' I hq
  | ok fl =>
    cases fl with
    | ret u => exact I.after hq
    | next => exact False.elim hq
    | brk => exact False.elim hq
    | cont => exact False.elim hq
end
def spLenH (CB : Addr) : Sp := fun vs H Q _ => ∃ r dx l us, vs = [.ref r] ∧ H r = some (.ins CB dx [(("_rules" : Str), .ref l)]) ∧ H l = some (.lst us) ∧ us.length ≤ 100 ∧ Q (.int (us.length : Int)) H
section
variable {P : Program} {w : World} {K : PySem.W.Frag} {mg : Str → Option Value} {base : Heap} {CB : Addr}
theorem ok_blenH {f : Addr} {fd : FuncData} (F : Fun K "__len__" "Book.__len__" cBookLen f fd) (L : LTxt K mg) (T : BCls K CB) : FnOk P w K mg base CX0 1 f fd ["self"] (spLenH CB) := by
  refine F.ok scBLen (fun vs H Q E h => ?_) (fun cdv A outer s H vs Q E hr h => ?_)
  · obtain ⟨r, dx, l, us, rfl, _⟩ := h
    rfl
  obtain ⟨r, dx, l, us, rfl, hr', hl, few, k⟩ := h
  refine ⟨_, pss_one (ps_ret (pe_callB call_len_seq (by rfl) L.len PySem.boot_len (pa_cons (pe_fld (pv 0) rfl) pa_nil))), ?_⟩
  exact ⟨_, rfl, r, CB, dx, _, _, rfl, hr', T.cl, T.nR, rfl, l, us, rfl, .inl (SqL.of hl), k⟩
end
section
variable {X : Cx} {k : Nat} {f C : Addr} {fd : FuncData}
def rLenH (C : Addr) : List V → Hp → VK → Prop := fun xs H Q => ∃ r dx l us, xs = [.ref r] ∧ H r = some (.ins C dx [(("_rules" : Str), .ref l)]) ∧ H l = some (.lst us) ∧ us.length ≤ 100 ∧ ∀ H', Same H H' → Q (.int (us.length : Int)) H'
theorem call_lenH (O : FnOk X.prog X.w X.K X.mg X.base CX0 k f fd ["self"] (spLenH C)) (hr : Room (k + 1) X.A) (b : Binds X.K fd ["self"] []) (m : OwnF X.K C "__len__" f) : CallR X (.builtin "len") (rLenH C) := by
  intro pins s σ H xs us Q I r h
  obtain ⟨r0, dx, l, ls, rfl, hr0, hl, few, q⟩ := h
  rw [Vals.ref1 r]
  obtain ⟨mA, O1, _⟩ := ins_get I.hok hr0
  obtain ⟨od, J, _⟩ := O1.look
  obtain ⟨mm, hF⟩ := I.fr
  refine PySem.W.len_K hF I.ok.mod.kin J m.at_ m.fn ?_
  refine wpAny_mono (run_inR (Q := fun v H' => v = .int (ls.length : Int) ∧ H' = H) (E := E0) (vs := [.ref r0]) O hr.in1 rfl b pass0 I (.cons rfl .nil) ⟨r0, dx, l, ls, rfl, hr0, hl, few, rfl, rfl⟩) (fun v s' z => ?_) fun _ _ z => z
  obtain ⟨v', H', I', rv, rfl, rfl⟩ := z
  obtain ⟨t, rfl⟩ := rv
  exact ⟨⟨by omega, by omega⟩, .int (ls.length : Int), H', I'.tok _, ⟨_, rfl⟩, q H' (Same.refl _)⟩
end
end Pm
/-! ### _law_line_of -/
namespace Pm
open PySem PySem.Spec PyProof.Rows L2 SX NdefX
theorem raw0 {P : Program} {w : World} {K : PySem.W.Frag} {mg : Str → Option Value} {base : Heap} {CXf : CXT} {k : Nat} {f : Addr} {fd : FuncData} {ps : List Str} {sp : Sp} (O : FnOk P w K mg base CXf k f fd ps sp) (b : Binds K fd ps []) : FnR P w K mg base CXf k f sp := by
  have z := O.raw b (.nil : Vals [] [])
  have e : (fun vs H Q E => sp (vs ++ []) H Q E) = sp := by
    funext vs H Q E
    rw [List.append_nil]
  rw [e] at z
  exact z
structure BTx2 (K : PySem.W.Frag) (mg : Str → Option Value) (CV CE CI : Addr) : Prop where
  gV : mg "InvalidBook" = some (.ref CV)
  gE : mg "SmaltiError" = some (.ref CE)
  gI : mg "InvalidRule" = some (.ref CI)
  er : ErrC K CV
  nL : PySem.W.findIn K (.ref CV) "line" = some none
  te : PySem.W.exmOne K (.ref CV) (.ref CV) = some true
  kE : PySem.W.kitOne K (.ref CV) (.ref CE) = some true
  kI : PySem.W.kitOne K (.ref CV) (.ref CI) = some false
section
variable {P : Program} {w : World} {K : PySem.W.Frag} {mg : Str → Option Value} {base : Heap} {CI CE CV CB CR CC CS : Addr}
def spIsI : Sp := fun vs H Q _ => ∃ n, vs = [.int n] ∧ Q (.bl true) H
theorem scInt : FnScope ["_law_value"] ["_law_value"] (defScope lIsInt) := ⟨rfl, rfl, rfl, by decide +kernel, rfl, by decide +kernel, by decide +kernel⟩
theorem hot_int {f : Addr} {fd : FuncData} (F : Fun K "_law_is_int" "_law_is_int" lIsInt f fd) (L : LTxt K mg) (mb : mg "bool" = none) : FnW P w K mg base CX0 1 f fd ["_law_value"] spIsI := by
  refine fnW_of F scInt (fun vs H Q E h => ?_) (fun cdv A outer s H vs Q E p hr h => ?_)
  · obtain ⟨n, rfl, _⟩ := h
    rfl
  · obtain ⟨n, rfl, q⟩ := h
    refine ⟨_, pss_one (ps_ret (pe_and (pe_callB call_isi (by rfl) L.isi (by decide +kernel) (pa_cons (pv 0) (pa_cons (pe_bltn (v := .ty "int") (by rfl) L.int (by decide +kernel) rfl) pa_nil)))
      (pe_one (pe_not (pe_callB call_isi (by rfl) L.isi (by decide +kernel) (pa_cons (pv 0) (pa_cons (pe_bltn (v := .ty "bool") (by rfl) mb (by decide +kernel) rfl) pa_nil))))))), ?_⟩
    refine ⟨_, rfl, .int n, .ty "int", .type "int", .type "int", true, rfl, .ty _, .base (.int n), kit_ty (by decide +kernel), true, rfl, ?_⟩
    exact ⟨_, rfl, .int n, .ty "bool", .type "int", .type "bool", false, rfl, .ty _, .base (.int n), kit_ty (by decide +kernel), false, rfl, q⟩
/-- what Book.read says of a text, as the law asks -/
def lineZ (z : List Nat) : Int := match dueB z with
  | .inl i => (i : Int)
  | .inr n => 0 - (n : Int)
def isX1 (K : PySem.W.Frag) (a : Addr) (cls : Value) (d : Option Addr) (c : V) : TT := tB (tCB (rIsX K a cls d) (tCons (tVar 1) (tCons (tC c) tNil)))
def tbLo (CB CV : Addr) (W : WX) : TS := tRet (tOp (rI0 fun i j => .int (i - j)) (tC (.int 0)) (tCB (rLenH CB) (tCons (tCMethE CB (spReadB CB CV) (WE W) (tC (.ref CB)) (tCons (tVar 0) tNil)) tNil)))
def tsLo (K : PySem.W.Frag) (CE CI : Addr) : Addr → Value → Option Addr → TS := fun a cls d =>
  tSeq (tIfS (tOr (tNot (isX1 K a cls d (.ref CE))) (tOr (isX1 K a cls d (.ref CI)) (tNot (tB (tCall spIsI [] E0 (tCons (tErrX K a cls d "line" (tVar 1)) tNil)))))) (tRet (tC (.int 99))) tNext)
  (tRet (tErrX K a cls d "line" (tVar 1)))
def spLineOf : Sp := fun vs H Q _ => ∃ z, vs = [.str (S z)] ∧ z.length ≤ 10000 ∧ (∀ l ∈ linesZ z, l.length ≤ 900) ∧ ∀ H', Same H H' → Q (.int (lineZ z)) H'
theorem scLo : FnScope ["_law_text", "e"] ["_law_text"] (defScope lLineOf) := ⟨rfl, rfl, rfl, by decide +kernel, rfl, by decide +kernel, by decide +kernel⟩
theorem ok_lineof {f fN cB fB fL : Addr} {fd dN dL : FuncData} {mc : Value} (F : Fun K "_law_line_of" "_law_line_of" lLineOf f fd) (L : LTxt K mg) (Y : BTx2 K mg CV CE CI) (ON : FnW P w K mg base CX0 1 fN dN ["_law_value"] spIsI) (kN : PySem.W.keepIn K (.ref fN) = true) (bN : Binds K dN ["_law_value"] []) (gN : mg "_law_is_int" = some (.ref fN))
    (gB : mg "Book" = some (.ref CB)) (crd : ClX.CRead K CB mc) (cm : ClX.CMet K CB mc "read" cB fB) (OB : FnR P w K mg base (L2.CX P w) 9 fB (spReadB CB CV)) (OL : FnOk P w K mg base CX0 1 fL dL ["self"] (spLenH CB)) (bL : Binds K dL ["self"] []) (mL : OwnF K CB "__len__" fL) :
    FnOk P w K mg base CX0 10 f fd ["_law_text"] spLineOf := by
  refine F.ok scLo (fun vs H Q E h => ?_) (fun cdv A outer s H vs Q E hr h => ?_)
  · obtain ⟨z, rfl, _⟩ := h
    rfl
  obtain ⟨z, rfl, lz, ll, k⟩ := h
  have hr1 : Room 1 _ := hr.mono (by decide)
  have hr2 : Room 2 _ := hr.mono (by decide)
  have rH := L2H.roomH_of hr1
  refine ⟨_, pss_one (ps_try_as (i := 1) (tb := tbLo CB CV) (ts := tsLo K CE CI) (Wout := fun _ _ _ _ => False) rfl rfl scLo.nd rfl rfl ⟨rfl, by decide, .inl Y.gV⟩ takes0
      (fun W pn xe tk _ => pss_one (ps_ret (by exact pe_op op_sub pe_int (pe_callB (call_lenH OL hr2 bL mL) (by rfl) L.len PySem.boot_len (by exact pa_cons (pe_cmethE (E := WE W) (pe_glob (v := .ref CB) (by rfl) gB rfl) crd cm OB hr (fun σ => passAt tk σ) (by exact pa_cons (pv 0) pa_nil)) pa_nil)))))
      (fun a oe cls d pn hz hf => pss_cons (ps_if (PW.pt (pw_or (pt_not (pt_val (by exact pe_callB (call_isX hz hf) (by rfl) L.isi (by decide +kernel) (pa_cons (pv 1) (pa_cons (pe_glob (v := .ref CE) (by rfl) Y.gE rfl) pa_nil)))))
          (pw_or (pt_val (by exact pe_callB (call_isX hz hf) (by rfl) L.isi (by decide +kernel) (pa_cons (pv 1) (pa_cons (pe_glob (v := .ref CI) (by rfl) Y.gI rfl) pa_nil))))
          (pw_or1 (pt_not (pt_val (by exact pe_callW ON ⟨rH.dp, rH.un⟩ (p := (a, oe)) List.mem_cons_self (by rfl) gN kN bN (by exact (pa_cons (by exact (pe_errX hz hf (pv 1))) pa_nil))))))))) (pss_one (ps_ret pe_int)) pss_nil)
        (pss_one (ps_ret (by exact (pe_errX hz hf (pv 1))))))), ?_⟩
  refine ⟨rfl, _, rfl, z, rfl, lz, ll, fun p e d G nd hd sG => ?_, fun n e r dx l us G sG hr' hl lu => ?_⟩
  · have eZ : lineZ z = (p : Int) := by
      unfold lineZ
      rw [e]
    rw [eZ] at k
    refine ⟨true, Y.te, fun _ ea na => ?_, fun z => nomatch z⟩
    refine ⟨_, rfl, CV, d, _, .ref CE, .ref CE, true, rfl, rfl, rfl, Y.er, hd, fun u z => z, Y.kE, true, rfl, iteF ⟨_, rfl, CV, d, _, .ref CI, .ref CI, false, rfl, rfl, rfl, Y.er, hd, fun u z => z, Y.kI, false, rfl, iteF ⟨_, rfl, CV, d, _, .int (p : Int), rfl, rfl, rfl, Y.er, Y.nL, hd, rfl, p, rfl, true, rfl, iteF ?_⟩⟩⟩
    exact ⟨_, rfl, CV, d, _, .int (p : Int), rfl, rfl, rfl, Y.er, Y.nL, hd, rfl, k G sG⟩
  · have eZ : lineZ z = 0 - (n : Int) := by
      unfold lineZ
      rw [e]
    have few : n ≤ 20 := by
      unfold dueB at e
      split at e
      · cases e
      · split at e
        · cases e
        · cases e
          omega
    rw [eZ] at k
    exact ⟨r, dx, l, us, rfl, hr', hl, by omega, fun G2 s2 => ⟨_, _, rfl, rfl, by rw [lu]; exact k G2 (sG.trans s2)⟩⟩
end
end Pm
namespace Pm
open PySem PySem.Spec PyProof.Rows L2 SX NdefX Tr
theorem hu65r {A : Around} {k : Nat} (hr : Room k A) : A.units + 65 < cLine := by
  have := hr.un
  omega
structure BTx (mg : Str → Option Value) : Prop where
  bool : mg "bool" = none
  tup : mg "tuple" = none
  str : mg "str" = none
def dP (c : Int × Int) : PyData := .tuple [.int c.1, .int c.2]
theorem dP_eqv (c d : Int × Int) : PyData.eqv (dP c) (dP d) = decide (c = d) := by
  obtain ⟨x, y⟩ := c
  obtain ⟨u, v⟩ := d
  simp [dP, PyData.eqv, PyData.eqvAll]
  rfl
theorem dP_shaped (c : Int × Int) : SeqAt.shaped (dP c) = true := by
  simp [dP, SeqAt.shaped, PyData.canLay0, PyData.canLayAll0, PyData.depth, PyData.depthAll]
theorem dPs_lay : ∀ M : List (Int × Int), PyData.canLayAll0 (M.map dP) = true
  | [] => rfl
  | c :: M => by simp [PyData.canLayAll0, dP, PyData.canLay0, dPs_lay M]
theorem dPs_depth : ∀ M : List (Int × Int), PyData.depthAll (M.map dP) ≤ 1
  | [] => by simp [PyData.depthAll]
  | c :: M => by
    have := dPs_depth M
    simp [PyData.depthAll, dP, PyData.depth]
    omega
theorem dPs_shaped (M : List (Int × Int)) : SeqAt.shaped (.list (M.map dP)) = true := by
  have := dPs_depth M
  simp [SeqAt.shaped, PyData.canLay0, dPs_lay M, PyData.depth]
  omega
theorem dPs_any (M : List (Int × Int)) (c : Int × Int) : ((M.map dP).any fun z => PyData.eqv z (dP c)) = decide (c ∈ M) := by
  rw [List.any_map]
  rw [Bool.eq_iff_iff, List.any_eq_true, decide_eq_true_eq]
  constructor
  · rintro ⟨d, hd, e⟩
    have e : PyData.eqv (dP d) (dP c) = true := e
    rw [dP_eqv, decide_eq_true_eq] at e
    rw [← e]
    exact hd
  · intro h
    exact ⟨c, h, by show PyData.eqv (dP c) (dP c) = true; rw [dP_eqv]; simp⟩
section
variable {P : Program} {w : World} {K : PySem.W.Frag} {mg : Str → Option Value} {base : Heap} {C CI CW D : Addr} {κ : Nat}
def spOffset : Sp := fun vs H Q _ => ∃ b l, vs = [.ref b] ∧ BagL H b l ∧ ∀ t p H', placeB p = true → SameBut b H H' → BagL H' b l → H t = none → H' t = some (PairO p) → Q (.ref t) H'
theorem scOffset : FnScope ["_law_bag_here", "_law_spot"] ["_law_bag_here"] (defScope lOffset) := ⟨rfl, rfl, rfl, by decide +kernel, rfl, by decide +kernel, by decide +kernel⟩
theorem spots : ∀ n : Int, 0 ≤ n → n < 8 → ∃ v : Int, atI [V.int 16, V.int 17, V.int 18, V.int 23, V.int 24, V.int 29, V.int 30, V.int 31] n = some (.int v) ∧ 0 ≤ v ∧ v < 48 := by
  intro n h0 h1
  obtain ⟨j, rfl⟩ : ∃ j : Nat, n = (j : Int) := ⟨n.toNat, by omega⟩
  have hj : j < 8 := by omega
  match j, hj with
  | 0, _ => exact ⟨16, rfl, by decide, by decide⟩
  | 1, _ => exact ⟨17, rfl, by decide, by decide⟩
  | 2, _ => exact ⟨18, rfl, by decide, by decide⟩
  | 3, _ => exact ⟨23, rfl, by decide, by decide⟩
  | 4, _ => exact ⟨24, rfl, by decide, by decide⟩
  | 5, _ => exact ⟨29, rfl, by decide, by decide⟩
  | 6, _ => exact ⟨30, rfl, by decide, by decide⟩
  | 7, _ => exact ⟨31, rfl, by decide, by decide⟩
theorem bag_sb {H H' : Hp} {b l : Addr} (h : BagL H b l) (s : Same H H') : BagL H' b l := by
  obtain ⟨ns, i, p, q, hb, hl, r⟩ := h
  exact ⟨ns, i, p, q, s _ _ hb, s _ _ hl, r⟩
theorem sb_none {b t : Addr} {H H' : Hp} {l : Addr} (hb : BagL H b l) (hb2 : BagL H' b l) (s : SameBut b H H') (h : H' t = none) : H t = none := by
  obtain ⟨xs, e⟩ := bag_b hb
  refine but_back e s (fun z => ?_) h
  obtain ⟨ys, e2⟩ := bag_b hb2
  rw [z, e2] at h
  cases h
theorem ok_offset {f t : Addr} {fd td : FuncData} (F : Fun K "_law_offset" "_law_offset" lOffset f fd) (T : Cl P w K mg base CX0 1 "_law_take" tkNames spTake t td) (L : LTxt K mg) : FnOk P w K mg base CX0 2 f fd ["_law_bag_here"] spOffset := by
  refine F.ok scOffset (fun vs H Q E h => ?_) (fun cdv A outer s H vs Q E hr h => ?_)
  · obtain ⟨b, l, rfl, _⟩ := h
    rfl
  · obtain ⟨b, l, rfl, hb, k⟩ := h
    refine ⟨_, pss_cons (ps_set (i := 1) scOffset.nd rfl (.inl rfl) (pe_call T.ok hr (by rfl) T.gl T.kp T.bd .nil pass0 (pa_cons (pv 0) (pa_cons pe_int pa_nil)))) (C8.pss_cut (ps_if (pt_cmpR op_gt (pe_call T.ok hr (by rfl) T.gl T.kp T.bd .nil pass0 (pa_cons (pv 0) (pa_cons pe_int pa_nil))) pe_int (nomark _)) (pss_one (ps_set (i := 1) scOffset.nd rfl (.inl rfl) (pe_ix ix_list (pe_lst (pa_cons pe_int (pa_cons pe_int (pa_cons pe_int (pa_cons pe_int (pa_cons pe_int (pa_cons pe_int (pa_cons pe_int (pa_cons pe_int pa_nil))))))))) (pe_op op_mod (pe_callTy call_int1 (by rfl) L.int (by decide +kernel) (pa_cons (pv 1) pa_nil)) pe_int) (fun _ _ => rfl)))) pss_nil) (pss_cons (ps_set (i := 1) scOffset.nd rfl (.inl rfl) (pe_op op_add (pv 1) (pe_callTy call_int1 (by rfl) L.int (by decide +kernel) (pa_cons (pe_cmpR op_gt (pv 1) pe_int (nomark _)) pa_nil))))
      (pss_one (ps_ret (pe_tup (pa_cons (pe_op op_sub (pe_op op_mod (pe_callTy call_int1 (by rfl) L.int (by decide +kernel) (pa_cons (pv 1) pa_nil)) pe_int) pe_int) (pa_cons (pe_op op_sub (pe_op op_fdiv (pv 1) pe_int) pe_int) pa_nil))))))), ?_⟩
    refine ⟨_, rfl, b, l, 48, rfl, hb, by decide, by decide, fun n H1 n0 n1 u1 b1 => ?_⟩
    refine ⟨fun σ G => ∃ m : Int, σ = [some (.ref b), some (.int m)] ∧ 0 ≤ m ∧ m < 48 ∧ SameBut b H G ∧ BagL G b l, ?_, ?_⟩
    · refine ⟨_, rfl, b, l, 3, rfl, b1, by decide, by decide, fun m H2 m0 m1 u2 b2 => ⟨_, _, rfl, rfl, _, rfl, ite2 (fun _ => ?_) (fun _ => ⟨n, rfl, n0, n1, but_same (u1.trans u2), b2⟩)⟩⟩
      refine ⟨by show 8 ≤ sizeLine; decide, fun p np => ⟨_, rfl, .inl ⟨_, rfl, _, _, rfl, rfl, (by show (0 : Int) < 8; decide), ?_⟩⟩⟩
      obtain ⟨v, ev, v0, v1⟩ := spots _ (Int.emod_nonneg n (show (8 : Int) ≠ 0 by decide)) (Int.emod_lt_of_pos n (show (0 : Int) < 8 by decide))
      refine ⟨p, _, _, _, rfl, rfl, SqL.of upd_same, ev, v, rfl, v0, v1, fun a o na e => ?_, ?_⟩
      · have y := but_same (u1.trans u2) a o na e
        rw [upd_ne (ne_of_none y np)]
        exact y
      · exact bag_upd b2 np
    · rintro σ G ⟨m, rfl, m0, m1, sG, bG⟩
      refine ⟨_, rfl, _, rfl, _, _, rfl, rfl, .inr ⟨_, rfl, _, _, rfl, rfl, ?_⟩⟩
      have spot : ∃ v : Int, m + (if decide (23 < m) = true then 1 else 0) = v ∧ 0 ≤ v ∧ v < 49 ∧ v ≠ 24 := by
        refine ⟨_, rfl, ?_⟩
        by_cases c : 23 < m
        · rw [decide_eq_true c]
          simp
          omega
        · rw [decide_eq_false c]
          simp
          omega
      obtain ⟨v, ev, v0, v1, v24⟩ := spot
      refine ⟨_, rfl, .inl ⟨_, rfl, _, _, rfl, rfl, (by show (0 : Int) < 7; decide), _, _, rfl, rfl, _, rfl, _, _, rfl, rfl, ⟨by decide, by decide⟩, _, _, rfl, rfl, (by show 2 ≤ sizeLine; decide), fun t nt => ?_⟩⟩
      have y := k t (v % 7 - 3, v / 7 - 3) _ ?_ (fun a o na e => ?_) (bag_upd (o := PairO (v % 7 - 3, v / 7 - 3)) bG nt) (sb_none hb bG sG nt) upd_same
      · rw [← ev] at y
        exact y
      · unfold placeB
        have h1 := Int.emod_nonneg v (show (7 : Int) ≠ 0 by decide)
        have h2 := Int.emod_lt_of_pos v (show (0 : Int) < 7 by decide)
        have h3 : 0 ≤ v / 7 := Int.ediv_nonneg v0 (by decide)
        have h4 : v / 7 < 7 := Int.ediv_lt_of_lt_mul (by decide) (by omega)
        simp only [Bool.and_eq_true, Bool.or_eq_true, decide_eq_true_eq]
        refine ⟨⟨by omega, by omega⟩, ⟨by omega, by omega⟩, ?_⟩
        by_cases z : v % 7 = 3
        · right
          omega
        · left
          omega
      · have y := sG a o na e
        rw [upd_ne (ne_of_none y nt)]
        exact y
end
section
variable {P : Program} {w : World} {K : PySem.W.Frag} {mg : Str → Option Value} {base : Heap} {C CI CW D : Addr} {κ : Nat}
/-- three signs at most -/
structure Sg3 (y : List Nat) : Prop where
  sg : Sgn y
  l3 : y.length ≤ 3
def spSigns : Sp := fun vs H Q _ => ∃ b l z, vs = [.ref b, .str (S z)] ∧ BagL H b l ∧ Pal z ∧ ∀ y H', Sg3 y → But b H H' → BagL H' b l → Q (.str (S y)) H'
theorem scSigns : FnScope ["_law_bag_here", "_law_palette_here", "_law_signs_here", "_law_other"] ["_law_bag_here", "_law_palette_here"] (defScope lSigns) := ⟨rfl, rfl, rfl, by decide +kernel, rfl, by decide +kernel, by decide +kernel⟩
theorem ok_signs {f t : Addr} {fd td : FuncData} (F : Fun K "_law_signs" "_law_signs" lSigns f fd) (T : Cl P w K mg base CX0 1 "_law_take" tkNames spTake t td) : FnOk P w K mg base CX0 2 f fd ["_law_bag_here", "_law_palette_here"] spSigns := by
  refine F.ok scSigns (fun vs H Q E h => ?_) (fun cdv A outer s H vs Q E hr h => ?_)
  · obtain ⟨b, l, z, rfl, _⟩ := h
    rfl
  · obtain ⟨b, l, z, rfl, hb, hz, k⟩ := h
    refine ⟨_, pss_cons (ps_set (i := 2) scSigns.nd rfl (.inl rfl) (pe_ix ix_str (pv 1) (pe_call T.ok hr (by rfl) T.gl T.kp T.bd .nil pass0 (pa_cons (pv 0) (pa_cons pe_int pa_nil))) (fun _ _ => rfl))) (pss_cons (ps_set (i := 3) scSigns.nd rfl (.inl rfl) (pe_ix ix_str (pv 1) (pe_call T.ok hr (by rfl) T.gl T.kp T.bd .nil pass0 (pa_cons (pv 0) (pa_cons pe_int pa_nil))) (fun _ _ => rfl))) (C8.pss_cut (ps_if (PW.pt (pw_and (pt_cmpR op_eq (pe_call T.ok hr (by rfl) T.gl T.kp T.bd .nil pass0 (pa_cons (pv 0) (pa_cons pe_int pa_nil))) pe_int (nomark _)) (pw_and1 (pt_cmpR op_notIn_sign (pv 3) (pv 2) (by rfl))))) (pss_one (ps_set (i := 2) scSigns.nd rfl (.inl rfl) (pe_op op_add_str (pv 3) (pv 2)))) pss_nil) (pss_cons (ps_if (pt_cmpR op_eq (pe_call T.ok hr (by rfl) T.gl T.kp T.bd .nil pass0 (pa_cons (pv 0) (pa_cons pe_int pa_nil))) pe_int (nomark _)) (pss_one (ps_set (i := 2) scSigns.nd rfl (.inl rfl) (pe_op op_add_str (pv 2) pe_str))) pss_nil)
      (pss_one (ps_ret (pv 2)))))), ?_⟩
    have lz : (S z).length ≤ sizeLine := by rw [len_S, hz.len]; exact small_line (by decide)
    refine ⟨_, rfl, _, rfl, b, l, 3, rfl, hb, by decide, by decide, fun n H1 n0 n1 u1 b1 => ?_⟩
    obtain ⟨c, ec, hc⟩ := pal_at hz n0 n1
    refine ⟨_, n, c, rfl, rfl, lz, ec, ?_⟩
    refine ⟨_, rfl, _, rfl, b, l, 3, rfl, b1, by decide, by decide, fun n2 H2 p0 p1 u2 b2 => ?_⟩
    obtain ⟨d, ed, hd⟩ := pal_at hz p0 p1
    refine ⟨_, n2, d, rfl, rfl, lz, ed, ?_⟩
    refine ⟨fun σ G => ∃ y, σ = [some (.ref b), some (.str (S z)), some (.str (S y)), some (.str (S [d]))] ∧ y ≠ [] ∧ y.Nodup ∧ (∀ c ∈ y, Let c) ∧ y.length ≤ 2 ∧ But b H G ∧ BagL G b l, ?_, ?_⟩
    · refine ⟨_, rfl, b, l, 3, rfl, b2, by decide, by decide, fun n3 H3 _ _ u3 b3 => ⟨rfl, _, rfl, ite2 (fun _ => ?_) (fun _ => ⟨[c], rfl, by simp, by simp, by simpa using hc, (by show 1 ≤ 2; decide), (u1.trans u2).trans u3, b3⟩)⟩⟩
      refine ⟨_, rfl, _, rfl, d, S [c], rfl, rfl, _, rfl, ?_⟩
      by_cases e : d = c
      · refine iteFe (by rw [e]; simp) ⟨[c], rfl, by simp, by simp, by simpa using hc, (by show 1 ≤ 2; decide), (u1.trans u2).trans u3, b3⟩
      · refine iteTe (by simp [e]) ⟨_, rfl, _, rfl, _, _, rfl, rfl, (by rw [len_S, len_S]; show 1 + 1 ≤ sizeLine; decide), [d, c], ?_, by simp, by simp [e], ?_, (by show 2 ≤ 2; decide), (u1.trans u2).trans u3, b3⟩
        · exact congrArg (fun x => [some (V.ref b), some (V.str (S z)), some (V.str x), some (V.str (S [d]))]) (S_cat [d] [c])
        · intro x m
          rcases List.mem_cons.mp m with e | m
          · rw [e]
            exact hd
          · rw [List.mem_singleton.mp m]
            exact hc
    · rintro σ G ⟨y, rfl, y0, y1, y2, y3, uG, bG⟩
      refine ⟨_, rfl, b, l, 4, rfl, bG, by decide, by decide, fun n3 H3 _ _ u3 b3 => ⟨rfl, _, rfl, ite2 (fun _ => ?_) (fun _ => ⟨_, rfl, k y H3 ⟨⟨y0, y1, fun c m => .inr (y2 c m), by omega⟩, by omega⟩ (uG.trans u3) b3⟩)⟩⟩
      refine ⟨_, rfl, _, _, rfl, rfl, ?_, _, rfl, ?_⟩
      · rw [len_S]
        show y.length + 1 ≤ sizeLine
        exact small_line (by omega)
      · have e : S y ++ ("#" : Str) = S (y ++ [35]) := by rw [hash_S, S_cat]
        have q := k (y ++ [35]) H3 ⟨⟨by simp, ?_, fun c m => ?_, by rw [List.length_append, List.length_singleton]; omega⟩, by rw [List.length_append, List.length_singleton]; omega⟩ (uG.trans u3) b3
        · rw [← e] at q
          exact q
        · rw [List.nodup_append]
          refine ⟨y1, by simp, fun a ha c hc e2 => ?_⟩
          have hl := y2 a ha
          rw [e2, List.mem_singleton.mp hc] at hl
          unfold Let at hl
          omega
        · rcases List.mem_append.mp m with m | m
          · exact .inr (y2 c m)
          · exact .inl (List.mem_singleton.mp m)
def spParts : Sp := fun vs H Q _ => ∃ b l z, vs = [.ref b, .str (S z)] ∧ BagL H b l ∧ Pal z ∧ ∀ p ks H', SameBut b H H' → BagL H' b l → H p = none → CndsAt H' p ks → ks.length ≤ 8 → (ks.map fun q => q.2.1).Nodup → (∀ q ∈ ks, placeB q.2.1 = true ∧ Sg3 q.2.2) → Q (.ref p) H'
abbrev nParts : List Str := ["_law_bag_here", "_law_palette_here", "_law_many", "_law_parts_here", "_law_k", "_law_offset_here", "_law_signs_here", "_law_part"]
theorem scParts : FnScope nParts ["_law_bag_here", "_law_palette_here"] (defScope lParts) := ⟨rfl, rfl, rfl, by decide +kernel, rfl, by decide +kernel, by decide +kernel⟩
theorem ok_parts {f t o g : Addr} {fd td od gd : FuncData} (F : Fun K "_law_parts" "_law_parts" lParts f fd) (T : Cl P w K mg base CX0 1 "_law_take" tkNames spTake t td) (O : Cl P w K mg base CX0 2 "_law_offset" ["_law_bag_here"] spOffset o od) (Sg : Cl P w K mg base CX0 2 "_law_signs" ["_law_bag_here", "_law_palette_here"] spSigns g gd) (L : LTxt K mg) :
    FnOk P w K mg base CX0 3 f fd ["_law_bag_here", "_law_palette_here"] spParts := by
  refine F.ok scParts (fun vs H Q E h => ?_) (fun cdv A outer s H vs Q E hr h => ?_)
  · obtain ⟨b, l, z, rfl, _⟩ := h
    rfl
  · obtain ⟨b, l, z, rfl, hb, hz, k⟩ := h
    have hr1 : Room 1 _ := hr.mono (by decide)
    refine ⟨_, pss_cons (ps_set (i := 2) scParts.nd rfl (.inl rfl) (pe_call T.ok hr1 (by rfl) T.gl T.kp T.bd .nil pass0 (pa_cons (pv 0) (pa_cons pe_int pa_nil)))) (C8.pss_cut (ps_if (pt_cmpR op_eq (pe_call T.ok hr1 (by rfl) T.gl T.kp T.bd .nil pass0 (pa_cons (pv 0) (pa_cons pe_int pa_nil))) pe_int (nomark _)) (pss_one (ps_set (i := 2) scParts.nd rfl (.inl rfl) pe_int)) pss_nil) (pss_cons (ps_set (i := 3) scParts.nd rfl (.inl rfl) (pe_lst pa_nil))
      (pss_cons (ps_for PassesOwn.never rfl (pi_range1 (by rfl) L.rng (pa_cons (pv 2) pa_nil)) (pg_name (i := 4) scParts.nd rfl (.inl rfl)) (pss_cons (ps_set (i := 5) scParts.nd rfl (.inl rfl) (pe_call O.ok hr (by rfl) O.gl O.kp O.bd .nil pass0 (pa_cons (pv 0) pa_nil)))
        (pss_cons (ps_set (i := 6) scParts.nd rfl (.inl rfl) (pe_call Sg.ok hr (by rfl) Sg.gl Sg.kp Sg.bd .nil pass0 (pa_cons (pv 0) (pa_cons (pv 1) pa_nil))))
        (pss_one (ps_if (pt_cmpR (op_notInD (hu65r hr)) (pv 5) (pe_lc (own := [("_law_part", 7)]) (g := (gName 7)) (tt := tYes) (te := (tTup (tCons (tOp (rIxT K) (tVar 7) (tC (.int 0))) (tCons (tOp (rIxT K) (tVar 7) (tC (.int 1))) tNil)))) rfl scParts.nd (pi_list (pv 3)) (blkOk_by (own := [("_law_part", 7)]) (N := nParts) (sc := defScope lParts) (by decide +kernel)) (fun _ _ _ _ _ => (pg_name (i := 7) scParts.nd rfl (.inl rfl))) (fun _ _ _ _ _ => pts_nil) (fun _ _ _ _ _ => (pe_tup (pa_cons (by exact pe_ix ix_tup (pv 7) pe_int (fun _ _ => rfl)) (pa_cons (by exact pe_ix ix_tup (pv 7) pe_int (fun _ _ => rfl)) pa_nil))))) (by rfl)) (pss_one (ps_expr (pe_bm PySem.F.plainAttrs_list PySem.F.slot_list_append PySem.F.type_list_append mt_append (pv 3) (pa_cons (pe_tup (pa_cons (pe_ix ix_tup (pv 5) pe_int (fun _ _ => rfl)) (pa_cons (pe_ix ix_tup (pv 5) pe_int (fun _ _ => rfl)) (pa_cons (pv 6) pa_nil)))) pa_nil)))) pss_nil)))))
      (pss_one (ps_ret (pv 3)))))), ?_⟩
    refine ⟨_, rfl, b, l, 4, rfl, hb, by decide, by decide, fun n H1 n0 n1 u1 b1 => ?_⟩
    refine ⟨fun σ G => ∃ m : Int, σ = [some (.ref b), some (.str (S z)), some (.int m), none, none, none, none, none] ∧ 0 ≤ m ∧ m ≤ 8 ∧ But b H G ∧ BagL G b l, ?_, ?_⟩
    · exact ⟨_, rfl, b, l, 9, rfl, b1, by decide, by decide, fun n3 H3 _ _ u3 b3 => ⟨rfl, _, rfl, ite2 (fun _ => ⟨8, rfl, by decide, by decide, u1.trans u3, b3⟩) (fun _ => ⟨n, rfl, n0, by omega, u1.trans u3, b3⟩)⟩⟩
    · rintro σ G ⟨m, rfl, m0, m8, uG, bG⟩
      refine ⟨by decide, fun p np => ?_⟩
      have np0 : H p = none := sb_none hb bG (but_same uG) np
      refine ⟨_, rfl, m, rfl, by omega, by omega, for_range (lo := 0) (n := m.toNat) (fun i σ G => ∃ y4 y5 y6 ks, σ = [some (.ref b), some (.str (S z)), some (.int m), some (.ref p), y4, y5, y6, none] ∧ ks.length ≤ i ∧ (ks.map fun q : Addr × Cnd => q.2.1).Nodup ∧ (∀ q ∈ ks, placeB q.2.1 = true ∧ Sg3 q.2.2) ∧ (∀ a o, a ≠ b → H a = some o → G a = some o) ∧ BagL G b l ∧ CndsAt G p ks)
        ⟨_, _, _, [], rfl, Nat.le_refl _, List.nodup_nil, (fun q m => nomatch m), fun a o na e => ?_, bag_upd bG np, ⟨upd_same, fun q m => nomatch m⟩⟩ ?_ ?_⟩
      · have y := but_same uG a o na e
        rw [upd_ne (ne_of_none y np)]
        exact y
      · rintro i σ G1 hi ⟨y4, y5, y6, ks, rfl, lk, nd, gk, sG, bG1, hc⟩
        have pb : p ≠ b := fun e => by
          obtain ⟨xs, e2⟩ := bag_b hb
          rw [e, e2] at np0
          cases np0
        refine ⟨_, rfl, b, l, rfl, bG1, fun t c G2 pc s2 b2 nt ht => ?_⟩
        have hc2 := hc.sb pb bG1 s2
        have tb : t ≠ b := fun e => by
          obtain ⟨xs, e2⟩ := bag_b bG1
          rw [e, e2] at nt
          cases nt
        refine ⟨_, rfl, _, rfl, b, l, z, rfl, b2, hz, fun y G3 gy u3 b3 => ?_⟩
        have hc3 := hc2.sb pb b2 (but_same u3)
        have ht3 := (u3 t tb).trans ht
        refine ⟨_, rfl, .ref p, rfl, p, rfl, ⟨_, SqL.of hc3.lst⟩, fun D nD => lc_list (K := K) (a := p) (xs := refC ks) (fun i G => ∃ ps : List (Addr × (Int × Int)), Same G3 G ∧ G D = some (.lst (ps.map fun q => V.ref q.1)) ∧ (∀ q ∈ ps, G q.1 = some (PairO q.2)) ∧ ps.map (·.2) = (ks.take i).map fun q => q.2.1) ⟨[], same_upd nD, upd_same, (fun p hp => nomatch hp), rfl⟩ (fun i G _ ⟨ts, sm, _⟩ => SqL.of (sm _ _ hc3.lst)) ?_ ?_⟩
        · rintro j x G hx ⟨ps, sm, hD, hps, ep⟩
          obtain ⟨t2, c2, hj, rfl⟩ := refC_at hx
          have htc := sm _ _ (hc3.each _ (List.mem_of_getElem? hj))
          have lj : j < ks.length := (List.getElem?_eq_some_iff.mp hj).1
          refine ⟨rfl, tyes (iteT ⟨_, rfl, t2, _, 0, _, rfl, rfl, SqT.of htc, rfl, _, rfl, t2, _, 1, _, rfl, rfl, SqT.of htc, rfl, by show 2 ≤ sizeLine; decide, fun T' nT => ?_⟩)⟩
          have s3 := same_upd (o := .tup [.int c2.1.1, .int c2.1.2]) nT
          have nDT : D ≠ T' := ne_of_none hD nT
          refine ⟨ps.map fun q => V.ref q.1, s3 _ _ hD, ?_, ps ++ [(T', c2.1)], fun a o e => ?_, ?_, fun q hq => ?_, ?_⟩
          · have := congrArg List.length ep
            rw [List.length_map, List.length_map, List.length_take] at this
            rw [List.length_map]
            exact small1000 (by omega)
          · rw [upd_ne (ne_of_none e nD)]
            exact s3 _ _ (sm _ _ e)
          · rw [upd_same, List.map_append]
            rfl
          · rcases List.mem_append.mp hq with y' | y'
            · have y2 := s3 _ _ (hps q y')
              rw [upd_ne (fun e => ?_)]
              · exact y2
              · rw [e, s3 _ _ hD] at y2
                cases y2
            · rw [List.mem_singleton.mp y']
              rw [upd_ne nDT.symm, upd_same]
              rfl
          · rw [List.map_append, ep, List.take_add_one, hj, List.map_append]
            rfl
        · rintro G4 ⟨ps, sm, hD, hps, ep⟩
          rw [show (refC ks).length = ks.length from List.length_map _, List.take_of_length_le (Nat.le_refl _)] at ep
          have dps : DpAll K G4 (ps.map fun q => V.ref q.1) ((ps.map (·.2)).map dP) := by
            clear ep hD
            induction ps with
            | nil => exact .nil
            | cons q ps ih => exact .cons (.tup (SqT.of (hps q List.mem_cons_self)) (.cons (.int _) (.cons (.int _) .nil))) (ih fun q' m => hps q' (List.mem_cons_of_mem _ m))
          refine ⟨dP c, _, .tup (SqT.of (sm _ _ ht3)) (.cons (.int _) (.cons (.int _) .nil)), .lst (SqL.of hD) dps, dP_shaped c, dPs_shaped _, _, rfl, ?_⟩
          rw [dPs_any, ep]
          have sAll : ∀ a o, a ≠ b → H a = some o → G4 a = some o := fun a o na e => sm _ _ ((u3 a na).trans (s2 a o na (sG a o na e)))
          have bG4 := bag_sb b3 sm
          have hc4 := hc3.same sm
          by_cases new : c ∈ ks.map fun q => q.2.1
          · refine iteFe (by rw [decide_eq_true new]; rfl) ?_
            exact ⟨_, _, _, ks, rfl, by omega, nd, gk, sAll, bG4, hc4⟩
          · refine iteTe (by rw [decide_eq_false new]; rfl) ?_
            refine ⟨_, rfl, .inl ⟨rfl, _, SqL.of hc4.lst⟩, _, rfl, t, _, 0, _, rfl, rfl, SqT.of (sm _ _ ht3), rfl, _, rfl, t, _, 1, _, rfl, rfl, SqT.of (sm _ _ ht3), rfl, _, rfl, by show 3 ≤ sizeLine; decide, fun T' nT => ?_⟩
            have s5 := same_upd (o := .tup [.int c.1, .int c.2, .str (S y)]) nT
            have nTb : T' ≠ b := fun e => by
              obtain ⟨xs, e2⟩ := bag_b bG4
              rw [e, e2] at nT
              cases nT
            have npT : p ≠ T' := ne_of_none hc4.lst nT
            have bl : p ≠ l := fun e => by
              obtain ⟨xs, e2⟩ := bag_l hb
              rw [e, e2] at np0
              cases np0
            refine ⟨p, _, _, rfl, rfl, s5 _ _ hc4.lst, ?_, _, _, _, ks ++ [(T', (c, y))], rfl, ?_, ?_, fun q hq => ?_, fun a o na e => ?_, bag_ne (bag_sb bG4 s5) pb bl, ?_, fun q hq => ?_⟩
            · rw [show (refC ks).length = ks.length from List.length_map _]
              exact small1000 (by omega)
            · rw [List.length_append, List.length_singleton]
              omega
            · rw [List.map_append]
              rw [List.nodup_append]
              refine ⟨nd, by simp, fun a ha d hd e2 => ?_⟩
              have hd : d = c := by simpa using hd
              rw [e2, hd] at ha
              exact new ha
            · rcases List.mem_append.mp hq with m' | m'
              · exact gk q m'
              · rw [List.mem_singleton.mp m']
                exact ⟨pc, gy⟩
            · rw [upd_ne (ne_of_none e np0)]
              exact s5 _ _ (sAll a o na e)
            · rw [upd_same]
              unfold refC
              rw [List.map_append]
              rfl
            · rcases List.mem_append.mp hq with m' | m'
              · have y2 := s5 _ _ (hc4.each q m')
                rw [upd_ne (fun e => ?_)]
                · exact y2
                · rw [e, s5 _ _ hc4.lst] at y2
                  cases y2
              · rw [List.mem_singleton.mp m']
                rw [upd_ne npT.symm, upd_same]
                rfl
      · rintro σ G1 ⟨y4, y5, y6, ks, rfl, lk, nd, gk, sG, bG1, hc⟩
        exact ⟨_, rfl, k p ks G1 sG bG1 np0 hc (by omega) nd gk⟩
end
section
variable {P : Program} {w : World} {K : PySem.W.Frag} {mg : Str → Option Value} {base : Heap} {C CI CW D : Addr} {κ : Nat}
def spRule : Sp := fun vs H Q _ => ∃ b l z, vs = [.ref b, .str (S z)] ∧ BagL H b l ∧ Pal z ∧ ∀ t pl κ hue ks need H', SameBut b H H' → BagL H' b l → RuleT H' t pl κ hue ks need → t ≠ b → pl ≠ b → H pl = none → (∀ q ∈ ks, q.2.2.length ≤ 3) → Q (.ref t) H'
abbrev nRule : List Str := ["_law_bag_here", "_law_palette_here", "_law_kind", "_law_hue", "_law_parts_here", "_law_need"]
theorem scRule : FnScope nRule ["_law_bag_here", "_law_palette_here"] (defScope lRule) := ⟨rfl, rfl, rfl, by decide +kernel, rfl, by decide +kernel, by decide +kernel⟩
theorem ok_rule {f t p : Addr} {fd td pd : FuncData} (F : Fun K "_law_rule" "_law_rule" lRule f fd) (T : Cl P w K mg base CX0 1 "_law_take" tkNames spTake t td) (Pa : Cl P w K mg base CX0 3 "_law_parts" ["_law_bag_here", "_law_palette_here"] spParts p pd) (L : LTxt K mg) : FnOk P w K mg base CX0 4 f fd ["_law_bag_here", "_law_palette_here"] spRule := by
  refine F.ok scRule (fun vs H Q E h => ?_) (fun cdv A outer s H vs Q E hr h => ?_)
  · obtain ⟨b, l, z, rfl, _⟩ := h
    rfl
  · obtain ⟨b, l, z, rfl, hb, hz, k⟩ := h
    have hr1 : Room 1 _ := hr.mono (by decide)
    refine ⟨_, (pss_cons (ps_set (i := 2) scRule.nd rfl (.inl rfl) (pe_ix ix_list (pe_lst (pa_cons pe_str (pa_cons pe_str (pa_cons pe_str pa_nil)))) (pe_call T.ok hr1 (by rfl) T.gl T.kp T.bd .nil pass0 (pa_cons (pv 0) (pa_cons pe_int pa_nil))) (fun _ _ => rfl)))
      (pss_cons (ps_set (i := 3) scRule.nd rfl (.inl rfl) (pe_ix ix_str (pv 1) (pe_call T.ok hr1 (by rfl) T.gl T.kp T.bd .nil pass0 (pa_cons (pv 0) (pa_cons pe_int pa_nil))) (fun _ _ => rfl)))
      (pss_cons (ps_set (i := 4) scRule.nd rfl (.inl rfl) (pe_call Pa.ok hr (by rfl) Pa.gl Pa.kp Pa.bd .nil pass0 (pa_cons (pv 0) (pa_cons (pv 1) pa_nil))))
      (pss_cons (ps_set (i := 5) scRule.nd rfl (.inl rfl) (pe_call T.ok hr1 (by rfl) T.gl T.kp T.bd .nil pass0 (pa_cons (pv 0) (pa_cons (pe_op op_add (pe_callB call_len_seq (by rfl) L.len PySem.boot_len (pa_cons (pv 4) pa_nil)) pe_int) pa_nil))))
      (pss_cons (ps_if (pt_cmpR op_eq (pv 2) pe_str (nomark _)) (pss_one (ps_set (i := 5) scRule.nd rfl (.inl rfl) (pe_callB call_len_seq (by rfl) L.len PySem.boot_len (pa_cons (pv 4) pa_nil)))) pss_nil)
      (pss_one (ps_ret (pe_tup (pa_cons (pv 2) (pa_cons (pv 3) (pa_cons (pv 4) (pa_cons (pv 5) pa_nil)))))))))))), ?_⟩
    have lz : (S z).length ≤ sizeLine := by rw [len_S, hz.len]; exact small_line (by decide)
    refine ⟨by show 3 ≤ sizeLine; decide, fun q nq => ?_⟩
    have b0 := bag_upd (o := .lst [.str "all", .str "count", .str "same"]) hb nq
    have qb : q ≠ b := fun e => by
      obtain ⟨xs, e2⟩ := bag_b hb
      rw [e, e2] at nq
      cases nq
    refine ⟨_, rfl, b, l, 3, rfl, b0, by decide, by decide, fun n H1 n0 n1 u1 b1 => ?_⟩
    obtain ⟨κ, k3, rfl, ek⟩ := kinds_at n n0 n1
    refine ⟨q, _, _, _, rfl, rfl, SqL.of ((u1 q qb).trans upd_same), ek, ?_⟩
    refine ⟨_, rfl, _, rfl, b, l, 3, rfl, b1, by decide, by decide, fun n2 H2 p0 p1 u2 b2 => ?_⟩
    obtain ⟨d, ed, hd⟩ := pal_at hz p0 p1
    refine ⟨_, n2, d, rfl, rfl, lz, ed, ?_⟩
    refine ⟨_, rfl, _, rfl, b, l, z, rfl, b2, hz, fun pl ks H3 s3 b3 np hc few nd gd => ?_⟩
    have lk : (refC ks).length = ks.length := List.length_map _
    have plb : pl ≠ b := fun e => by
      obtain ⟨xs, e2⟩ := bag_b b2
      rw [e, e2] at np
      cases np
    refine ⟨_, rfl, _, rfl, pl, _, rfl, .inl (SqL.of hc.lst), _, _, rfl, rfl, b, l, _, rfl, b3, by rw [lk]; omega, by rw [lk]; omega, fun m H4 m0 m1 u4 b4 => ?_⟩
    rw [lk] at m1
    have hc4 := hc.sb plb b3 (but_same u4)
    have s02 : SameBut b H H2 := fun a o na e => but_same (u1.trans u2) a o na (same_upd nq _ _ e)
    have s04 : SameBut b H H4 := fun a o na e => but_same u4 a o na (s3 a o na (s02 a o na e))
    have pl0 : H pl = none := sb_none hb b2 s02 np
    have fin : ∀ (m : Int), 0 ≤ m → m ≤ (ks.length : Int) → (κ = 0 → m = (ks.length : Int)) → 4 ≤ sizeLine ∧ ∀ p, H4 p = none → Q (.ref p) (upd H4 p (.tup [.str (kindT κ), .str (S [d]), .ref pl, .int m])) := fun m m0 m1 m2 => by
      refine ⟨by decide, fun t nt => ?_⟩
      have st := same_upd (o := .tup [.str (kindT κ), .str (S [d]), .ref pl, .int m]) nt
      refine k t pl κ d ks m _ (fun a o na e => st _ _ (s04 a o na e)) (bag_sb b4 st) ⟨upd_same, hc4.same st, ⟨k3, hd, by rw [List.length_map]; exact few, ?_, fun c hcm => ?_, m0, by rw [List.length_map]; exact m1, fun e => by rw [List.length_map]; exact m2 e⟩⟩ (fun e => ?_) plb pl0 (fun q m => (gd q m).2.l3)
      · rw [List.map_map]
        exact nd
      · obtain ⟨q', mq, rfl⟩ := List.mem_map.mp hcm
        exact ⟨(gd q' mq).1, (gd q' mq).2.sg⟩
      · obtain ⟨xs, e2⟩ := bag_b b4
        rw [e, e2] at nt
        cases nt
    refine ⟨_, rfl, rfl, _, rfl, ?_⟩
    rw [kind_all k3]
    by_cases e0 : κ = 0
    · refine iteTe (decide_eq_true e0) ⟨_, rfl, pl, _, rfl, .inl (SqL.of hc4.lst), ?_⟩
      rw [lk]
      exact ⟨_, rfl, _, rfl, _, rfl, _, rfl, fin _ (by omega) (Int.le_refl _) fun _ => rfl⟩
    · refine iteFe (decide_eq_false e0) ?_
      exact ⟨_, rfl, _, rfl, _, rfl, _, rfl, fin m m0 (by omega) fun e => absurd e e0⟩
end
abbrev nSortedP : List Str := ["_law_rule_here", "_law_part", "_law_one"]
theorem scSortedP : FnScope nSortedP ["_law_rule_here"] (defScope lSortedParts) := ⟨rfl, rfl, rfl, by decide +kernel, rfl, by decide +kernel, by decide +kernel⟩
section
variable {P : Program} {w : World} {K : PySem.W.Frag} {mg : Str → Option Value} {base : Heap}
theorem ok_sorted {f : Addr} {fd : FuncData} (F : Fun K "_law_sorted_parts" "_law_sorted_parts" lSortedParts f fd) (R : STxt K mg) : FnOk P w K mg base CX0 1 f fd ["_law_rule_here"] (spG K gSorted) := by
  refine F.ok scSortedP (spG_len fun ds d ⟨_, _, _, _, _, e, _⟩ => by rw [e]; rfl) (fun cdv A outer s H vs Q E hr h => ?_)
  obtain ⟨ds, d, ⟨κ, hue, cs, need, hR, rfl, rfl⟩, h⟩ := h
  obtain ⟨B, tw⟩ := tree_wish (N := nSortedP) h (by show 1 ≤ 3; decide)
  refine ⟨_, (show OkSs _ B _ [.d (ruleD κ hue cs need), .no, .no] (.rt (.lst ((ordC cs).map tripD))) from ?_), tw⟩
  have few := hR.few
  have nd : ((cs.map flC).map (·.1)).Nodup := by
    rw [List.map_map]
    have e : cs.map ((·.1) ∘ flC) = (cs.map (·.1)).map fl := by rw [List.map_map]; rfl
    rw [e]
    exact List.pairwise_map.mpr (hR.nd.imp fun ne e => ne (Prod.ext (congrArg Prod.snd e) (congrArg Prod.fst e)))
  have lt : (tsort (cs.map flC)).length ≤ 90000 := by rw [(tsort_perm _).length_eq, List.length_map]; omega
  have e1 : (tsort (cs.map flC)).map (fun c => tripD (flC c)) = (ordC cs).map tripD := by unfold ordC; rw [List.map_map]; rfl
  have e2 : (cs.map fun c => tripD (flC c)) = (cs.map flC).map tripD := by rw [List.map_map]; rfl
  rw [← e1]
  refine (s_one (s_ret (t_lc (vs := [1]) (tsort (cs.map flC)) tripD (fun k => _) (fun c => tripD (flC c)) (fun h => by exact pe_lc (own := [("_law_part", 1)]) (g := (gName 1)) (tt := tYes) rfl scSortedP.nd h (blkOk_by (own := [("_law_part", 1)]) (N := nSortedP) (sc := defScope lSortedParts) (by decide +kernel)) (fun _ _ _ _ _ => (pg_name (i := 1) scSortedP.nd rfl (.inl rfl))) (fun _ _ _ _ _ => pts_nil) (fun _ _ _ _ _ => (pe_el fun _ _ _ => (t_tup (a_cons (t_ixT (ok_var (pv 1) rfl) ok_int rfl (fun _ _ => rfl)) (a_cons (t_ixT (ok_var (pv 1) rfl) ok_int rfl (fun _ _ => rfl)) (a_cons (t_ixT (ok_var (pv 1) rfl) ok_int rfl (fun _ _ => rfl)) a_nil))) (by show 3 ≤ 100000; decide))))) (i_list (t_cb (fun h => pe_callB cr_sortedTr (by rfl) R.srt (by decide +kernel) h) (a_cons (ok_as (t_lc (vs := [2]) (cs) tripD (fun k => _) (fun c => tripD (flC c)) (fun h => by exact pe_lc (own := [("_law_one", 2)]) (g := (gName 2)) (tt := tYes) rfl scSortedP.nd h (blkOk_by (own := [("_law_one", 2)]) (N := nSortedP) (sc := defScope lSortedParts) (by decide +kernel)) (fun _ _ _ _ _ => (pg_name (i := 2) scSortedP.nd rfl (.inl rfl))) (fun _ _ _ _ _ => pts_nil) (fun _ _ _ _ _ => (pe_el fun _ _ _ => (t_tup (a_cons (t_ixT (ok_var (pv 2) rfl) ok_int rfl (fun _ _ => rfl)) (a_cons (t_ixT (ok_var (pv 2) rfl) ok_int rfl (fun _ _ => rfl)) (a_cons (t_ixT (ok_var (pv 2) rfl) ok_int rfl (fun _ _ => rfl)) a_nil))) (by show 3 ≤ 100000; decide))))) (i_list (t_ixT (ok_var (pv 0) rfl) ok_int rfl (fun _ _ => rfl))) (fun _ _ _ => (b_name (i := 2) (by decide))) (by omega)) (congrArg D.lst e2)) a_nil) (rc_sortTr nd))) (fun _ _ _ => (b_name (i := 1) (by decide))) lt)))
end
section
variable {P : Program} {w : World} {K : PySem.W.Frag} {mg : Str → Option Value} {base : Heap}
abbrev nWritten : List Str := ["_law_rule_here", "_law_words", "_law_part", "_law_signs_here"]
theorem scWrittenL : FnScope nWritten ["_law_rule_here"] (defScope lWritten) := ⟨rfl, rfl, rfl, by decide +kernel, rfl, by decide +kernel, by decide +kernel⟩
theorem ok_writtenL {f g : Addr} {fd gd : FuncData} (F : Fun K "_law_written" "_law_written" lWritten f fd) (G : Cl P w K mg base CX0 1 "_law_sorted_parts" ["_law_rule_here"] (spG K gSorted) g gd) (R : STxt K mg) (W : WTx K mg) : FnOk P w K mg base CX0 2 f fd ["_law_rule_here"] (spG K gWritten) := by
  refine F.ok scWrittenL (spG_len fun ds d ⟨_, _, _, _, _, e, _⟩ => by rw [e]; rfl) (fun cdv A outer s H vs Q E hr h => ?_)
  obtain ⟨ds, d, ⟨κ, hue, cs, need, hR, rfl, rfl⟩, h⟩ := h
  obtain ⟨B, tw⟩ := tree_wish (N := nWritten) h (by show 1 ≤ 4; decide)
  refine ⟨_, (show OkSs _ B _ [.d (ruleD κ hue cs need), .no, .no, .no] (.rt (.tx (writT κ hue cs need))) from ?_), tw⟩
  obtain ⟨few, each⟩ := hR.ord
  have gs : gSorted [ruleD κ hue cs need] (.lst ((ordC cs).map tripD)) := ⟨κ, hue, cs, need, hR, rfl, rfl⟩
  have tn := hR.need
  have ea : ∀ {i : Nat} {k : Cnd}, (ordC cs)[i]? = some k → tiny k.1.1 ∧ tiny k.1.2 ∧ k.2.length ≤ 27 := fun h => each _ (List.mem_of_getElem? h)
  have hl : ∀ z ∈ headW κ hue need ++ (ordC cs).map (wordW κ), z.length ≤ 50 := fun z m => by
    rcases List.mem_append.mp m with m | m
    · exact headW_each z m
    · obtain ⟨c, hc, rfl⟩ := List.mem_map.mp m
      exact wordW_len (each c hc).2.2
  have lw : (headW κ hue need ++ (ordC cs).map (wordW κ)).length * (50 + [32].length) ≤ 16777216 := by
    rw [List.length_append, headW_len, List.length_map]
    show _ * 51 ≤ _
    omega
  have ef := foldl_app (wordW κ) (ordC cs) (headW κ hue need)
  unfold writT
  rw [← ef] at hl lw ⊢
  refine (s_cons (s_setOwn (i := 1) (fun h => ps_set (i := 1) scWrittenL.nd rfl (.inl rfl) (pe_lst h)) (a_cons (t_ixT (ok_var (pv 0) rfl) ok_int rfl (fun _ _ => rfl)) (a_cons (t_cb (fun h => pe_callTy call_str_int (by rfl) W.str (by decide +kernel) h) (a_cons (t_ixT (ok_var (pv 0) rfl) ok_int rfl (fun _ _ => rfl)) a_nil) (rc_strI (log_tiny tn) (toS tn))) a_nil)) (by show 2 ≤ 100000; decide))
    (s_cons (s_ifJoin (G := fun c => [.d (ruleD κ hue cs need), .own (.l ((bif c then [[hue], [97, 108, 108]] else [[hue], numT need]).map D.tx)), .no, .no]) (o_op (fun p q => pt_cmpR op_eq p q (nomark _)) (t_ixT (ok_var (pv 0) rfl) ok_int rfl (fun _ _ => rfl)) (ok_tx (z := [97, 108, 108]) (by decide +kernel)) r2_eqS) (fun _ => (s_one (s_setOwn (i := 1) (fun h => ps_set (i := 1) scWrittenL.nd rfl (.inl rfl) (pe_lst h)) (a_cons (t_ixT (ok_var (pv 0) rfl) ok_int rfl (fun _ _ => rfl)) (a_cons (ok_tx (z := [97, 108, 108]) (by decide +kernel)) a_nil)) (by show 2 ≤ 100000; decide)))) (fun _ => s_nil))
    (s_cons (s_ifJoin (G := fun c => [.d (ruleD κ hue cs need), .own (.l ((bif c then [[115, 97, 109, 101], numT need] else bif decide (kindL κ = [97, 108, 108]) then [[hue], [97, 108, 108]] else [[hue], numT need]).map D.tx)), .no, .no]) (o_op (fun p q => pt_cmpR op_eq p q (nomark _)) (t_ixT (ok_var (pv 0) rfl) ok_int rfl (fun _ _ => rfl)) (ok_tx (z := [115, 97, 109, 101]) (by decide +kernel)) r2_eqS) (fun _ => (s_one (s_setOwn (i := 1) (fun h => ps_set (i := 1) scWrittenL.nd rfl (.inl rfl) (pe_lst h)) (a_cons (ok_tx (z := [115, 97, 109, 101]) (by decide +kernel)) (a_cons (t_cb (fun h => pe_callTy call_str_int (by rfl) W.str (by decide +kernel) h) (a_cons (t_ixT (ok_var (pv 0) rfl) ok_int rfl (fun _ _ => rfl)) a_nil) (rc_strI (log_tiny tn) (toS tn))) a_nil)) (by show 2 ≤ 100000; decide)))) (fun _ => s_nil))
    (s_cons (s_for (vs := [2]) (fun s => [.d (ruleD κ hue cs need), .own (.l (s.map D.tx)), .no, .no]) (fun s k => s ++ [wordW κ k]) (ordC cs) tripD (headW κ hue need) (fun s k => _) (fun h g => ps_for PassesOwn.never rfl h (pg_name (i := 2) scWrittenL.nd rfl (.inl rfl)) g) (i_list (t_callG (fun h => pe_call G.ok hr (by rfl) G.gl G.kp G.bd .nil pass0 h) (a_cons (ok_var (pv 0) rfl) a_nil) gs)) (fun _ _ _ _ => (b_name (i := 2) (by decide))) (fun B i k s h1 h2 => s_leO (s_cons (s_set (i := 3) (fun h => ps_set (i := 3) scWrittenL.nd rfl (.inl rfl) h) (t_addS (ok_tx (z := [58]) (by decide +kernel)) (t_bm (fun h g => pe_bm PySem.F.plainAttrs_str PySem.F.slot_str_join PySem.F.type_str_join mt_join h g) (ok_tx (z := []) (by decide +kernel)) (a_cons (t_cb (fun h => pe_callB (cr_sortedTx rfl) (by rfl) R.srt (by decide +kernel) h) (a_cons (t_ixT (ok_var (pv 2) rfl) ok_int rfl (fun _ _ => rfl)) a_nil) (rc_sortTx (by have := (ea h1).2.2; omega))) a_nil) ty_str (rm_joinS (by have := (ea h1).2.2; omega))) (by have a1 := numT_len k.1.1; have a2 := numT_len k.1.2; have a3 := (ea h1).2.2; have a4 := (asc_perm k.2).length_eq; have a5 := pwT_len k.1; have a6 := tailW (κ := κ) (ea h1).2.2; (try simp only [List.length_append, List.length_cons, List.length_nil]); omega)))
      (s_cons (s_ifJoin (G := fun c => [.d (ruleD κ hue cs need), .own (.l (s.map D.tx)), .d (tripD k), .d (.tx (bif c then [] else [58] ++ asc k.2))]) (o_op (fun p q => pt_cmpR op_eq p q (nomark _)) (t_ixT (ok_var (pv 0) rfl) ok_int rfl (fun _ _ => rfl)) (ok_tx (z := [115, 97, 109, 101]) (by decide +kernel)) r2_eqS) (fun _ => (s_one (s_set (i := 3) (fun h => ps_set (i := 3) scWrittenL.nd rfl (.inl rfl) h) (ok_tx (z := []) (by decide +kernel))))) (fun _ => s_nil))
      (s_one (s_appendM (i := 1) (D.tx) _ (wordW κ k) (fun h => ps_expr (pe_bm PySem.F.plainAttrs_list PySem.F.slot_list_append PySem.F.type_list_append mt_append (pv 1) h)) rfl (a_cons (t_addS (t_addS (t_addS (t_cb (fun h => pe_callTy call_str_int (by rfl) W.str (by decide +kernel) h) (a_cons (t_ixT (ok_var (pv 2) rfl) ok_int rfl (fun _ _ => rfl)) a_nil) (rc_strI (log_tiny (ea h1).1) (toS (ea h1).1))) (ok_tx (z := [44]) (by decide +kernel)) (by have a1 := numT_len k.1.1; have a2 := numT_len k.1.2; have a3 := (ea h1).2.2; have a4 := (asc_perm k.2).length_eq; have a5 := pwT_len k.1; have a6 := tailW (κ := κ) (ea h1).2.2; (try simp only [List.length_append, List.length_cons, List.length_nil]); omega)) (t_cb (fun h => pe_callTy call_str_int (by rfl) W.str (by decide +kernel) h) (a_cons (t_ixT (ok_var (pv 2) rfl) ok_int rfl (fun _ _ => rfl)) a_nil) (rc_strI (log_tiny (ea h1).2.1) (toS (ea h1).2.1))) (by have a1 := numT_len k.1.1; have a2 := numT_len k.1.2; have a3 := (ea h1).2.2; have a4 := (asc_perm k.2).length_eq; have a5 := pwT_len k.1; have a6 := tailW (κ := κ) (ea h1).2.2; (try simp only [List.length_append, List.length_cons, List.length_nil]); omega)) (ok_var (pv 3) rfl) (by have a1 := numT_len k.1.1; have a2 := numT_len k.1.2; have a3 := (ea h1).2.2; have a4 := (asc_perm k.2).length_eq; have a5 := pwT_len k.1; have a6 := tailW (κ := κ) (ea h1).2.2; (try simp only [List.length_append, List.length_cons, List.length_nil]); omega)) a_nil) (by rw [h2, foldl_app, List.length_append, List.length_map, List.length_take, headW_len]; omega))))) (.cons (.cons (.cons (.cons .refl (.inl rfl)) (.inl rfl)) (.inr rfl)) (.inr rfl))))
    (s_freeze 1 rfl (s_one (s_ret (t_bm (fun h g => pe_bm PySem.F.plainAttrs_str PySem.F.slot_str_join PySem.F.type_str_join mt_join h g) (ok_tx (z := [32]) (by decide +kernel)) (a_cons (ok_var (pv 1) rfl) a_nil) ty_str (rm_join 50 hl lw)))))))))
end
end Pm
/-! ### _law_is_letter, _law_bad_part, _law_fault -/
namespace Pm
open PySem PySem.Spec PyProof.Rows L2 SX NdefX
structure RuleX (H : Hp) (t pl : Addr) (κ : Nat) (st : List Nat) (ks : List (Addr × Cnd)) (need : Int) : Prop where
  at_ : H t = some (.tup [.str (kindT κ), .str (S st), .ref pl, .int need])
  cs : CndsAt H pl ks
  k3 : κ < 3
  fst : st.length ≤ 1000
  few : ks.length ≤ 1000
  each : ∀ q ∈ ks, q.2.2.length ≤ 1000
theorem RuleX.same {H H' : Hp} {t pl : Addr} {κ : Nat} {st : List Nat} {ks : List (Addr × Cnd)} {need : Int} (h : RuleX H t pl κ st ks need) (s : Same H H') : RuleX H' t pl κ st ks need := ⟨s _ _ h.at_, h.cs.same s, h.k3, h.fst, h.few, h.each⟩
section
variable {P : Program} {w : World} {K : PySem.W.Frag} {mg : Str → Option Value} {base : Heap} {C CI CR CC CS : Addr}
theorem scLetter : FnScope ["_law_text"] ["_law_text"] (defScope lIsLetter) := ⟨rfl, rfl, rfl, by decide +kernel, rfl, by decide +kernel, by decide +kernel⟩
theorem ok_letter {f : Addr} {fd : FuncData} (F : Fun K "_law_is_letter" "_law_is_letter" lIsLetter f fd) (L : LTxt K mg) : FnOk P w K mg base CX0 1 f fd ["_law_text"] spStone := by
  refine F.ok scLetter (fun vs H Q E h => ?_) (fun cdv A outer s H vs Q E hr h => ?_)
  · obtain ⟨z, rfl, _⟩ := h
    rfl
  · obtain ⟨z, rfl, few, k⟩ := h
    refine ⟨_, (pss_one (ps_ret (pe_and (pe_cmpR op_eq (pe_callB call_len_str (by rfl) L.len PySem.boot_len (pa_cons (pv 0) pa_nil)) pe_int (nomark _)) (pe_one (pe_cmpR op_in_sign (pv 0) pe_str (by rfl)))))), ?_⟩
    refine ⟨_, rfl, _, rfl, by rw [len_S]; exact small_line few, rfl, _, rfl, ite2 (fun e => ?_) (fun e => ?_)⟩
    · have e1 : z.length = 1 := by
        have := of_decide_eq_true e
        simp only [V.int.injEq] at this
        rw [len_S] at this
        omega
      obtain ⟨c, rfl⟩ := len_one e1
      refine ⟨_, rfl, c, _, rfl, rfl, ?_⟩
      have y : decide (c ∈ alphaS.cps.toList) = stoneB [c] := decide_eq_decide.mpr (alpha_mem c)
      rw [y]
      exact k
    · have e1 : z.length ≠ 1 := fun y => e (decide_eq_true (by rw [len_S, y]; rfl))
      rw [stoneB_ne e1] at k
      exact k
end
/-! ### a bad part -/
theorem nodup_at {z : List Nat} (h : ∀ j c, z[j]? = some c → c ∉ z.take j) : z.Nodup := by
  rw [List.Nodup, List.pairwise_iff_getElem]
  intro i j hi hj hij e
  refine h j z[j] (List.getElem?_eq_getElem hj) ?_
  rw [← e]
  exact List.mem_take_iff_getElem.mpr ⟨i, by omega, rfl⟩
theorem take_nodup {z : List Nat} (h : z.Nodup) {j c : Nat} (hj : z[j]? = some c) : c ∉ z.take j := by
  intro m
  obtain ⟨i, hi, e⟩ := List.mem_take_iff_getElem.mp m
  obtain ⟨hl, e2⟩ := List.getElem?_eq_some_iff.mp hj
  have := (List.pairwise_iff_getElem.mp h) i j (by omega) hl (by omega)
  exact this (e.trans e2.symm)
theorem hash_mem (c : Nat) : c ∈ ("#abcdefghijklmnopqrstuvwxyz" : Str).cps.toList ↔ (c = 35 ∨ Let c) := by
  have e : ("#abcdefghijklmnopqrstuvwxyz" : Str).cps.toList = 35 :: List.range' 97 26 := by decide +kernel
  rw [e, List.mem_cons, List.mem_range'_1]
  unfold Let
  omega
theorem dpa_pairs {K : PySem.W.Frag} {H : Hp} : ∀ {ps : List (Addr × (Int × Int))}, (∀ q ∈ ps, H q.1 = some (PairO q.2)) → DpAll K H (ps.map fun q => V.ref q.1) ((ps.map (·.2)).map dP)
  | [], _ => .nil
  | q :: ps, e => .cons (.tup (SqT.of (e q List.mem_cons_self)) (.cons (.int _) (.cons (.int _) .nil))) (dpa_pairs fun q' m => e q' (List.mem_cons_of_mem _ m))
def badP (c : Cnd) (es : List Cnd) : Bool := badAt (es.length + 1) (es.map (·.1)) c
section
variable {P : Program} {w : World} {K : PySem.W.Frag} {mg : Str → Option Value} {base : Heap} {C CI CR CC CS : Addr}
def spBadP : Sp := fun vs H Q _ => ∃ t p c es, vs = [.ref t, .ref p] ∧ H t = some (CondO c) ∧ CndsAt H p es ∧ es.length ≤ 1000 ∧ c.2.length ≤ 1000 ∧ ∀ H', Same H H' → Q (.bl (badP c (es.map (·.2)))) H'
abbrev nBadP : List Str := ["_law_part", "_law_earlier", "_law_one", "_law_k"]
theorem scBadP : FnScope nBadP ["_law_part", "_law_earlier"] (defScope lBadPart) := ⟨rfl, rfl, rfl, by decide +kernel, rfl, by decide +kernel, by decide +kernel⟩
theorem ok_badpart {f : Addr} {fd : FuncData} (F : Fun K "_law_bad_part" "_law_bad_part" lBadPart f fd) (L : LTxt K mg) : FnOk P w K mg base CX0 1 f fd ["_law_part", "_law_earlier"] spBadP := by
  refine F.ok scBadP (fun vs H Q E h => ?_) (fun cdv A outer s H vs Q E hr h => ?_)
  · obtain ⟨t, p, c, es, rfl, _⟩ := h
    rfl
  · obtain ⟨t, p, c, es, rfl, ht, hp, few, fc, k⟩ := h
    obtain ⟨⟨x, y⟩, z⟩ := c
    refine ⟨_, (pss_cons (ps_if (PW.pt (pw_and (pt_cmpR op_eq (pe_ix ix_tup (pv 0) pe_int (fun _ _ => rfl)) pe_int (nomark _)) (pw_and1 (pt_cmpR op_eq (pe_ix ix_tup (pv 0) pe_int (fun _ _ => rfl)) pe_int (nomark _))))) (pss_one (ps_ret pe_bl)) pss_nil)
      (pss_cons (ps_if (PW.pt (pw_or (pt_cmpR op_lt (pe_ix ix_tup (pv 0) pe_int (fun _ _ => rfl)) (pe_un un_neg pe_int) (nomark _)) (pw_or (pt_cmpR op_gt (pe_ix ix_tup (pv 0) pe_int (fun _ _ => rfl)) pe_int (nomark _)) (pw_or (pt_cmpR op_lt (pe_ix ix_tup (pv 0) pe_int (fun _ _ => rfl)) (pe_un un_neg pe_int) (nomark _)) (pw_or1 (pt_cmpR op_gt (pe_ix ix_tup (pv 0) pe_int (fun _ _ => rfl)) pe_int (nomark _))))))) (pss_one (ps_ret pe_bl)) pss_nil)
      (pss_cons (ps_if (PW.pt (pw_or (pt_cmpR (op_inD (hu65r hr)) (pe_tup (pa_cons (pe_ix ix_tup (pv 0) pe_int (fun _ _ => rfl)) (pa_cons (pe_ix ix_tup (pv 0) pe_int (fun _ _ => rfl)) pa_nil))) (pe_lc (own := [("_law_one", 2)]) (g := (gName 2)) (tt := tYes) (te := (tTup (tCons (tOp (rIxT K) (tVar 2) (tC (.int 0))) (tCons (tOp (rIxT K) (tVar 2) (tC (.int 1))) tNil)))) rfl scBadP.nd (pi_list (pv 1)) (blkOk_by (own := [("_law_one", 2)]) (N := nBadP) (sc := defScope lBadPart) (by decide +kernel)) (fun _ _ _ _ _ => (pg_name (i := 2) scBadP.nd rfl (.inl rfl))) (fun _ _ _ _ _ => pts_nil) (fun _ _ _ _ _ => (pe_tup (pa_cons (by exact pe_ix ix_tup (pv 2) pe_int (fun _ _ => rfl)) (pa_cons (by exact pe_ix ix_tup (pv 2) pe_int (fun _ _ => rfl)) pa_nil))))) (by rfl)) (pw_or1 (pt_cmpR op_eq (pe_ix ix_tup (pv 0) pe_int (fun _ _ => rfl)) pe_str (nomark _))))) (pss_one (ps_ret pe_bl)) pss_nil)
      (pss_cons (ps_for PassesOwn.never rfl (pi_range1 (by rfl) L.rng (pa_cons (pe_callB call_len_str (by rfl) L.len PySem.boot_len (pa_cons (pe_ix ix_tup (pv 0) pe_int (fun _ _ => rfl)) pa_nil)) pa_nil)) (pg_name (i := 3) scBadP.nd rfl (.inl rfl)) (pss_one (ps_if (PW.pt (pw_or (pt_cmpR op_in_sign (pe_ix ix_str (pe_ix ix_tup (pv 0) pe_int (fun _ _ => rfl)) (pv 3) (fun _ _ => rfl)) (pe_slice C8.sl_txt (pe_ix ix_tup (pv 0) pe_int (fun _ _ => rfl)) po_none (po_some (pv 3))) (by rfl)) (pw_or1 (pt_cmpR op_notIn_sign (pe_ix ix_str (pe_ix ix_tup (pv 0) pe_int (fun _ _ => rfl)) (pv 3) (fun _ _ => rfl)) pe_str (by rfl))))) (pss_one (ps_ret pe_bl)) pss_nil)))
      (pss_one (ps_ret (pe_cmpR op_gt (pe_callB call_len_seq (by rfl) L.len PySem.boot_len (pa_cons (pv 1) pa_nil)) pe_int (nomark _)))))))), ?_⟩
    refine seqIfN (fun _ q => tAndW (fun _ q1 => ⟨_, rfl, t, _, 0, _, rfl, rfl, SqT.of ht, rfl, rfl, _, rfl, q1⟩) (fun _ q1 => ⟨_, rfl, t, _, 1, _, rfl, rfl, SqT.of ht, rfl, rfl, _, rfl, q1⟩) q) (fun e1 => ?_) (fun e1 => ?_)
    · have e : badP ((x, y), z) (es.map (·.2)) = true := by
        simp at e1
        unfold badP badAt placeB
        simp [e1]
      rw [e] at k
      exact k H (Same.refl H)
    refine seqIfN (fun _ q => tOrW (fun _ q1 => ⟨_, rfl, t, _, 0, _, rfl, rfl, SqT.of ht, rfl, 3, rfl, _, _, rfl, rfl, _, rfl, q1⟩) (fun _ q2 => tOrW (fun _ q1 => ⟨_, rfl, t, _, 0, _, rfl, rfl, SqT.of ht, rfl, _, _, rfl, rfl, _, rfl, q1⟩) (fun _ q3 => tOrW (fun _ q1 => ⟨_, rfl, t, _, 1, _, rfl, rfl, SqT.of ht, rfl, 3, rfl, _, _, rfl, rfl, _, rfl, q1⟩) (fun _ q1 => ⟨_, rfl, t, _, 1, _, rfl, rfl, SqT.of ht, rfl, _, _, rfl, rfl, _, rfl, q1⟩) q3) q2) q) (fun e2 => ?_) (fun e2 => ?_)
    · have e : badP ((x, y), z) (es.map (·.2)) = true := by
        have np : placeB (x, y) = false := by
          rw [Bool.eq_false_iff]
          intro w
          unfold placeB at w
          simp at e2 w
          omega
        unfold badP badAt
        rw [np]
        simp
      rw [e] at k
      exact k H (Same.refl H)
    have pl : placeB (x, y) = true := by
      unfold placeB
      simp at e1 e2 ⊢
      omega
    refine ⟨_, rfl, t, _, 0, _, rfl, rfl, SqT.of ht, rfl, _, rfl, t, _, 1, _, rfl, rfl, SqT.of ht, rfl, by show 2 ≤ sizeLine; decide, fun T nT => ?_⟩
    have s1 := same_upd (o := PairO (x, y)) nT
    have hT1 : upd H T (PairO (x, y)) T = some (PairO (x, y)) := upd_same
    have hp1 := hp.same s1
    change _
    refine ⟨_, rfl, p, rfl, ⟨_, SqL.of hp1.lst⟩, fun D nD => lc_list (K := K) (a := p) (xs := refC es) (fun i G => ∃ ns : List (Addr × (Int × Int)), Same (upd H T (PairO (x, y))) G ∧ G D = some (.lst (ns.map fun q => V.ref q.1)) ∧ (∀ q ∈ ns, G q.1 = some (PairO q.2)) ∧ ns.map (·.2) = (es.take i).map fun q => q.2.1) ⟨[], same_upd nD, upd_same, (fun p hp => nomatch hp), rfl⟩ (fun i G _ ⟨ms, sm, _⟩ => SqL.of (sm _ _ hp1.lst)) ?_ ?_⟩
    · rintro i x G hx ⟨ns, sm, hD, hns, en⟩
      obtain ⟨t1, c, hi, rfl⟩ := refC_at hx
      have htc := sm _ _ (hp1.each _ (List.mem_of_getElem? hi))
      refine ⟨rfl, tyes (iteT ⟨_, rfl, t1, _, 0, _, rfl, rfl, SqT.of htc, rfl, _, rfl, t1, _, 1, _, rfl, rfl, SqT.of htc, rfl, by show 2 ≤ sizeLine; decide, fun T nT => ?_⟩)⟩
      obtain ⟨a1, ns', a2, a3, a4, a5⟩ := pairMore few nD sm hD hns en hi (Same.refl G) nT
      exact ⟨_, same_upd nT _ _ hD, a1, ns', a2, a3, a4, a5⟩
    rintro G ⟨ns, sm, hD, hns, en⟩
    rw [show (refC es).length = es.length from List.length_map _, List.take_of_length_le (Nat.le_refl _)] at en
    have en2 : ns.map (·.2) = (es.map (·.2)).map (·.1) := by
      rw [en, List.map_map]
      rfl
    refine ⟨dP (x, y), _, .tup (SqT.of (sm _ _ hT1)) (.cons (.int _) (.cons (.int _) .nil)), .lst (SqL.of hD) (dpa_pairs hns), dP_shaped _, dPs_shaped _, _, rfl, ?_⟩
    rw [dPs_any, en2]
    have sG := s1.trans sm
    have htG := sG _ _ ht
    by_cases m : (x, y) ∈ (es.map (·.2)).map (·.1)
    · refine iteTe (decide_eq_true m) (iteT ?_)
      have e : badP ((x, y), z) (es.map (·.2)) = true := by
        unfold badP badAt
        rw [decide_eq_true m]
        simp
      rw [e] at k
      exact k G sG
    refine iteFe (decide_eq_false m) ?_
    refine ⟨_, rfl, t, _, 2, _, rfl, rfl, SqT.of htG, rfl, rfl, _, rfl, ?_⟩
    by_cases z0 : z = []
    · subst z0
      refine iteTe (decide_eq_true rfl) ?_
      have e : badP ((x, y), []) (es.map (·.2)) = true := by
        unfold badP badAt diffB
        simp
      rw [e] at k
      exact k G sG
    refine iteFe (decide_eq_false fun e => z0 (by
      have := V.str.inj e
      have e3 := congrArg unS this
      rw [unS_S] at e3
      exact e3)) ?_
    have zl : (S z).length ≤ sizeLine := by rw [len_S]; exact small_line fc
    have hm : decide ((x, y) ∈ (es.map (·.2)).map (·.1)) = false := decide_eq_false m
    refine ⟨_, rfl, t, _, 2, _, rfl, rfl, SqT.of htG, rfl, _, rfl, zl, _, rfl, by omega, by rw [len_S]; omega, for_range (lo := 0) (n := (S z).length) (fun i σ G => (∃ y2 y3, σ = [some (.ref t), some (.ref p), y2, y3]) ∧ Same H G ∧ ∀ j c, j < i → z[j]? = some c → c ∉ z.take j ∧ (c = 35 ∨ Let c)) ⟨⟨_, _, rfl⟩, sG, fun j c h => absurd h (Nat.not_lt_zero _)⟩ ?_ ?_⟩
    · rintro i σ G hi ⟨⟨y2, y3, rfl⟩, sG, inv⟩
      rw [len_S] at hi
      have htG := sG _ _ ht
      have gz : z[i]? = some z[i] := List.getElem?_eq_getElem hi
      generalize z[i] = d at gz
      have ga : atI (S z).cps.toList ((0 : Int) + (i : Int)) = some d := by
        rw [Int.zero_add]
        refine atI_nat ?_
        rw [show (S z).cps.toList = z from unS_S z]
        exact gz
      refine ⟨_, rfl, t, _, 2, _, rfl, rfl, SqT.of htG, rfl, _, rfl, S z, _, d, rfl, rfl, zl, ga, _, rfl, t, _, 2, _, rfl, rfl, SqT.of htG, rfl, _, rfl, _, rfl, S z, rfl, zl, d, _, rfl, rfl, _, rfl, ?_⟩
      have es2 : (Txt.slice (S z) none (some ((0 : Int) + (i : Int)))).cps.toList = z.take i := by
        rw [Int.zero_add, slice_to (by omega)]
        exact unS_S _
      rw [es2]
      by_cases m1 : d ∈ z.take i
      · refine iteTe (decide_eq_true m1) (iteT ?_)
        have e : badP ((x, y), z) (es.map (·.2)) = true := by
          unfold badP badAt diffB
          rw [decide_eq_false (fun nd : z.Nodup => take_nodup nd gz m1)]
          simp
        rw [e] at k
        exact k G sG
      refine iteFe (decide_eq_false m1) ?_
      refine ⟨_, rfl, t, _, 2, _, rfl, rfl, SqT.of htG, rfl, _, rfl, S z, _, d, rfl, rfl, zl, ga, d, _, rfl, rfl, _, rfl, ?_⟩
      by_cases m2 : d = 35 ∨ Let d
      · refine iteFe (by rw [decide_eq_true ((hash_mem d).mpr m2)]; rfl) ?_
        refine ⟨⟨_, _, rfl⟩, sG, fun j c hj hc => ?_⟩
        rcases Nat.lt_succ_iff_lt_or_eq.mp hj with h | h
        · exact inv j c h hc
        · subst h
          rw [gz] at hc
          cases hc
          exact ⟨m1, m2⟩
      · refine iteTe (by rw [decide_eq_false (fun q => m2 ((hash_mem d).mp q))]; rfl) ?_
        have e : badP ((x, y), z) (es.map (·.2)) = true := by
          unfold badP badAt diffB
          have : (z.all fun c => decide (c = 35) || decide (Let c)) = false := by
            rw [Bool.eq_false_iff]
            intro w
            have := List.all_eq_true.mp w d (List.mem_of_getElem? gz)
            simp at this
            exact m2 this
          show (_ || _ || _ || !(_ && (z.all fun c => decide (c = 35) || decide (Let c)))) = true
          rw [this]
          simp
        rw [e] at k
        exact k G sG
    · rintro σ G ⟨⟨y2, y3, rfl⟩, sG, inv⟩
      rw [len_S] at inv
      have nd : z.Nodup := nodup_at fun j c hj => (inv j c (List.getElem?_eq_some_iff.mp hj).1 hj).1
      have al : (z.all fun c => decide (c = 35) || decide (Let c)) = true := by
        rw [List.all_eq_true]
        intro c mc
        obtain ⟨j, hj⟩ := List.getElem?_of_mem mc
        have := (inv j c (List.getElem?_eq_some_iff.mp hj).1 hj).2
        simpa using this
      refine ⟨_, rfl, p, _, rfl, .inl (SqL.of (hp.same sG).lst), _, _, rfl, rfl, ?_⟩
      have e : badP ((x, y), z) (es.map (·.2)) = decide ((7 : Int) < ((refC es).length : Int)) := by
        unfold badP badAt diffB
        rw [hm, pl]
        show (decide (8 < (es.map (·.2)).length + 1) || !true || false || !((decide (z ≠ []) && decide z.Nodup) && (z.all fun c => decide (c = 35) || decide (Let c)))) = _
        rw [al, decide_eq_true nd, decide_eq_true z0, List.length_map, show (refC es).length = es.length from List.length_map _]
        rw [Bool.eq_iff_iff]
        simp
        omega
      rw [e] at k
      exact k G sG
end
def ansOf : Option Nat → Int
  | some p => (p : Int)
  | none => -1
def faultL (κ : Nat) (st : List Nat) (cs : List Cnd) (need : Int) : Option Nat := if κ = 2 then faultS cs need else faultC st cs need
theorem bad_seen {cs : List Cnd} {i : Nat} {c : Cnd} (h : i ≤ cs.length) : badP c (cs.take i) = badAt (i + 1) (seenOf cs i) c := by
  have l : (cs.take i).length = i := by
    rw [List.length_take]
    omega
  have e : decide (c.1 ∈ (cs.take i).map (·.1)) = decide (c.1 ∈ seenOf cs i) := by
    refine decide_eq_decide.mpr ?_
    unfold seenOf
    rw [List.mem_reverse]
  unfold badP badAt
  rw [l, e]
section
variable {P : Program} {w : World} {K : PySem.W.Frag} {mg : Str → Option Value} {base : Heap} {C CI CR CC CS : Addr}
def spFault : Sp := fun vs H Q _ => ∃ t pl κ st ks need, vs = [.ref t] ∧ RuleX H t pl κ st ks need ∧ ∀ H', Same H H' → Q (.int (ansOf (faultL κ st (ks.map (·.2)) need))) H'
theorem scFault : FnScope ["_law_rule_here", "_law_k"] ["_law_rule_here"] (defScope lFault) := ⟨rfl, rfl, rfl, by decide +kernel, rfl, by decide +kernel, by decide +kernel⟩
theorem ok_fault {f a1 a2 : Addr} {fd b1 b2 : FuncData} (F : Fun K "_law_fault" "_law_fault" lFault f fd) (L : LTxt K mg) (cLet : Cl P w K mg base CX0 1 "_law_is_letter" ["_law_text"] spStone a1 b1) (cBad : Cl P w K mg base CX0 1 "_law_bad_part" ["_law_part", "_law_earlier"] spBadP a2 b2) :
    FnOk P w K mg base CX0 2 f fd ["_law_rule_here"] spFault := by
  refine F.ok scFault (fun vs H Q E h => ?_) (fun cdv A outer s H vs Q E hr h => ?_)
  · obtain ⟨t, pl, κ, st, ks, need, rfl, _⟩ := h
    rfl
  · obtain ⟨t, pl, κ, st, ks, need, rfl, hT, k⟩ := h
    refine ⟨_, (pss_cons (ps_if (PW.pt (pw_and (pt_cmpR op_ne (pe_ix ix_tup (pv 0) pe_int (fun _ _ => rfl)) pe_str (nomark _)) (pw_and1 (pt_not (pt_val (pe_call cLet.ok hr (by rfl) cLet.gl cLet.kp cLet.bd .nil pass0 (pa_cons (pe_ix ix_tup (pv 0) pe_int (fun _ _ => rfl)) pa_nil))))))) (pss_one (ps_ret pe_int)) pss_nil)
      (pss_cons (ps_for PassesOwn.never rfl (pi_range1 (by rfl) L.rng (pa_cons (pe_callB call_len_seq (by rfl) L.len PySem.boot_len (pa_cons (pe_ix ix_tup (pv 0) pe_int (fun _ _ => rfl)) pa_nil)) pa_nil)) (pg_name (i := 1) scFault.nd rfl (.inl rfl)) (pss_one (ps_if (pt_val (pe_call cBad.ok hr (by rfl) cBad.gl cBad.kp cBad.bd .nil pass0 (pa_cons (pe_ix ix_list (pe_ix ix_tup (pv 0) pe_int (fun _ _ => rfl)) (pv 1) (fun _ _ => rfl)) (pa_cons (pe_slice sl_list (pe_ix ix_tup (pv 0) pe_int (fun _ _ => rfl)) po_none (po_some (pv 1))) pa_nil)))) (pss_one (ps_ret (pe_op op_add (pv 1) pe_int))) pss_nil)))
      (pss_cons (ps_if (PW.pt (pw_or (pt_cmpR op_lt (pe_ix ix_tup (pv 0) pe_int (fun _ _ => rfl)) pe_int (nomark _)) (pw_or1 (pt_cmpR op_gt (pe_ix ix_tup (pv 0) pe_int (fun _ _ => rfl)) (pe_callB call_len_seq (by rfl) L.len PySem.boot_len (pa_cons (pe_ix ix_tup (pv 0) pe_int (fun _ _ => rfl)) pa_nil)) (nomark _))))) (pss_one (ps_ret pe_int)) pss_nil)
      (pss_one (ps_ret (pe_un un_neg pe_int)))))), ?_⟩
    have k3 := hT.k3
    refine seqIfN (fun _ q => tAndW (fun _ q1 => ⟨_, rfl, t, _, 0, _, rfl, rfl, SqT.of hT.at_, rfl, rfl, _, rfl, q1⟩) (fun _ q1 => tNotW (fun _ q2 => ⟨_, rfl, t, _, 1, _, rfl, rfl, SqT.of hT.at_, rfl, st, rfl, hT.fst, _, rfl, q2⟩) q1) q) (fun e1 => ?_) (fun e1 => ?_)
    · rw [kind_same k3] at e1
      simp at e1
      have e : faultL κ st (ks.map (·.2)) need = some 0 := by
        unfold faultL faultC faultR
        rw [if_neg e1.1, if_neg (by simp [e1.2])]
      rw [e] at k
      exact k H (Same.refl H)
    rw [kind_same k3] at e1
    have lk : (refC ks).length = ks.length := List.length_map _
    have hf := hT.few
    have ef : ∀ n, fstBad 1 [] (ks.map (·.2)) = some n → faultL κ st (ks.map (·.2)) need = some n := by
      intro n hn
      unfold faultL
      by_cases k2 : κ = 2
      · rw [if_pos k2]
        unfold faultS
        rw [hn]
      · rw [if_neg k2]
        have : stoneB st = true := by simpa [k2] using e1
        unfold faultC faultR
        rw [if_pos this, hn]
    refine ⟨_, rfl, t, _, 2, _, rfl, rfl, SqT.of hT.at_, rfl, pl, _, rfl, .inl (SqL.of hT.cs.lst), _, rfl, by omega, by omega, for_range (lo := 0) (n := (refC ks).length) (fun i σ G => (∃ y, σ = [some (.ref t), y]) ∧ Same H G ∧ fstBad 1 [] (ks.map (·.2)) = fstBad (i + 1) (seenOf (ks.map (·.2)) i) ((ks.map (·.2)).drop i)) ⟨⟨_, rfl⟩, Same.refl H, rfl⟩ ?_ ?_⟩
    · rintro i σ G hi ⟨⟨y, rfl⟩, sG, inv⟩
      rw [lk] at hi
      have hTG := hT.same sG
      have gi : ks[i]? = some ks[i] := List.getElem?_eq_getElem hi
      have mi : ks[i] ∈ ks := List.getElem_mem hi
      generalize ks[i] = tc at gi mi
      obtain ⟨t1, c⟩ := tc
      have ga : atI (refC ks) ((0 : Int) + (i : Int)) = some (.ref t1) := by
        rw [Int.zero_add]
        refine atI_nat ?_
        unfold refC
        rw [List.getElem?_map, gi]
        rfl
      refine ⟨_, rfl, t, _, 2, _, rfl, rfl, SqT.of hTG.at_, rfl, _, rfl, pl, _, _, _, rfl, rfl, SqL.of hTG.cs.lst, ga, _, rfl, t, _, 2, _, rfl, rfl, SqT.of hTG.at_, rfl, _, rfl, _, rfl, pl, _, rfl, SqL.of hTG.cs.lst, fun q nq => ?_⟩
      rw [Int.zero_add, cut_to]
      have s2 := same_upd (o := .lst ((refC ks).take i)) nq
      have htk : (refC ks).take i = refC (ks.take i) := List.map_take.symm
      have fc : c.2.length ≤ 1000 := hT.each _ mi
      refine ⟨t1, q, c, ks.take i, rfl, s2 _ _ (hTG.cs.each _ mi), ⟨by rw [upd_same, htk], fun q' m => s2 _ _ (hTG.cs.each q' (List.mem_of_mem_take m))⟩, by rw [List.length_take]; omega, fc, fun G2 s3 => ⟨_, rfl, ?_⟩⟩
      have hcs : (ks.map (·.2))[i]? = some c := by
        rw [List.getElem?_map, gi]
        rfl
      have hdr : (ks.map (·.2)).drop i = c :: (ks.map (·.2)).drop (i + 1) := by
        obtain ⟨hl, e⟩ := List.getElem?_eq_some_iff.mp hcs
        rw [List.drop_eq_getElem_cons hl, e]
      rw [List.map_take, bad_seen (by rw [List.length_map]; omega)]
      rw [hdr, fst_step] at inv
      have s4 := (sG.trans s2).trans s3
      cases hb : badAt (i + 1) (seenOf (ks.map (·.2)) i) c
      · refine iteF ⟨⟨_, rfl⟩, s4, ?_⟩
        rw [inv, hb, seen_succ hcs]
        rfl
      · rw [hb, if_pos rfl] at inv
        refine iteT ⟨_, rfl, _, _, rfl, rfl, ?_⟩
        have e := ef _ inv
        rw [e] at k
        exact k G2 s4
    · rintro σ G ⟨⟨y, rfl⟩, sG, inv⟩
      have hTG := hT.same sG
      rw [lk, List.drop_of_length_le (by rw [List.length_map]; omega)] at inv
      have inv0 : fstBad 1 [] (ks.map (·.2)) = none := inv
      have ef2 : faultL κ st (ks.map (·.2)) need = if 0 ≤ need ∧ need ≤ ((ks.map (·.2)).length : Int) then none else some 0 := by
        unfold faultL
        by_cases k2 : κ = 2
        · rw [if_pos k2]
          unfold faultS
          rw [inv0]
        · rw [if_neg k2]
          have : stoneB st = true := by simpa [k2] using e1
          unfold faultC faultR
          rw [if_pos this, inv0]
      rw [List.length_map] at ef2
      dsimp only
      refine seqIfN (fun _ q => tOrW (fun _ q1 => ⟨_, rfl, t, _, 3, _, rfl, rfl, SqT.of hTG.at_, rfl, _, _, rfl, rfl, _, rfl, q1⟩) (fun _ q1 => ⟨_, rfl, t, _, 3, _, rfl, rfl, SqT.of hTG.at_, rfl, _, rfl, t, _, 2, _, rfl, rfl, SqT.of hTG.at_, rfl, pl, _, rfl, .inl (SqL.of hTG.cs.lst), _, _, rfl, rfl, _, rfl, q1⟩) q) (fun e2 => ?_) (fun e2 => ?_)
      · rw [lk] at e2
        simp at e2
        rw [if_neg (by omega)] at ef2
        rw [ef2] at k
        exact k G sG
      · rw [lk] at e2
        simp at e2
        rw [if_pos (by omega)] at ef2
        rw [ef2] at k
        exact ⟨1, rfl, k G sG⟩
end
end Pm
/-! ### _law_number, _law_word_part -/
namespace Tr
open PySem PySem.Spec PyProof.Rows L2 SX
section
variable {X : Cx} {B : Hp × Hp} {Γ : Env} {a b e : Expr} {es : List Expr} {pos : Pos} {i : Int}
/-- an int is not None -/
theorem o_isNI (ha : Ok X B a Γ (.int i)) (hb : Ok X B b Γ .non) : OkT X B (.Compare a [.Is] [b] pos) Γ false := o_op (fun p q => pt_cmpR op_isN p q (nomark _)) ha hb (r2_val fun F H fh v w rv rw Q q => by
  cases rv; cases rw
  exact ⟨rfl, q _ fun _ => .bl _⟩)
theorem o_isNN (ha : Ok X B a Γ .non) (hb : Ok X B b Γ .non) : OkT X B (.Compare a [.Is] [b] pos) Γ true := o_op (fun p q => pt_cmpR op_isN p q (nomark _)) ha hb (r2_val fun F H fh v w rv rw Q q => by
  cases rv; cases rw
  exact ⟨rfl, q _ fun _ => .bl _⟩)
def rIntS : List V → Hp → VK → Prop := fun xs H Q => ∃ a n, xs = [.str a] ∧ PySem.intText? a = some n ∧ a.length ≤ 640 ∧ Q (.int n) H
theorem rc_intS {K : PySem.W.Frag} {u : List Nat} {n : Int} (e : PySem.intText? (S u) = some n) (l : (S u).length ≤ 640) : RCT K rIntS [.tx u] (.int n) := fun F H fh vs r Q q => by
  cases r with
  | cons r1 r =>
    cases r
    cases r1
    exact ⟨S u, n, rfl, e, l, q _ F H (Gr.refl _ _) fh (.int _)⟩
theorem rm_split1 {K : PySem.W.Frag} {u v : List Nat} {ws : List (List Nat)} (e : Txt.splitMax (S u) (S v) 1 = ws.map S) (n : v ≠ []) (l : u.length ≤ 100000) :
    RMT K (fun x xs H Q => ∃ (a b : Str) (k : Int), x = .str a ∧ xs = [.str b, .int k] ∧ (b.length == 0) = false ∧ -(2 ^ 63) ≤ k ∧ k < 2 ^ 63 ∧ a.length + 2 ≤ sizeLine ∧ rNewStrs (Txt.splitMax a b k) H Q) (.tx u) [.tx v, .int 1] (.lst (ws.map D.tx)) := fun F H fh x vs rx r Q q => by
  cases rx
  cases r with
  | cons r1 r =>
  cases r with
  | cons r2 r =>
    cases r
    cases r1
    cases r2
    refine ⟨S u, S v, 1, rfl, rfl, ?_, by decide, by decide, ?_, fun p np => ?_⟩
    · rw [lenS]
      cases v with
      | nil => exact absurd rfl n
      | cons => rfl
    · rw [lenS]
      exact Nat.le_trans (Nat.add_le_add_right l 2) (by decide)
    · rw [e]
      have g := Gr.new (o := .lst ((ws.map S).map V.str)) fh np
      refine q _ _ _ g (same_both fh) (.lst upd_same ?_)
      have go : ∀ {G : Hp} (zs : List (List Nat)), Reps K G ((zs.map S).map V.str) (zs.map D.tx) := fun {G} zs => by
        induction zs with
        | nil => exact .nil
        | cons z zs ih => exact .cons (.str _) ih
      exact go ws
end
end Tr
namespace Pm
open PySem PySem.Spec PyProof.Rows L2 SX NdefX Tr
theorem cut_toS (u : List Nat) (k : Nat) : D.str (cutS (S u) none (some (k : Int))) = .tx (u.take k) := by
  rw [C8.cutS_slice, slice_to (by omega), Int.toNat_natCast]
theorem cut_fromS (u : List Nat) (k : Nat) : D.str (cutS (S u) (some (k : Int)) none) = .tx (u.drop k) := by
  rw [C8.cutS_slice, slice_from (by omega), Int.toNat_natCast]
theorem noMin_is (z : List Nat) : noMin z = if decide (z.take 1 = [45]) = true then z.drop 1 else z := by
  match z with
  | [] => rfl
  | c :: r =>
    show noMin (c :: r) = if decide ([c] = [45]) = true then r else c :: r
    by_cases h : c = 45
    · subst h
      rfl
    · rw [decide_eq_false (fun y => h (List.cons.inj y).1)]
      unfold noMin
      split
      · rename_i y
        exact absurd (List.cons.inj y).1 h
      · rfl
def digL : List Nat := [48, 49, 50, 51, 52, 53, 54, 55, 56, 57]
theorem digL_mem (c : Nat) : c ∈ digL ↔ Dig c := by
  unfold digL Dig
  simp only [List.mem_cons, List.not_mem_nil, or_false]
  omega
/-- what a word names as a number -/
def numD (z : List Nat) : D := if numB z = true then .int (numV z) else .non
theorem numB_int {z : List Nat} (h : numB z = true) : intText? (S z) = some (numV z) ∧ (S z).length ≤ 640 := by
  obtain ⟨a, b⟩ := int_num h
  exact ⟨a, by rw [len_S]; omega⟩
section
variable {P : Program} {w : World} {K : PySem.W.Frag} {mg : Str → Option Value} {base : Heap}
def gNumber (ds : List D) (d : D) : Prop := ∃ z, z.length ≤ 1000 ∧ ds = [.tx z] ∧ d = numD z
theorem scNumberL : FnScope ["_law_word", "_law_digits"] ["_law_word"] (defScope lNumber) := ⟨rfl, rfl, rfl, by decide +kernel, rfl, by decide +kernel, by decide +kernel⟩
theorem ok_numberL {f : Addr} {fd : FuncData} (F : Fun K "_law_number" "_law_number" lNumber f fd) (L : LTxt K mg) : FnOk P w K mg base CX0 1 f fd ["_law_word"] (spG K gNumber) := by
  refine F.ok scNumberL (spG_len fun ds d ⟨_, _, e, _⟩ => by rw [e]; rfl) (fun cdv A outer s H vs Q E hr h => ?_)
  obtain ⟨ds, d, ⟨z, lz, rfl, rfl⟩, h⟩ := h
  obtain ⟨B, tw⟩ := tree_wish (N := ["_law_word", "_law_digits"]) h (by show 1 ≤ 2; decide)
  have ln : (noMin z).length ≤ 1000 := Nat.le_trans (noMin_len z) lz
  have e1 : numD z = bif (!decide (((noMin z).length : Int) = 1)) || ((!digB (noMin z)) || decide (z = [45, 48])) then .non else .int (numV z) := by
    unfold numD numB
    by_cases x : z = [45, 48]
    · rw [decide_eq_true x, Bool.or_true, Bool.or_true]
      rfl
    · rw [decide_eq_false x, Bool.or_false]
      cases y : digB (noMin z) with
      | false => rw [show (!decide (((noMin z).length : Int) = 1) || !false) = true from by simp]; rfl
      | true =>
        obtain ⟨c, ec, _⟩ := digB_is y
        rw [ec]
        rfl
  rw [e1] at tw
  refine ⟨_, (show OkSs _ B _ [.d (.tx z), .no] (.rt _) from ?_), tw⟩
  refine s_cons (s_set (i := 1) (fun h => ps_set (i := 1) scNumberL.nd rfl (.inl rfl) h) (ok_var (pv 0) rfl)) (s_cons (s_ifJoin (p := decide (z.take 1 = [45])) (G := fun b => [.d (.tx z), .d (.tx (if b = true then z.drop 1 else z))]) (o_op (fun p q => pt_cmpR op_eq p q (nomark _)) (ok_as (t_slS (ok_var (pv 0) rfl) so_none (so_some ok_int) (by omega)) (cut_toS z 1)) (ok_tx (z := [45]) (by decide +kernel)) r2_eqS)
      (fun hb => by rw [if_pos rfl]; exact s_one (s_set (i := 1) (fun h => ps_set (i := 1) scNumberL.nd rfl (.inl rfl) h) (ok_as (t_slS (ok_var (pv 0) rfl) (so_some ok_int) so_none (by omega)) (cut_fromS z 1))))
      (fun hb => by rw [if_neg (by decide)]; exact s_nil)) ?_)
  rw [← noMin_is]
  exact s_ifRet2 (p := (!decide (((noMin z).length : Int) = 1)) || ((!digB (noMin z)) || decide (z = [45, 48]))) (o_w (w_or (o_op (fun p q => pt_cmpR op_ne p q (nomark _)) (t_cb (fun h => pe_callB call_len_str (by rfl) L.len PySem.boot_len h) (a_cons (ok_var (pv 1) rfl) a_nil) (rc_lenS (by omega))) ok_int r2_neI)
      (fun hb => w_or (by
        obtain ⟨c, ec⟩ : ∃ c, noMin z = [c] := len_one (by
          have := of_decide_eq_true (show decide (((noMin z).length : Int) = 1) = true from by simpa using hb)
          omega)
        have e2 : (!digB (noMin z)) = !decide (c ∈ digL) := by
          rw [ec]
          show (!decide (Dig c)) = _
          rw [show decide (Dig c) = decide (c ∈ digL) from decide_eq_decide.mpr (digL_mem c).symm]
        rw [e2]
        exact o_op (fun p q => pt_cmpR op_notIn_sign p q (by rfl)) (ok_as (ok_var (pv 1) rfl) (by rw [ec])) (ok_tx (z := digL) (by decide +kernel)) r2_notInS) (fun _ => w_or1 (o_op (fun p q => pt_cmpR op_eq p q (nomark _)) (ok_var (pv 0) rfl) (ok_tx (z := [45, 48]) (by decide +kernel)) r2_eqS)))))
    (fun _ => s_one (s_ret ok_non))
    (fun hb => by
      have n : numB z = true := by
        cases y : numB z with
        | true => rfl
        | false =>
          have e := e1
          rw [hb] at e
          unfold numD at e
          rw [y, if_neg (by decide)] at e
          cases e
      exact s_one (s_ret (t_cb (fun h => pe_callTy call_int_str (by rfl) L.int (by decide +kernel) h) (a_cons (ok_var (pv 0) rfl) a_nil) (rc_intS (numB_int n).1 (numB_int n).2))))
end
end Pm
/-! ### _law_word_part -/
namespace Pm
open PySem PySem.Spec PyProof.Rows L2 SX NdefX Tr
/-- the pieces of word.split(":", 1) -/
def piecesL (z : List Nat) : List (List Nat) := if 58 ∈ z then [cutA 58 z, cutB 58 z] else [z]
theorem kind_low (x : Str) : decide (Builtin.Str.strKind x < Builtin.Str.strKind (S [58])) = false := by
  have e : Builtin.Str.strKind (S [58]) = 1 := by decide +kernel
  rw [e]
  refine decide_eq_false ?_
  unfold Builtin.Str.strKind
  split
  · omega
  · split <;> omega
theorem splitMax1 (z : List Nat) : Txt.splitMax (S z) (S [58]) 1 = (piecesL z).map S := by
  unfold Txt.splitMax
  have lim : limitOf (S z) 1 = 1 := rfl
  rw [lim, kind_low, Bool.or_false]
  have ol : (Builtin.Str.occurrences (S z) (S [58]) 0 (S z).length 1).length ≤ 1 := StrLaws.occ_length_le (S z) (S [58]) 0 (S z).length 1
  unfold piecesL
  by_cases h : 58 ∈ z
  · rw [if_pos h]
    have hl : ¬ ((S z).length < (S [58]).length) := by
      rw [len_S, len_S]
      have := List.length_pos_of_mem h
      show ¬ z.length < 1
      omega
    rw [decide_eq_false hl, if_neg (by decide)]
    obtain ⟨p, q, rfl, n⟩ := split_mem h
    obtain ⟨c1, c2⟩ := cut_app q n
    rw [c1, c2]
    have e := partition_some (b := [58]) (by simp) (par_head (sep := []) q n)
    have e : Txt.partition (S (p ++ (58 :: q))) (S [58]) = (S p, S [58], S q) := e
    unfold Txt.partition at e
    cases o : Builtin.Str.occurrences (S (p ++ (58 :: q))) (S [58]) 0 (S (p ++ (58 :: q))).length 1 with
    | nil =>
      rw [o] at e
      have := (Prod.mk.inj (Prod.mk.inj e).2).1
      rw [empty_S] at this
      exact absurd (S_inj this) (by simp)
    | cons i r =>
      rw [o] at e ol
      have r0 : r = [] := by simpa using ol
      subst r0
      obtain ⟨e1, e2⟩ := Prod.mk.inj e
      have e3 := (Prod.mk.inj e2).2
      rw [if_neg (by simp)]
      show [Builtin.Str.strSub _ 0 i, Builtin.Str.strSub _ (i + (S [58]).length) _] = _
      rw [e1, e3]
      rfl
  · rw [if_neg h]
    split
    · rfl
    · have e := partition_none (b := [58]) (by simp) (par_head_none (sep := []) h)
      unfold Txt.partition at e
      cases o : Builtin.Str.occurrences (S z) (S [58]) 0 (S z).length 1 with
      | nil => rfl
      | cons i r =>
        rw [o] at e
        have := (Prod.mk.inj (Prod.mk.inj e).2).1
        exact absurd (S_inj this) (by simp)
/-! word.split(",") -/
theorem spl_no {c : Nat} : ∀ {z acc : List Nat}, c ∉ z → TL.spl [c] 0 acc z = [acc ++ z]
  | [], acc, _ => by rw [TL.spl_nil, List.append_nil]
  | d :: r, acc, h => by
    have hd : ¬ TL.pre [c] (d :: r) = true := fun y => h (by
      have : d = c := by simpa [TL.pre] using y
      rw [this]
      exact List.mem_cons_self)
    have e : TL.spl [c] 0 acc (d :: r) = TL.spl [c] 0 (acc ++ [d]) r := by
      show (if TL.pre [c] (d :: r) = true then _ else _) = _
      rw [if_neg hd]
    rw [e, spl_no fun m => h (List.mem_cons_of_mem _ m), List.append_assoc]
    rfl
theorem spl_yes {c : Nat} : ∀ {p acc : List Nat} (q : List Nat), c ∉ p → TL.spl [c] 0 acc (p ++ (c :: q)) = (acc ++ p) :: TL.spl [c] 0 [] q
  | [], acc, q, _ => by
    have hd : TL.pre [c] (c :: q) = true := by simp [TL.pre]
    show TL.spl [c] 0 acc (c :: q) = _
    rw [TL.spl_hit hd, List.append_nil]
    rfl
  | d :: r, acc, q, h => by
    have hd : ¬ TL.pre [c] (d :: (r ++ (c :: q))) = true := fun y => h (by
      have : d = c := by simpa [TL.pre] using y
      rw [this]
      exact List.mem_cons_self)
    have e : TL.spl [c] 0 acc (d :: (r ++ (c :: q))) = TL.spl [c] 0 (acc ++ [d]) (r ++ (c :: q)) := by
      show (if TL.pre [c] (d :: (r ++ (c :: q))) = true then _ else _) = _
      rw [if_neg hd]
    show TL.spl [c] 0 acc (d :: (r ++ (c :: q))) = _
    rw [e, spl_yes q fun m => h (List.mem_cons_of_mem _ m), List.append_assoc]
    rfl
theorem spl_pos {c : Nat} : ∀ (z acc : List Nat), 1 ≤ (TL.spl [c] 0 acc z).length
  | z, acc => by
    by_cases h : c ∈ z
    · obtain ⟨p, q, rfl, n⟩ := split_mem h
      rw [spl_yes q n]
      exact Nat.succ_le_succ (Nat.zero_le _)
    · rw [spl_no h]
      exact Nat.le_refl _
/-- digits and a minus sign only -/
theorem numB_sign {z : List Nat} (h : numB z = true) : ∀ c ∈ z, c = 45 ∨ (48 ≤ c ∧ c ≤ 57) := by
  intro c m
  rcases numB_is h with ⟨d, hd, rfl⟩ | ⟨d, _, hd, rfl⟩
  · rw [List.mem_singleton.mp m]
    omega
  · rcases List.mem_cons.mp m with e | m
    · exact .inl e
    · rw [List.mem_singleton.mp m]
      omega
theorem numB_nil : numB [] = false := by decide
/-- two pieces, or readP fails -/
theorem two_or (z : List Nat) : (∃ a b, TL.spl [44] 0 [] z = [a, b] ∧ readP z = if numB a = true ∧ numB b = true then some (numV a, numV b) else none) ∨ ((TL.spl [44] 0 [] z).length ≠ 2 ∧ readP z = none) := by
  by_cases h : 44 ∈ z
  · obtain ⟨p, q, rfl, n⟩ := split_mem h
    obtain ⟨c1, c2⟩ := cut_app q n
    by_cases h2 : 44 ∈ q
    · right
      obtain ⟨p2, q2, rfl, n2⟩ := split_mem h2
      rw [spl_yes _ n, spl_yes _ n2]
      refine ⟨fun y => ?_, ?_⟩
      · have := spl_pos (c := 44) q2 []
        rw [List.length_cons, List.length_cons] at y
        omega
      · have no : ¬ (numB (cutA 44 (p ++ (44 :: (p2 ++ (44 :: q2))))) = true ∧ numB (cutB 44 (p ++ (44 :: (p2 ++ (44 :: q2))))) = true) := fun y => by
          have := numB_sign y.2 44 (by rw [c2]; exact List.mem_append_right _ List.mem_cons_self)
          omega
        unfold readP
        rw [if_neg no]
    · left
      refine ⟨p, q, ?_, ?_⟩
      · rw [spl_yes _ n, spl_no h2]
        rfl
      · unfold readP
        rw [c1, c2]
  · right
    rw [spl_no h]
    refine ⟨by simp, ?_⟩
    obtain ⟨c1, c2⟩ := cut_no h
    unfold readP
    rw [c2, numB_nil, if_neg fun y => by cases y.2]
/-- a place has no colon -/
theorem readP_colon {z : List Nat} (h : 58 ∈ z) : readP z = none := by
  have key : 58 ∈ cutA 44 z ∨ 58 ∈ cutB 44 z := by
    by_cases m : 44 ∈ z
    · obtain ⟨p, q, rfl, n⟩ := split_mem m
      obtain ⟨c1, c2⟩ := cut_app q n
      rw [c1, c2]
      rcases List.mem_append.mp h with y | y
      · exact .inl y
      · rcases List.mem_cons.mp y with y | y
        · omega
        · exact .inr y
    · rw [(cut_no m).1]
      exact .inl h
  have no : ¬ (numB (cutA 44 z) = true ∧ numB (cutB 44 z) = true) := fun ⟨a, b⟩ => by
    rcases key with y | y
    · have := numB_sign a 58 y
      omega
    · have := numB_sign b 58 y
      omega
  unfold readP
  rw [if_neg no]
/-- what a word of a rule names -/
def wordPart (same : Bool) (z : List Nat) : Option Cnd := if same = true then (readP z).map fun p => (p, [97]) else readC z
def wordD (same : Bool) (z : List Nat) : D := match wordPart same z with
  | none => .non
  | some c => tripD c
theorem spl44_len : ∀ (z acc : List Nat), ∀ w ∈ TL.spl [44] 0 acc z, w.length ≤ acc.length + z.length
  | [], acc, w, m => by
    rw [TL.spl_nil] at m
    rw [List.mem_singleton.mp m]
    simp
  | c :: r, acc, w, m => by
    by_cases h : TL.pre [44] (c :: r) = true
    · rw [TL.spl_hit h] at m
      rcases List.mem_cons.mp m with rfl | m
      · simp
      · have := spl44_len r [] w m
        rw [List.length_cons]
        simp at this
        omega
    · have e : TL.spl [44] 0 acc (c :: r) = TL.spl [44] 0 (acc ++ [c]) r := by
        show (if TL.pre [44] (c :: r) = true then _ else _) = _
        rw [if_neg h]
      rw [e] at m
      have := spl44_len r (acc ++ [c]) w m
      rw [List.length_append, List.length_singleton] at this
      rw [List.length_cons]
      omega
theorem pieces_head (z : List Nat) : ∃ t, piecesL z = cutA 58 z :: t ∧ ((58 ∈ z ∧ t = [cutB 58 z]) ∨ (58 ∉ z ∧ t = [] ∧ cutA 58 z = z ∧ cutB 58 z = [])) := by
  unfold piecesL
  by_cases h : 58 ∈ z
  · rw [if_pos h]
    exact ⟨_, rfl, .inl ⟨h, rfl⟩⟩
  · rw [if_neg h]
    obtain ⟨c1, c2⟩ := cut_no h
    exact ⟨[], by rw [c1], .inr ⟨h, rfl, c1, c2⟩⟩
theorem wordD_non {sm : Bool} {z : List Nat} (h : readP (cutA 58 z) = none) : wordD sm z = .non := by
  have e : wordPart sm z = none := by
    unfold wordPart
    cases sm with
    | true =>
      rw [if_pos rfl]
      by_cases m : 58 ∈ z
      · rw [readP_colon m]
        rfl
      · rw [(cut_no m).1] at h
        rw [h]
        rfl
    | false =>
      rw [if_neg (by decide)]
      unfold readC
      split
      · rfl
      · rw [h]
        rfl
  unfold wordD
  rw [e]
theorem num_yes {z : List Nat} (h : numB z = true) : numD z = .int (numV z) := by
  unfold numD
  rw [if_pos h]
theorem num_no {z : List Nat} (h : numB z = false) : numD z = .non := by
  unfold numD
  rw [if_neg (by rw [h]; decide)]
section
variable {P : Program} {w : World} {K : PySem.W.Frag} {mg : Str → Option Value} {base : Heap}
def gWordPart (ds : List D) (d : D) : Prop := ∃ (z : List Nat) (sm : Bool), z.length ≤ 1000 ∧ ds = [.tx z, .bl sm] ∧ d = wordD sm z
abbrev nWordPart : List Str := ["_law_word", "_law_same", "_law_pieces", "_law_numbers"]
theorem scWordPart : FnScope nWordPart ["_law_word", "_law_same"] (defScope lWordPart) := ⟨rfl, rfl, rfl, by decide +kernel, rfl, by decide +kernel, by decide +kernel⟩
theorem ok_wordpart {f g : Addr} {fd gd : FuncData} (F : Fun K "_law_word_part" "_law_word_part" lWordPart f fd) (L : LTxt K mg) (N : Cl P w K mg base CX0 1 "_law_number" ["_law_word"] (spG K gNumber) g gd) : FnOk P w K mg base CX0 2 f fd ["_law_word", "_law_same"] (spG K gWordPart) := by
  refine F.ok scWordPart (spG_len fun ds d ⟨_, _, _, e, _⟩ => by rw [e]; rfl) (fun cdv A outer s H vs Q E hr h => ?_)
  obtain ⟨ds, d, ⟨z, sm, lz, rfl, rfl⟩, h⟩ := h
  obtain ⟨B, tw⟩ := tree_wish (N := nWordPart) h (by show 2 ≤ 4; decide)
  have lA : (cutA 58 z).length ≤ 1000 := Nat.le_trans (cutA_len 58 z) lz
  obtain ⟨t, eP, hP⟩ := pieces_head z
  have at0 : atI ((piecesL z).map D.tx) 0 = some (.tx (cutA 58 z)) := by
    rw [eP]
    exact atI_nat (j := 0) rfl
  refine ⟨_, (show OkSs _ B _ [.d (.tx z), .d (.bl sm), .no, .no] (.rt (wordD sm z)) from ?_), tw⟩
  refine s_cons (s_set (i := 2) (fun h => ps_set (i := 2) scWordPart.nd rfl (.inl rfl) h) (t_bm (fun h g => pe_bm PySem.F.plainAttrs_str PySem.F.slot_str_split PySem.F.type_str_split mt_splitMax h g) (ok_var (pv 0) rfl) (a_cons (ok_tx (z := [58]) (by decide +kernel)) (a_cons ok_int a_nil)) ty_str (rm_split1 (splitMax1 z) (by decide) (by omega))))
    (s_cons (s_set (i := 3) (fun h => ps_set (i := 3) scWordPart.nd rfl (.inl rfl) h) (t_bm (fun h g => pe_bm PySem.F.plainAttrs_str PySem.F.slot_str_split PySem.F.type_str_split mt_split h g) (t_ixL (ok_var (pv 2) rfl) ok_int at0 (fun _ _ => rfl)) (a_cons (ok_tx (z := [44]) (by decide +kernel)) a_nil) ty_str (rm_split (split_S (by decide) (by decide)) (by decide) (by omega)))) ?_)
  show OkSs _ B _ [.d (.tx z), .d (.bl sm), .d (.lst ((piecesL z).map D.tx)), .d (.lst ((TL.spl [44] 0 [] (cutA 58 z)).map D.tx))] (.rt (wordD sm z))
  rcases two_or (cutA 58 z) with ⟨a, b, eN, eR⟩ | ⟨nl, eR⟩
  · have mem : ∀ c ∈ TL.spl [44] 0 [] (cutA 58 z), c.length ≤ 1000 := fun c m => by
      have := spl44_len _ _ c m
      simp at this
      omega
    rw [eN] at mem
    have la : a.length ≤ 1000 := mem a List.mem_cons_self
    have lb : b.length ≤ 1000 := mem b (List.mem_cons_of_mem _ List.mem_cons_self)
    rw [eN]
    by_cases na : numB a = true
    · by_cases nb : numB b = true
      · rw [if_pos ⟨na, nb⟩] at eR
        refine s_ifNo (o_as (o_w (w_or (o_op (fun p q => pt_cmpR op_ne p q (nomark _)) (t_cb (fun h => pe_callB call_len_seq (by rfl) L.len PySem.boot_len h) (a_cons (ok_var (pv 3) rfl) a_nil) rc_len) ok_int r2_neI) (fun _ => w_or (o_isNI (ok_as (t_callG (fun h => pe_call N.ok hr (by rfl) N.gl N.kp N.bd .nil pass0 h) (a_cons (t_ixL (ok_var (pv 3) rfl) ok_int (atI_nat (j := 0) rfl) (fun _ _ => rfl)) a_nil) ⟨a, la, rfl, rfl⟩) (num_yes na)) ok_non) (fun _ => w_or1 (o_isNI (ok_as (t_callG (fun h => pe_call N.ok hr (by rfl) N.gl N.kp N.bd .nil pass0 h) (a_cons (t_ixL (ok_var (pv 3) rfl) ok_int (atI_nat (j := 1) rfl) (fun _ _ => rfl)) a_nil) ⟨b, lb, rfl, rfl⟩) (num_yes nb)) ok_non))))) rfl) ?_
        rcases hP with ⟨hc, rfl⟩ | ⟨hc, rfl, eA, eB⟩
        · rw [eP]
          have eW : wordD sm z = if sm = true then .non else if cutB 58 z = [] then .non else .tup [.int (numV a), .int (numV b), .tx (cutB 58 z)] := by
            unfold wordD wordPart
            cases sm with
            | true =>
              rw [if_pos rfl, if_pos rfl, readP_colon hc]
              rfl
            | false =>
              rw [if_neg (by decide), if_neg (by decide)]
              unfold readC
              by_cases e : cutB 58 z = []
              · rw [if_pos e, if_pos e]
              · rw [if_neg e, if_neg e, eR]
                rfl
          rw [eW]
          cases sm with
          | true => exact s_ifNo (o_as (o_w (w_and (o_val (ok_var (pv 1) rfl)) (fun hb => w_and1 (o_op (fun p q => pt_cmpR op_eq p q (nomark _)) (t_cb (fun h => pe_callB call_len_seq (by rfl) L.len PySem.boot_len h) (a_cons (ok_var (pv 2) rfl) a_nil) rc_len) ok_int r2_eqI)))) rfl) (s_ifYes (o_as (o_w (w_or (q := true) (o_val (ok_var (pv 1) rfl)) (fun hb => by cases hb))) rfl) (s_one (s_ret ok_non)))
          | false =>
            rw [if_neg (by decide)]
            refine s_ifNo (o_as (o_w (w_and (o_val (ok_var (pv 1) rfl)) (fun hb => w_and1 (o_op (fun p q => pt_cmpR op_eq p q (nomark _)) (t_cb (fun h => pe_callB call_len_seq (by rfl) L.len PySem.boot_len h) (a_cons (ok_var (pv 2) rfl) a_nil) rc_len) ok_int r2_eqI)))) rfl) ?_
            by_cases e : cutB 58 z = []
            · rw [if_pos e]
              exact s_ifYes (o_as (o_w (w_or (o_val (ok_var (pv 1) rfl)) (fun _ => w_or (o_op (fun p q => pt_cmpR op_eq p q (nomark _)) (t_cb (fun h => pe_callB call_len_seq (by rfl) L.len PySem.boot_len h) (a_cons (ok_var (pv 2) rfl) a_nil) rc_len) ok_int r2_eqI) (fun _ => w_or1 (o_op (fun p q => pt_cmpR op_eq p q (nomark _)) (t_ixL (ok_var (pv 2) rfl) ok_int (atI_nat (j := 1) rfl) (fun _ _ => rfl)) (ok_tx (z := []) (by decide +kernel)) r2_eqS))))) (by rw [decide_eq_true e]; rfl)) (s_one (s_ret ok_non))
            · rw [if_neg e]
              exact s_ifNo (o_as (o_w (w_or (o_val (ok_var (pv 1) rfl)) (fun _ => w_or (o_op (fun p q => pt_cmpR op_eq p q (nomark _)) (t_cb (fun h => pe_callB call_len_seq (by rfl) L.len PySem.boot_len h) (a_cons (ok_var (pv 2) rfl) a_nil) rc_len) ok_int r2_eqI) (fun _ => w_or1 (o_op (fun p q => pt_cmpR op_eq p q (nomark _)) (t_ixL (ok_var (pv 2) rfl) ok_int (atI_nat (j := 1) rfl) (fun _ _ => rfl)) (ok_tx (z := []) (by decide +kernel)) r2_eqS))))) (by rw [decide_eq_false e]; rfl)) (s_one (s_ret (t_tup (a_cons (ok_as (t_callG (fun h => pe_call N.ok hr (by rfl) N.gl N.kp N.bd .nil pass0 h) (a_cons (t_ixL (ok_var (pv 3) rfl) ok_int (atI_nat (j := 0) rfl) (fun _ _ => rfl)) a_nil) ⟨a, la, rfl, rfl⟩) (num_yes na)) (a_cons (ok_as (t_callG (fun h => pe_call N.ok hr (by rfl) N.gl N.kp N.bd .nil pass0 h) (a_cons (t_ixL (ok_var (pv 3) rfl) ok_int (atI_nat (j := 1) rfl) (fun _ _ => rfl)) a_nil) ⟨b, lb, rfl, rfl⟩) (num_yes nb)) (a_cons (t_ixL (ok_var (pv 2) rfl) ok_int (atI_nat (j := 1) rfl) (fun _ _ => rfl)) a_nil))) (by show 3 ≤ 100000; decide))))
        · rw [eP]
          have eW : wordD sm z = if sm = true then .tup [.int (numV a), .int (numV b), .tx [97]] else .non := by
            unfold wordD wordPart
            cases sm with
            | true =>
              rw [if_pos rfl, if_pos rfl]
              rw [eA] at eR
              rw [eR]
              rfl
            | false =>
              rw [if_neg (by decide), if_neg (by decide)]
              unfold readC
              rw [if_pos eB]
          rw [eW]
          cases sm with
          | true => exact s_ifYes (o_as (o_w (w_and (o_val (ok_var (pv 1) rfl)) (fun hb => w_and1 (o_op (fun p q => pt_cmpR op_eq p q (nomark _)) (t_cb (fun h => pe_callB call_len_seq (by rfl) L.len PySem.boot_len h) (a_cons (ok_var (pv 2) rfl) a_nil) rc_len) ok_int r2_eqI)))) rfl) (s_one (s_ret (t_tup (a_cons (ok_as (t_callG (fun h => pe_call N.ok hr (by rfl) N.gl N.kp N.bd .nil pass0 h) (a_cons (t_ixL (ok_var (pv 3) rfl) ok_int (atI_nat (j := 0) rfl) (fun _ _ => rfl)) a_nil) ⟨a, la, rfl, rfl⟩) (num_yes na)) (a_cons (ok_as (t_callG (fun h => pe_call N.ok hr (by rfl) N.gl N.kp N.bd .nil pass0 h) (a_cons (t_ixL (ok_var (pv 3) rfl) ok_int (atI_nat (j := 1) rfl) (fun _ _ => rfl)) a_nil) ⟨b, lb, rfl, rfl⟩) (num_yes nb)) (a_cons (ok_tx (z := [97]) (by decide +kernel)) a_nil))) (by show 3 ≤ 100000; decide))))
          | false => exact s_ifNo (o_as (o_w (w_and (o_val (ok_var (pv 1) rfl)) (fun hb => w_and1 (o_op (fun p q => pt_cmpR op_eq p q (nomark _)) (t_cb (fun h => pe_callB call_len_seq (by rfl) L.len PySem.boot_len h) (a_cons (ok_var (pv 2) rfl) a_nil) rc_len) ok_int r2_eqI)))) rfl) (s_ifYes (o_as (o_w (w_or (o_val (ok_var (pv 1) rfl)) (fun _ => w_or (q := true) (o_op (fun p q => pt_cmpR op_eq p q (nomark _)) (t_cb (fun h => pe_callB call_len_seq (by rfl) L.len PySem.boot_len h) (a_cons (ok_var (pv 2) rfl) a_nil) rc_len) ok_int r2_eqI) (fun hb => by cases hb)))) rfl) (s_one (s_ret ok_non)))
      · have nb' : numB b = false := by simpa using nb
        rw [if_neg fun y => nb y.2] at eR
        rw [wordD_non eR]
        exact s_ifYes (o_as (o_w (w_or (o_op (fun p q => pt_cmpR op_ne p q (nomark _)) (t_cb (fun h => pe_callB call_len_seq (by rfl) L.len PySem.boot_len h) (a_cons (ok_var (pv 3) rfl) a_nil) rc_len) ok_int r2_neI) (fun _ => w_or (o_isNI (ok_as (t_callG (fun h => pe_call N.ok hr (by rfl) N.gl N.kp N.bd .nil pass0 h) (a_cons (t_ixL (ok_var (pv 3) rfl) ok_int (atI_nat (j := 0) rfl) (fun _ _ => rfl)) a_nil) ⟨a, la, rfl, rfl⟩) (num_yes na)) ok_non) (fun _ => w_or1 (o_isNN (ok_as (t_callG (fun h => pe_call N.ok hr (by rfl) N.gl N.kp N.bd .nil pass0 h) (a_cons (t_ixL (ok_var (pv 3) rfl) ok_int (atI_nat (j := 1) rfl) (fun _ _ => rfl)) a_nil) ⟨b, lb, rfl, rfl⟩) (num_no nb')) ok_non))))) rfl) (s_one (s_ret ok_non))
    · have na' : numB a = false := by simpa using na
      rw [if_neg fun y => na y.1] at eR
      rw [wordD_non eR]
      exact s_ifYes (o_as (o_w (w_or (o_op (fun p q => pt_cmpR op_ne p q (nomark _)) (t_cb (fun h => pe_callB call_len_seq (by rfl) L.len PySem.boot_len h) (a_cons (ok_var (pv 3) rfl) a_nil) rc_len) ok_int r2_neI) (fun _ => w_or (q := true) (o_isNN (ok_as (t_callG (fun h => pe_call N.ok hr (by rfl) N.gl N.kp N.bd .nil pass0 h) (a_cons (t_ixL (ok_var (pv 3) rfl) ok_int (atI_nat (j := 0) rfl) (fun _ _ => rfl)) a_nil) ⟨a, la, rfl, rfl⟩) (num_no na')) ok_non) (fun hb => by cases hb)))) rfl) (s_one (s_ret ok_non))
  · rw [wordD_non eR]
    have e2 : (!decide ((((TL.spl [44] 0 [] (cutA 58 z)).map D.tx).length : Int) = 2)) = true := by
      rw [List.length_map, decide_eq_false (by omega)]
      rfl
    exact s_ifYes (o_as (o_w (w_or (q := true) (o_as (o_op (fun p q => pt_cmpR op_ne p q (nomark _)) (t_cb (fun h => pe_callB call_len_seq (by rfl) L.len PySem.boot_len h) (a_cons (ok_var (pv 3) rfl) a_nil) rc_len) ok_int r2_neI) e2) (fun hb => by cases hb))) rfl) (s_one (s_ret ok_non))
end
end Pm
/-! ### _law_line_fault -/
namespace Tr
open PySem PySem.Spec PyProof.Rows L2 SX
section
variable {X : Cx} {B : Hp × Hp} {Γ : Env} {a b e : Expr} {s : Stmt} {r : List Stmt} {d : D} {pos : Pos}
theorem o_isNT {ds : List D} (ha : Ok X B a Γ (.tup ds)) (hb : Ok X B b Γ .non) : OkT X B (.Compare a [.Is] [b] pos) Γ false := o_op (fun p q => pt_cmpR op_isN p q (nomark _)) ha hb (r2_val fun F H fh v w rv rw Q q => by
  cases rv; cases rw
  exact ⟨rfl, q _ fun _ => .bl _⟩)
theorem s_retHere {X : Cx} {B : Hp × Hp} {s : Stmt} {r : List Stmt} {Γ : Env} {d : D} (h : OkS X B s Γ (.rt d)) : OkSs X B (s :: r) Γ (.rt d) := PSs.weak (pss_cons h (PSs.when (p := False) (t := fun _ _ _ => True) fun z => z.elim)) fun D σ H ⟨F, w, k⟩ => ⟨F, w, k⟩
/-- a loop that may return, and what stands behind it -/
theorem s_forRR {α S : Type} {g : TG} {vs : List Nat} {body : List Stmt} {tg : Expr} (env : S → Env) (f : S → α → Sum D S) (ks : List α) (enc : α → D) (s0 : S) (bound : S → α → Env)
    (ho : ∀ {wi : TI} {tb : TS}, PI X tg e wi → PSs X body tb → PS X s (tFor wi g tb)) (hi : OkI X B tg e (env s0) (ks.map enc))
    (hg : ∀ (B : Hp × Hp) s k, k ∈ ks → BindG X.K B vs g (env s) (enc k) (bound s k)) (hb : ∀ (B : Hp × Hp) i k s, ks[i]? = some k → runF f s0 (ks.take i) = .inr s → OkSs X B body (bound s k) (outOf env (f s k)))
    (hR : ∀ x, runF f s0 ks = .inl x → x = d) (hN : ∀ s', runF f s0 ks = .inr s' → OkSs X B r (env s') (.rt d)) : OkSs X B (s :: r) (env s0) (.rt d) := by
  have h := s_forR (vs := vs) env f ks enc s0 bound ho hi hg hb
  cases q : runF f s0 ks with
  | inl x =>
    rw [q] at h
    rw [← hR x q]
    exact s_retHere h
  | inr s' =>
    rw [q] at h
    exact s_cons h (hN s' q)
end
end Tr
namespace Pm
open PySem PySem.Spec PyProof.Rows L2 SX NdefX Tr
/-- what the law says of a line -/
def faultZ (z : List Nat) : Int := match readF z with
  | .inl p => (p : Int)
  | .inr _ => -1
theorem run_read (sm : Bool) : ∀ (ws : List (List Nat)) (s : List Cnd) (j : Nat), runF (fun (s : List Cnd) (p : List Nat × Nat) => match wordPart sm p.1 with
    | none => (.inl (.int (1 + (p.2 : Int))) : Sum D (List Cnd))
    | some c => .inr (s ++ [c])) s (ws.zipIdx j) = match readAll (wordPart sm) (1 + j) ws with
    | .inl i => .inl (.int (i : Int))
    | .inr cs => .inr (s ++ cs)
  | [], s, j => by
    show Sum.inr s = Sum.inr (s ++ [])
    rw [List.append_nil]
  | w :: ws, s, j => by
    rw [List.zipIdx_cons]
    unfold runF readAll
    dsimp only
    cases e : wordPart sm w with
    | none =>
      dsimp only
      rw [show ((1 + j : Nat) : Int) = 1 + (j : Int) from by omega]
    | some c =>
      dsimp only
      rw [run_read sm ws (s ++ [c]) (j + 1), show 1 + (j + 1) = 1 + j + 1 from by omega]
      cases readAll (wordPart sm) (1 + j + 1) ws with
      | inl i => rfl
      | inr cs =>
        dsimp only
        rw [List.append_assoc]
        rfl
theorem run_len (sm : Bool) : ∀ (l : List (List Nat × Nat)) (s s' : List Cnd), runF (fun (s : List Cnd) (p : List Nat × Nat) => match wordPart sm p.1 with
    | none => (.inl (.int (1 + (p.2 : Int))) : Sum D (List Cnd))
    | some c => .inr (s ++ [c])) s l = .inr s' → s'.length ≤ s.length + l.length
  | [], s, s', h => by
    cases h
    exact Nat.le_refl _
  | p :: l, s, s', h => by
    unfold runF at h
    cases e : wordPart sm p.1 with
    | none => rw [e] at h; cases h
    | some c =>
      rw [e] at h
      have := run_len sm l (s ++ [c]) s' h
      rw [List.length_append, List.length_singleton] at this
      rw [List.length_cons]
      omega
theorem readAll_all {α : Type} {f : List Nat → Option α} : ∀ {ws : List (List Nat)} {k : Nat} {as : List α}, readAll f k ws = .inr as → as.length = ws.length ∧ ∀ a ∈ as, ∃ w ∈ ws, f w = some a
  | [], k, as, h => by
    cases h
    exact ⟨rfl, fun _ m => nomatch m⟩
  | w :: ws, k, as, h => by
    unfold readAll at h
    cases e : f w with
    | none => rw [e] at h; cases h
    | some a =>
      rw [e] at h
      dsimp only at h
      cases e2 : readAll f (k + 1) ws with
      | inl j => rw [e2] at h; cases h
      | inr bs =>
        rw [e2] at h
        cases h
        obtain ⟨h1, h2⟩ := readAll_all e2
        refine ⟨by rw [List.length_cons, List.length_cons, h1], fun b m => ?_⟩
        rcases List.mem_cons.mp m with rfl | m
        · exact ⟨w, List.mem_cons_self, e⟩
        · obtain ⟨v, mv, ev⟩ := h2 b m
          exact ⟨v, List.mem_cons_of_mem _ mv, ev⟩
theorem wp_same : wordPart true = fun w => (readP w).map fun p => ((p, [97]) : Cnd) := by
  funext w
  unfold wordPart
  rw [if_pos rfl]
theorem wp_else : wordPart false = readC := by
  funext w
  unfold wordPart
  rw [if_neg (by decide)]
theorem same_stone : stoneB sameL = false := by decide
theorem all_dig : digB allL = false := by decide
theorem readAll_map {α β : Type} {f : List Nat → Option α} (g : α → β) : ∀ (ws : List (List Nat)) (k : Nat), readAll (fun w => (f w).map g) k ws = match readAll f k ws with
    | .inl i => .inl i
    | .inr as => .inr (as.map g)
  | [], k => rfl
  | w :: ws, k => by
    unfold readAll
    cases e : f w with
    | none => rfl
    | some a =>
      show (match readAll (fun w => (f w).map g) (k + 1) ws with | .inl j => Sum.inl j | .inr as => Sum.inr (g a :: as)) = _
      rw [readAll_map g ws (k + 1)]
      dsimp only
      cases readAll f (k + 1) ws <;> rfl
theorem fst_wide : ∀ (ps : List (Int × Int)) (i : Nat) (seen : List (Int × Int)), fstBad i seen (ps.map wideC) = fstBad i seen (ps.map fun p => ((p, [97]) : Cnd))
  | [], _, _ => rfl
  | p :: ps, i, seen => by
    have e : badAt i seen (wideC p) = badAt i seen ((p, [97]) : Cnd) := by
      have w1 : diffB 35 (wideC p).2 = true := by
        show diffB 35 alphaL = true
        decide +kernel
      have w2 : diffB 35 ([97] : List Nat) = true := by decide +kernel
      unfold badAt
      rw [w1, w2]
      rfl
    rw [List.map_cons, List.map_cons, fst_step, fst_step, e, fst_wide ps]
    rfl
theorem faultS_wide (ps : List (Int × Int)) (n : Int) : faultS (ps.map wideC) n = faultS (ps.map fun p => ((p, [97]) : Cnd)) n := by
  unfold faultS
  rw [fst_wide, List.length_map, List.length_map]
section
variable {P : Program} {w : World} {K : PySem.W.Frag} {mg : Str → Option Value} {base : Heap} {E : XK} {vs : List V} {H : Hp} {Q : VK}
theorem as_let13 {z : List Nat} (l : z.length ≤ 1000) (h : Tr.spT K [.tx z] (.bl (stoneB z)) vs H Q E) : spStone vs H Q E := by
  obtain ⟨F, fh, r, k⟩ := h
  cases r with
  | cons r1 r =>
    cases r; cases r1
    exact ⟨z, rfl, l, k _ F H (Gr.refl _ _) fh (.bl _)⟩
theorem as_fault {κ : Nat} {st : List Nat} {cs : List Cnd} {need : Int} (k3 : κ < 3) (ls : st.length ≤ 1000) (few : cs.length ≤ 1000) (each : ∀ c ∈ cs, c.2.length ≤ 1000) (h : Tr.spT K [.tup [.tx (kindL κ), .tx st, .lst (cs.map tripD), .int need]] (.int (ansOf (faultL κ st cs need))) vs H Q E) : spFault vs H Q E := by
  obtain ⟨F, fh, r, k⟩ := h
  cases r with
  | cons r1 r =>
    cases r
    cases r1 with
    | tup h1 q =>
    cases q with
    | cons q1 q =>
    cases q with
    | cons q2 q =>
    cases q with
    | cons q3 q =>
    cases q with
    | cons q4 q =>
    cases q
    cases q1
    cases q2
    cases q4
    obtain ⟨pl, ks, rfl, hc, e⟩ := lst_cnds q3
    subst e
    refine ⟨_, pl, κ, st, ks, need, rfl, ⟨by rw [kindL_S]; exact fh _ _ h1, hc.same fh, k3, ls, by rwa [List.length_map] at few, fun q m => each q.2 (List.mem_map.mpr ⟨q, m, rfl⟩)⟩, fun H' s => ?_⟩
    exact k _ F H' ⟨Same.refl _, s, fun _ _ _ n => n⟩ (fh.trans s) (.int _)
def gLineF (ds : List D) (d : D) : Prop := ∃ z, z.length ≤ 900 ∧ ds = [.tx z] ∧ d = .int (faultZ z)
abbrev nLineF : List Str := ["_law_line", "_law_words", "_law_same", "_law_digit", "_law_parts_here", "_law_k", "_law_part"]
theorem scLineF : FnScope nLineF ["_law_line"] (defScope lLineFault) := ⟨rfl, rfl, rfl, by decide +kernel, rfl, by decide +kernel, by decide +kernel⟩
theorem ok_linefault {f a1 a2 a3 : Addr} {fd b1 b2 b3 : FuncData} (F : Fun K "_law_line_fault" "_law_line_fault" lLineFault f fd) (L : LTxt K mg) (Lt : Cl P w K mg base CX0 1 "_law_is_letter" ["_law_text"] spStone a1 b1) (Wd : Cl P w K mg base CX0 2 "_law_word_part" ["_law_word", "_law_same"] (spG K gWordPart) a2 b2) (Fa : Cl P w K mg base CX0 2 "_law_fault" ["_law_rule_here"] spFault a3 b3) :
    FnOk P w K mg base CX0 3 f fd ["_law_line"] (spG K gLineF) := by
  refine F.ok scLineF (spG_len fun ds d ⟨_, _, e, _⟩ => by rw [e]; rfl) (fun cdv A outer s H vs Q E hr h => ?_)
  obtain ⟨ds, d, ⟨z, lz, rfl, rfl⟩, h⟩ := h
  have hr1 : Room 1 _ := hr.mono (by decide)
  obtain ⟨B, tw⟩ := tree_wish (N := nLineF) h (by show 1 ≤ 7; decide)
  obtain ⟨sl1, sl2⟩ := spl_len z []
  have eF : readF z = match TL.spl [32] 0 [] z with
    | w0 :: w1 :: rest =>
      if w0 = sameL ∧ digB w1 = true then
        match readAll readP 1 rest with
        | .inl i => .inl i
        | .inr ps => match faultS (ps.map wideC) (numV w1) with
          | some p => .inl p
          | none => .inr (2, [], ps.map (fun p => (p, [97])), numV w1)
      else if stoneB w0 = true ∧ (w1 = allL ∨ digB w1 = true) then
        match readAll readC 1 rest with
        | .inl i => .inl i
        | .inr cs => if w1 = allL then
            match faultR w0 cs with
            | some p => .inl p
            | none => .inr (0, w0, cs, (cs.length : Int))
          else match faultC w0 cs (numV w1) with
            | some p => .inl p
            | none => .inr (1, w0, cs, numV w1)
      else .inl 0
    | _ => .inl 0 := rfl
  have at0 : ∃ w0 t, TL.spl [32] 0 [] z = w0 :: t := by
    cases e : TL.spl [32] 0 [] z with
    | nil =>
      have := spl_pos (c := 32) z []
      rw [e] at this
      exact absurd this (by decide)
    | cons a t => exact ⟨a, t, rfl⟩
  refine ⟨_, (show OkSs _ B _ [.d (.tx z), .no, .no, .no, .no, .no, .no] (.rt (.int (faultZ z))) from ?_), tw⟩
  refine s_cons (s_set (i := 1) (fun h => ps_set (i := 1) scLineF.nd rfl (.inl rfl) h) (t_bm (fun h g => pe_bm PySem.F.plainAttrs_str PySem.F.slot_str_split PySem.F.type_str_split mt_split h g) (ok_var (pv 0) rfl) (a_cons (ok_tx (z := [32]) (by decide +kernel)) a_nil) ty_str (rm_split (split_S (by decide) (by decide)) (by decide) (by omega)))) ?_
  show OkSs _ B _ [.d (.tx z), .d (.lst ((TL.spl [32] 0 [] z).map D.tx)), .no, .no, .no, .no, .no] (.rt (.int (faultZ z)))
  obtain ⟨w0, t, eW⟩ := at0
  rw [eW] at sl1 sl2 eF ⊢
  have l0 : w0.length ≤ 1000 := by
    have := sl1 w0 List.mem_cons_self
    simp at this
    omega
  refine s_cons (s_set (i := 2) (fun h => ps_set (i := 2) scLineF.nd rfl (.inl rfl) h) (t_eq (t_ixL (ok_var (pv 1) rfl) ok_int (atI_nat (j := 0) rfl) (fun _ _ => rfl)) (ok_tx (z := sameL) (by decide +kernel)) r2_eqS)) ?_
  show OkSs _ B _ [.d (.tx z), .d (.lst ((w0 :: t).map D.tx)), .d (.bl (decide (w0 = sameL))), .no, .no, .no, .no] (.rt (.int (faultZ z)))
  cases t with
  | nil =>
    have e0 : faultZ z = 0 := by
      unfold faultZ
      rw [eF]
      rfl
    rw [e0]
    exact s_ifYes (o_as (o_w (w_or (q := true) (o_op (fun p q => pt_cmpR op_lt p q (nomark _)) (t_cb (fun h => pe_callB call_len_seq (by rfl) L.len PySem.boot_len h) (a_cons (ok_var (pv 1) rfl) a_nil) rc_len) ok_int (r2_i fun _ => .bl _)) (fun hb => by cases hb))) rfl) (s_one (s_ret ok_int))
  | cons w1 rest =>
  have l1 : w1.length ≤ 1000 := by
    have := sl1 w1 (List.mem_cons_of_mem _ List.mem_cons_self)
    simp at this
    omega
  have lr : ∀ w ∈ rest, w.length ≤ 1000 := fun w m => by
    have := sl1 w (List.mem_cons_of_mem _ (List.mem_cons_of_mem _ m))
    simp at this
    omega
  have lrr : rest.length ≤ 900 := by
    rw [List.length_cons, List.length_cons] at sl2
    omega
  dsimp only at eF
  have ll : ((w0 :: w1 :: rest).map D.tx).length = rest.length + 2 := by rw [List.length_map, List.length_cons, List.length_cons]
  have tA : (decide ((((w0 :: w1 :: rest).map D.tx).length : Int) < 2) || (!decide (w0 = sameL) && !stoneB w0)) = (!decide (w0 = sameL) && !stoneB w0) := by
    rw [ll, decide_eq_false (by omega), Bool.false_or]
  cases cA : (!decide (w0 = sameL) && !stoneB w0) with
  | true =>
    have e0 : faultZ z = 0 := by
      rw [Bool.and_eq_true] at cA
      have n1 : w0 ≠ sameL := by simpa using cA.1
      have n2 : stoneB w0 = false := by simpa using cA.2
      unfold faultZ
      rw [eF, if_neg (fun y => n1 y.1), if_neg (fun y => by rw [n2] at y; cases y.1)]
      rfl
    rw [e0]
    exact s_ifYes (o_as (o_w (w_or (o_op (fun p q => pt_cmpR op_lt p q (nomark _)) (t_cb (fun h => pe_callB call_len_seq (by rfl) L.len PySem.boot_len h) (a_cons (ok_var (pv 1) rfl) a_nil) rc_len) ok_int (r2_i fun _ => .bl _)) (fun _ => w_or1 (o_w (w_and (o_not (o_val (ok_var (pv 2) rfl))) (fun _ => w_and1 (o_not (o_val (t_call (z := .bl (stoneB w0)) (fun h => pe_call Lt.ok hr1 (by rfl) Lt.gl Lt.kp Lt.bd .nil pass0 h) (a_cons (t_ixL (ok_var (pv 1) rfl) ok_int (atI_nat (j := 0) rfl) (fun _ _ => rfl)) a_nil) fun _ _ _ q => as_let13 l0 q))))))))) (tA.trans cA)) (s_one (s_ret ok_int))
  | false =>
  refine s_ifNo (o_as (o_w (w_or (o_op (fun p q => pt_cmpR op_lt p q (nomark _)) (t_cb (fun h => pe_callB call_len_seq (by rfl) L.len PySem.boot_len h) (a_cons (ok_var (pv 1) rfl) a_nil) rc_len) ok_int (r2_i fun _ => .bl _)) (fun _ => w_or1 (o_w (w_and (o_not (o_val (ok_var (pv 2) rfl))) (fun _ => w_and1 (o_not (o_val (t_call (z := .bl (stoneB w0)) (fun h => pe_call Lt.ok hr1 (by rfl) Lt.gl Lt.kp Lt.bd .nil pass0 h) (a_cons (t_ixL (ok_var (pv 1) rfl) ok_int (atI_nat (j := 0) rfl) (fun _ _ => rfl)) a_nil) fun _ _ _ q => as_let13 l0 q))))))))) (tA.trans cA)) ?_
  have eD : (decide ((w1.length : Int) = 1) && digB w1) = digB w1 := by
    cases x : digB w1 with
    | false => rw [Bool.and_false]
    | true =>
      obtain ⟨c, rfl, _⟩ := digB_is x
      rfl
  refine s_cons (s_set (i := 3) (d := .bl (digB w1)) (fun h => ps_set (i := 3) scLineF.nd rfl (.inl rfl) h) (ok_as (v_and (p := decide ((w1.length : Int) = 1)) (q := digB w1) (t_eq (t_cb (fun h => pe_callB call_len_str (by rfl) L.len PySem.boot_len h) (a_cons (t_ixL (ok_var (pv 1) rfl) ok_int (atI_nat (j := 1) rfl) (fun _ _ => rfl)) a_nil) (rc_lenS (by omega))) ok_int r2_eqI) (fun hb => v_one (by
    obtain ⟨c, rfl⟩ : ∃ c, w1 = [c] := len_one (by
      have := of_decide_eq_true hb
      omega)
    have e2 : digB [c] = decide (c ∈ digL) := by
      show decide (Dig c) = _
      exact decide_eq_decide.mpr (digL_mem c).symm
    rw [e2]
    exact t_inS (t_ixL (ok_var (pv 1) rfl) ok_int (atI_nat (j := 1) rfl) (fun _ _ => rfl)) (ok_tx (z := digL) (by decide +kernel)) (by rfl)))) (by rw [eD]))) ?_
  show OkSs _ B _ [.d (.tx z), .d (.lst ((w0 :: w1 :: rest).map D.tx)), .d (.bl (decide (w0 = sameL))), .d (.bl (digB w1)), .no, .no, .no] (.rt (.int (faultZ z)))
  cases cB : (!digB w1 && (decide (w0 = sameL) || !decide (w1 = allL))) with
  | true =>
    have e0 : faultZ z = 0 := by
      rw [Bool.and_eq_true] at cB
      have n1 : digB w1 = false := by simpa using cB.1
      have n2 : ¬ (stoneB w0 = true ∧ (w1 = allL ∨ digB w1 = true)) := fun ⟨a, b⟩ => by
        rcases Bool.or_eq_true_iff.mp cB.2 with y | y
        · have y := of_decide_eq_true y
          rw [y, same_stone] at a
          cases a
        · rcases b with b | b
          · rw [decide_eq_true b] at y
            cases y
          · rw [n1] at b
            cases b
      unfold faultZ
      rw [eF, if_neg (fun y => by rw [n1] at y; cases y.2), if_neg n2]
      rfl
    rw [e0]
    exact s_ifYes (o_as (o_w (w_and (o_not (o_val (ok_var (pv 3) rfl))) (fun _ => w_and1 (o_w (w_or (o_val (ok_var (pv 2) rfl)) (fun _ => w_or1 (o_op (fun p q => pt_cmpR op_ne p q (nomark _)) (t_ixL (ok_var (pv 1) rfl) ok_int (atI_nat (j := 1) rfl) (fun _ _ => rfl)) (ok_tx (z := allL) (by decide +kernel)) r2_neS))))))) cB) (s_one (s_ret ok_int))
  | false =>
  refine s_ifNo (o_as (o_w (w_and (o_not (o_val (ok_var (pv 3) rfl))) (fun _ => w_and1 (o_w (w_or (o_val (ok_var (pv 2) rfl)) (fun _ => w_or1 (o_op (fun p q => pt_cmpR op_ne p q (nomark _)) (t_ixL (ok_var (pv 1) rfl) ok_int (atI_nat (j := 1) rfl) (fun _ _ => rfl)) (ok_tx (z := allL) (by decide +kernel)) r2_neS))))))) cB) ?_
  refine s_cons (s_setOwn (i := 4) (fun h => ps_set (i := 4) scLineF.nd rfl (.inl rfl) (pe_lst h)) a_nil (by show 0 ≤ 100000; decide)) ?_
  generalize hsm : decide (w0 = sameL) = sm at cA cB ⊢
  have eK : (rest.zipIdx.map fun p : List Nat × Nat => D.int (2 + (p.2 : Int))) = (List.range rest.length).map fun k : Nat => D.int (2 + (k : Int)) := by
    have e := congrArg (List.map fun k : Nat => D.int (2 + (k : Int))) (List.zipIdx_map_snd 0 rest)
    rw [List.map_map] at e
    rw [List.range_eq_range']
    exact e
  have cases2 : (sm = true ∧ w0 = sameL ∧ digB w1 = true) ∨ (sm = false ∧ w0 ≠ sameL ∧ stoneB w0 = true ∧ (w1 = allL ∨ digB w1 = true)) := by
    cases sm with
    | true =>
      refine .inl ⟨rfl, of_decide_eq_true hsm, ?_⟩
      cases x : digB w1 with
      | true => rfl
      | false => rw [x] at cB; cases cB
    | false =>
      refine .inr ⟨rfl, of_decide_eq_false hsm, ?_, ?_⟩
      · cases x : stoneB w0 with
        | true => rfl
        | false => rw [x] at cA; cases cA
      · by_cases y : w1 = allL
        · exact .inl y
        · rw [decide_eq_false y] at cB
          cases x : digB w1 with
          | true => exact .inr rfl
          | false => rw [x] at cB; cases cB
  refine s_forRR (vs := [5]) (fun s : List Cnd => ([.d (.tx z), .d (.lst ((w0 :: w1 :: rest).map D.tx)), .d (.bl sm), .d (.bl (digB w1)), .own (.l (s.map tripD)), .no, .no] : Tr.Env)) (fun (s : List Cnd) (p : List Nat × Nat) => match wordPart sm p.1 with
      | none => (.inl (.int (1 + (p.2 : Int))) : Sum D (List Cnd))
      | some c => .inr (s ++ [c])) rest.zipIdx (fun p : List Nat × Nat => D.int (2 + (p.2 : Int))) [] (fun s k => _) (fun h g => ps_for PassesOwn.never rfl h (pg_name (i := 5) scLineF.nd rfl (.inl rfl)) g)
    (by
      rw [eK]
      exact i_range2 (fun h => pi_range2 (by rfl) L.rng h) (a_cons ok_int (a_cons (t_cb (fun h => pe_callB call_len_seq (by rfl) L.len PySem.boot_len h) (a_cons (ok_var (pv 1) rfl) a_nil) rc_len) a_nil)) (by rw [ll]; omega) (by rw [ll]; omega)) (fun _ _ _ _ => (b_name (i := 5) (by decide))) (fun B i p s h1 h2 => ?_) (fun x h1 => ?_) (fun s h1 => ?_)
  · rw [List.getElem?_zipIdx] at h1
    cases e : rest[i]? with
    | none => rw [e] at h1; cases h1
    | some wd =>
    rw [e] at h1
    cases h1
    have li : i < rest.length := (List.getElem?_eq_some_iff.mp e).1
    have at2 : atI ((w0 :: w1 :: rest).map D.tx) (2 + ((0 + i : Nat) : Int)) = some (.tx wd) := by
      rw [show (2 + ((0 + i : Nat) : Int)) = ((i + 2 : Nat) : Int) from by omega]
      refine atI_nat ?_
      rw [List.getElem?_map]
      show (rest[i]?).map D.tx = _
      rw [e]
      rfl
    have lw : wd.length ≤ 1000 := lr wd (List.mem_of_getElem? e)
    have ls : s.length < 100000 := by
      have := run_len sm _ [] s h2
      have l2 := List.length_take_le i rest.zipIdx
      simp at this
      omega
    refine s_cons (s_set (i := 6) (fun h => ps_set (i := 6) scLineF.nd rfl (.inl rfl) h) (t_callG (fun h => pe_call Wd.ok hr (by rfl) Wd.gl Wd.kp Wd.bd .nil pass0 h) (a_cons (t_ixL (ok_var (pv 1) rfl) (ok_var (pv 5) rfl) at2 (fun _ _ => rfl)) (a_cons (ok_var (pv 2) rfl) a_nil)) ⟨wd, sm, lw, rfl, rfl⟩)) ?_
    dsimp only
    have eD : wordD sm wd = match wordPart sm wd with
      | none => .non
      | some c => tripD c := rfl
    rw [eD]
    cases wordPart sm wd with
    | none => exact s_ifYes (o_isNN (ok_var (pv 6) rfl) ok_non) (s_one (s_ret (ok_as (t_sub (ok_var (pv 5) rfl) ok_int) (congrArg D.int (by omega)))))
    | some c => exact s_leO (s_ifNo (o_isNT (ok_var (pv 6) rfl) ok_non) (s_one (s_appendM (i := 4) tripD s c (fun h => ps_expr (pe_bm PySem.F.plainAttrs_list PySem.F.slot_list_append PySem.F.type_list_append mt_append (pv 4) h)) rfl (a_cons (ok_var (pv 6) rfl) a_nil) ls))) (.cons (.cons (.cons (.cons (.cons (.cons (.cons .refl (.inl rfl)) (.inl rfl)) (.inr rfl)) (.inr rfl)) (.inr rfl)) (.inr rfl)) (.inr rfl))
  · have h1 : (match readAll (wordPart sm) 1 rest with
      | .inl i => (.inl (.int (i : Int)) : Sum D (List Cnd))
      | .inr cs => .inr ([] ++ cs)) = .inl x := (run_read sm rest [] 0).symm.trans h1
    cases eA : readAll (wordPart sm) 1 rest with
    | inr cs => rw [eA] at h1; cases h1
    | inl j =>
      rw [eA] at h1
      cases h1
      have eZ : faultZ z = (j : Int) := by
        unfold faultZ
        rw [eF]
        rcases cases2 with ⟨rfl, c0, d1⟩ | ⟨rfl, c0, st, ad⟩
        · rw [if_pos ⟨c0, d1⟩]
          rw [wp_same, readAll_map (fun p => ((p, [97]) : Cnd))] at eA
          cases q : readAll readP 1 rest with
          | inl j2 => rw [q] at eA; cases eA; rfl
          | inr ps => rw [q] at eA; cases eA
        · rw [if_neg (fun y => c0 y.1), if_pos ⟨st, ad⟩]
          rw [wp_else] at eA
          rw [eA]
      rw [eZ]
  · have h1 : (match readAll (wordPart sm) 1 rest with
      | .inl i => (.inl (.int (i : Int)) : Sum D (List Cnd))
      | .inr cs => .inr ([] ++ cs)) = .inr s := (run_read sm rest [] 0).symm.trans h1
    cases eA : readAll (wordPart sm) 1 rest with
    | inl j => rw [eA] at h1; cases h1
    | inr cs =>
      rw [eA] at h1
      have h1 : (Sum.inr ([] ++ cs) : Sum D (List Cnd)) = .inr s := h1
      have h1 := Sum.inr.inj h1
      rw [List.nil_append] at h1
      subst h1
      obtain ⟨al, ae⟩ := readAll_all eA
      have few : cs.length ≤ 1000 := by omega
      have each : ∀ c ∈ cs, c.2.length ≤ 1000 := fun c m => by
        obtain ⟨wd, mw, ew⟩ := ae c m
        have lw := lr wd mw
        unfold wordPart at ew
        split at ew
        · rw [Option.map_eq_some_iff] at ew
          obtain ⟨p, _, rfl⟩ := ew
          show 1 ≤ 1000
          decide
        · exact Nat.le_trans (readC_len ew) lw
      refine s_freeze 4 rfl ?_
      rcases cases2 with ⟨rfl, c0, dg⟩ | ⟨rfl, c0, st, ad⟩
      · have eZ : ansOf (faultL 2 [97] cs (numV w1)) = faultZ z := by
          unfold faultZ
          rw [eF, if_pos ⟨c0, dg⟩]
          rw [wp_same, readAll_map (fun p => ((p, [97]) : Cnd))] at eA
          cases q : readAll readP 1 rest with
          | inl j2 => rw [q] at eA; cases eA
          | inr ps =>
            rw [q] at eA
            cases eA
            dsimp only
            rw [faultS_wide]
            unfold faultL
            rw [if_pos rfl]
            cases faultS (ps.map fun p => ((p, [97]) : Cnd)) (numV w1) <;> rfl
        exact s_ifYes (o_val (ok_var (pv 2) rfl)) (s_one (s_ret (ok_as (t_call (z := .int (ansOf (faultL 2 [97] cs (numV w1)))) (fun h => pe_call Fa.ok hr (by rfl) Fa.gl Fa.kp Fa.bd .nil pass0 h) (a_cons (t_tup (a_cons (ok_tx (z := kindL 2) (by decide +kernel)) (a_cons (ok_tx (z := [97]) (by decide +kernel)) (a_cons (ok_var (pv 4) rfl) (a_cons (t_cb (fun h => pe_callTy call_int_str (by rfl) L.int (by decide +kernel) h) (a_cons (t_ixL (ok_var (pv 1) rfl) ok_int (atI_nat (j := 1) rfl) (fun _ _ => rfl)) a_nil) (rc_intS (dig_num dg).1 (dig_num dg).2)) a_nil)))) (by show 4 ≤ 100000; decide)) a_nil) fun _ _ _ q => as_fault (by decide) (by decide) few each q) (congrArg D.int eZ))))
      · rw [wp_else] at eA
        refine s_ifNo (o_val (ok_var (pv 2) rfl)) ?_
        by_cases a1 : w1 = allL
        · have nd : digB w1 = false := by rw [a1]; exact all_dig
          have eZ : ansOf (faultL 0 w0 cs 0) = faultZ z := by
            unfold faultZ
            rw [eF, if_neg (fun y => c0 y.1), if_pos ⟨st, ad⟩, eA]
            dsimp only
            rw [if_pos a1]
            unfold faultL
            rw [if_neg (by decide)]
            unfold faultC
            cases faultR w0 cs with
            | some p => rfl
            | none =>
              dsimp only
              rw [if_pos ⟨by decide, by omega⟩]
              rfl
          exact s_ifNo (o_as (o_val (ok_var (pv 3) rfl)) nd) (s_one (s_ret (ok_as (t_call (z := .int (ansOf (faultL 0 w0 cs 0))) (fun h => pe_call Fa.ok hr (by rfl) Fa.gl Fa.kp Fa.bd .nil pass0 h) (a_cons (t_tup (a_cons (ok_tx (z := kindL 0) (by decide +kernel)) (a_cons (t_ixL (ok_var (pv 1) rfl) ok_int (atI_nat (j := 0) rfl) (fun _ _ => rfl)) (a_cons (ok_var (pv 4) rfl) (a_cons ok_int a_nil)))) (by show 4 ≤ 100000; decide)) a_nil) fun _ _ _ q => as_fault (by decide) l0 few each q) (congrArg D.int eZ))))
        · have dg : digB w1 = true := ad.elim (fun y => absurd y a1) id
          have eZ : ansOf (faultL 1 w0 cs (numV w1)) = faultZ z := by
            unfold faultZ
            rw [eF, if_neg (fun y => c0 y.1), if_pos ⟨st, ad⟩, eA]
            dsimp only
            rw [if_neg a1]
            unfold faultL
            rw [if_neg (by decide)]
            cases faultC w0 cs (numV w1) <;> rfl
          exact s_ifYes (o_as (o_val (ok_var (pv 3) rfl)) dg) (s_one (s_ret (ok_as (t_call (z := .int (ansOf (faultL 1 w0 cs (numV w1)))) (fun h => pe_call Fa.ok hr (by rfl) Fa.gl Fa.kp Fa.bd .nil pass0 h) (a_cons (t_tup (a_cons (ok_tx (z := kindL 1) (by decide +kernel)) (a_cons (t_ixL (ok_var (pv 1) rfl) ok_int (atI_nat (j := 0) rfl) (fun _ _ => rfl)) (a_cons (ok_var (pv 4) rfl) (a_cons (t_cb (fun h => pe_callTy call_int_str (by rfl) L.int (by decide +kernel) h) (a_cons (t_ixL (ok_var (pv 1) rfl) ok_int (atI_nat (j := 1) rfl) (fun _ _ => rfl)) a_nil) (rc_intS (dig_num dg).1 (dig_num dg).2)) a_nil)))) (by show 4 ≤ 100000; decide)) a_nil) fun _ _ _ q => as_fault (by decide) l0 few each q) (congrArg D.int eZ))))
end
end Pm
/-! ### lines of a text: lengths; cuts -/
namespace Pm
open PySem PySem.Spec PyProof.Rows L2 SX NdefX
theorem spl_sumN (d : Nat) : ∀ (z acc : List Nat), ((TL.spl [d] 0 acc z).map (·.length)).sum + (TL.spl [d] 0 acc z).length = acc.length + z.length + 1
  | [], acc => by
    rw [TL.spl_nil]
    simp
  | c :: r, acc => by
    by_cases h : TL.pre [d] (c :: r) = true
    · rw [TL.spl_hit h]
      have ih : ((TL.spl [d] 0 [] r).map (·.length)).sum + (TL.spl [d] 0 [] r).length = 0 + r.length + 1 := spl_sumN d r []
      show ((acc :: TL.spl [d] 0 [] r).map (·.length)).sum + (TL.spl [d] 0 [] r).length + 1 = _
      rw [List.map_cons, List.sum_cons, List.length_cons]
      omega
    · have e : TL.spl [d] 0 acc (c :: r) = TL.spl [d] 0 (acc ++ [c]) r := by
        show (if TL.pre [d] (c :: r) = true then _ else _) = _
        rw [if_neg h]
      rw [e, spl_sumN d r (acc ++ [c]), List.length_append, List.length_singleton, List.length_cons]
      omega
theorem cutV_from (xs : List V) (t : Nat) : cutV xs (some (t : Int)) none = xs.drop t := by
  unfold cutV
  rw [HT.sIx_none, HT.sIx_nat]
  rcases Nat.le_total t xs.length with h | h
  · rw [Nat.min_eq_left h, List.take_of_length_le (by rw [List.length_drop]; exact Nat.le_refl _)]
  · rw [Nat.min_eq_right h, List.drop_eq_nil_of_le (Nat.le_refl _), List.drop_eq_nil_of_le h, List.take_nil]
theorem ifR {c : TT} {a r : TS} {D : Ends} {σ : L2.St} {G : Hp} {b : Bool} (hc : ∀ Q' : Bool → Hp → Prop, Q' b G → c σ G Q') (hT : b = true → a { D with nx := r D } σ G) (hF : b = false → r D σ G) : tSeq (tIfS c a tNext) r D σ G := seqIfN hc hT hF
end Pm
/-! ### the line of a good rule: its length, and that the law finds no fault in it -/
namespace Pm
open PySem PySem.Spec PyProof.Rows L2 SX NdefX Tr
theorem writ_len {κ hue : Nat} {cs : List Cnd} {need : Int} (few : cs.length ≤ 8) (s3 : ∀ c ∈ cs, c.2.length ≤ 3) : (writT κ hue cs need).length ≤ 100 := by
  have a := joinL_len (headW κ hue need ++ (ordC cs).map (wordW κ))
  have ln : (headW κ hue need ++ (ordC cs).map (wordW κ)).length ≤ 10 := by
    rw [List.length_append, headW_len, List.length_map, (ordC_perm cs).length_eq]
    omega
  have b := sum_le 9 ((headW κ hue need ++ (ordC cs).map (wordW κ)).map (·.length)) fun x hx => by
    obtain ⟨y, hy, rfl⟩ := List.mem_map.mp hx
    rcases List.mem_append.mp hy with m | m
    · have h := numT_len need
      unfold headW at m
      generalize decide (kindL κ = [115, 97, 109, 101]) = b1 at m
      generalize decide (kindL κ = [97, 108, 108]) = b2 at m
      cases b1 <;> cases b2 <;>
      · rcases List.mem_cons.mp m with rfl | m
        · simp
        · rw [List.mem_singleton.mp m]
          simp
          try omega
    · obtain ⟨c, hc, rfl⟩ := List.mem_map.mp m
      have h3 := s3 c ((ordC_perm cs).mem_iff.mp hc)
      have h1 := pwT_len c.1
      have h2 := (asc_perm c.2).length_eq
      show (wordW κ c).length ≤ 9
      unfold wordW
      rw [List.length_append]
      cases decide (kindL κ = [115, 97, 109, 101])
      · show _ + ([58] ++ asc c.2).length ≤ 9
        rw [List.length_append]
        show _ + (1 + _) ≤ 9
        omega
      · show _ + 0 ≤ 9
        omega
  rw [List.length_map] at b
  have : (headW κ hue need ++ (ordC cs).map (wordW κ)).length * 9 ≤ 10 * 9 := Nat.mul_le_mul_right _ ln
  unfold writT
  omega
theorem splL_line {κ hue : Nat} {cs : List Cnd} {need : Int} (h : GoodR κ hue cs need) : TL.spl [32] 0 [] (lineT κ [hue] need cs) = wordsT κ [hue] need cs := by
  unfold lineT
  exact spl_join (words_ne h.k3) (words_no h)
theorem wide_same (cs : List Cnd) : (cs.map (fun c => c.1)).map wideC = cs.map fun c => wideC c.1 := by
  rw [List.map_map]
  rfl
theorem fault_good {κ hue : Nat} {cs : List Cnd} {need : Int} (h : GoodR κ hue cs need) : faultZ (lineT κ [hue] need cs) = -1 := by
  have n0 := h.n0
  have n1 := h.n1
  have few := h.few
  have tn := h.tiny.2
  have dg := h2_dig (κ := κ) (need := need) n0 (by omega)
  obtain ⟨_, nv, _⟩ := numT_ok tn
  unfold faultZ readF
  rw [splL_line h, words_is h.k3]
  dsimp only
  by_cases k2 : κ = 2
  · subst k2
    have r : readAll readP 1 (tailT 2 cs) = .inr (cs.map (fun c => c.1)) := readAll_good (by
      show (cs.map (fun c => pwT c.1)).map readP = _
      rw [List.map_map, List.map_map]
      exact List.map_congr_left fun c m => readP_pw (h.each_tiny m).1 (h.each_tiny m).2.1)
    rw [if_pos ⟨rfl, by rw [dg]; rfl⟩, r]
    dsimp only
    rw [wide_same, show h2T 2 need = numT need from rfl, nv, h.faultS]
  · have e1 : h1T κ hue = [hue] := if_neg k2
    have r : readAll readC 1 (tailT κ cs) = .inr cs := readAll_good (by
      unfold tailT
      rw [if_neg k2, List.map_map]
      exact List.map_congr_left fun c m => readC_cw (h.each_tiny m).1 (h.each_tiny m).2.1 (h.each_tiny m).2.2.1)
    have no : ¬ (h1T κ hue = sameL ∧ digB (h2T κ need) = true) := fun ⟨e, _⟩ => by
      rw [e1] at e
      cases e
    rw [if_neg no, r]
    by_cases k0 : κ = 0
    · subst k0
      rw [if_pos ⟨h1_stone h.hue k2, .inl rfl⟩]
      dsimp only
      rw [if_pos (show h2T 0 need = allL from rfl), e1, h.faultR]
    · have na : ¬ h2T κ need = allL := fun e => by
        have := numT_len need
        rw [← show h2T κ need = numT need from if_neg k0, e] at this
        exact absurd this (by decide)
      rw [if_pos ⟨h1_stone h.hue k2, .inr (by rw [dg]; exact decide_eq_true k0)⟩]
      dsimp only
      rw [if_neg na, e1, show h2T κ need = numT need from if_neg k0, nv, h.faultC]
theorem fault_writ {κ hue : Nat} {cs : List Cnd} {need : Int} (h : GoodR κ hue cs need) : faultZ (writT κ hue cs need) = -1 := by
  rw [writ_line h.k3]
  exact fault_good h.asc
end Pm
/-! ### the law's lists of rules -/
namespace Pm
open PySem PySem.Spec PyProof.Rows L2 SX NdefX Tr
def dR (R : RL) : PyData := .tuple [.str (S (kindL R.κ)), .str (S [R.hue]), .list (R.cs.map dN), .int R.need]
theorem toPys_rule : ∀ rs : List RL, toPys (rs.map RL.tree) = rs.map dR
  | [] => rfl
  | R :: rs => by
    rw [List.map_cons, List.map_cons, toPys, toPys_rule rs]
    have e : toPy (.lst (R.cs.map tripD)) = .list (R.cs.map dN) := by rw [toPy, toPys_trip]
    show PyData.tuple [_, _, toPy (.lst (R.cs.map tripD)), _] :: _ = _
    rw [e]
    rfl
theorem plains_rule : ∀ rs : List RL, plains (rs.map RL.tree) = true
  | [] => rfl
  | R :: rs => by
    rw [List.map_cons, plains, plains_rule rs, Bool.and_true]
    show plain (.tup [_, _, .lst (R.cs.map tripD), _]) = true
    rw [Tr.plain, plains, plains, plains, Tr.plain, plains_trip]
    rfl
theorem dRs_lay : ∀ {rs : List RL}, (∀ R ∈ rs, R.good) → PyData.canLayAll0 (rs.map dR) = true
  | [], _ => rfl
  | R :: rs, h => by
    have e1 := dRs_lay (rs := rs) fun q m => h q (List.mem_cons_of_mem _ m)
    have g := h R List.mem_cons_self
    have e2 : PyData.strOk (S (kindL R.κ)) = true := strOk_S fun c m => by
      unfold kindL at m
      split at m
      · simp only [List.mem_cons, List.not_mem_nil, or_false] at m
        omega
      · split at m
        · simp only [List.mem_cons, List.not_mem_nil, or_false] at m
          omega
        · simp only [List.mem_cons, List.not_mem_nil, or_false] at m
          omega
    have e3 : PyData.strOk (S [R.hue]) = true := strOk_S fun c m => by
      rw [List.mem_singleton.mp m]
      have := g.hue
      unfold Let at this
      omega
    have e4 : PyData.canLayAll0 (R.cs.map dN) = true := dNs_lay (GoodR.low g)
    simp [PyData.canLayAll0, dR, PyData.canLay0, e1, e2, e3, e4]
theorem dRs_depth : ∀ rs : List RL, PyData.depthAll (rs.map dR) ≤ 3
  | [] => by simp [PyData.depthAll]
  | R :: rs => by
    have := dRs_depth rs
    have d2 := dNs_depth R.cs
    simp [PyData.depthAll, dR, PyData.depth]
    omega
theorem dRs_shaped {rs : List RL} (h : ∀ R ∈ rs, R.good) : SeqAt.shaped (.list (rs.map dR)) = true := by
  have := dRs_depth rs
  simp [SeqAt.shaped, PyData.canLay0, dRs_lay h, PyData.depth]
  omega
theorem dRs_eqv : ∀ rs : List RL, PyData.eqv (.list (rs.map dR)) (.list []) = decide (rs = [])
  | [] => by simp [PyData.eqv, PyData.eqvAll]
  | R :: rs => by simp [PyData.eqv, PyData.eqvAll]
section
variable {P : Program} {w : World} {K : PySem.W.Frag} {mg : Str → Option Value} {base : Heap}
def spRules : Sp := fun vs H Q _ => ∃ b l z, vs = [.ref b, .str (S z)] ∧ BagL H b l ∧ Pal z ∧ ∀ p acc (rs : List RL) H', SameBut b H H' → BagL H' b l → p ≠ b → H p = none → (∀ R ∈ rs, R.good) → (∀ R ∈ rs, ∀ c ∈ R.cs, c.2.length ≤ 3) → rs.length ≤ 4 → H' p = some (.lst acc) → (∀ K, Reps K (wo p (mb b H')) acc (rs.map RL.tree)) → Q (.ref p) H'
abbrev nRules : List Str := ["_law_bag_here", "_law_palette_here", "_law_rules_here", "_law_k"]
theorem scRules : FnScope nRules ["_law_bag_here", "_law_palette_here"] (defScope lRules) := ⟨rfl, rfl, rfl, by decide +kernel, rfl, by decide +kernel, by decide +kernel⟩
theorem ok_rules {f t r : Addr} {fd td rd : FuncData} (F : Fun K "_law_rules" "_law_rules" lRules f fd) (T : Cl P w K mg base CX0 1 "_law_take" tkNames spTake t td) (Ru : Cl P w K mg base CX0 4 "_law_rule" ["_law_bag_here", "_law_palette_here"] spRule r rd) (L : LTxt K mg) : FnOk P w K mg base CX0 5 f fd ["_law_bag_here", "_law_palette_here"] spRules := by
  refine F.ok scRules (fun vs H Q E h => ?_) (fun cdv A outer s H vs Q E hr h => ?_)
  · obtain ⟨b, l, z, rfl, _⟩ := h
    rfl
  · obtain ⟨b, l, z, rfl, hb, hz, k⟩ := h
    have hr1 : Room 1 _ := hr.mono (by decide)
    refine ⟨_, pss_cons (ps_set (i := 2) scRules.nd rfl (.inl rfl) (pe_lst pa_nil)) (pss_cons (ps_for PassesOwn.never rfl (pi_range1 (by rfl) L.rng (pa_cons (pe_call T.ok hr1 (by rfl) T.gl T.kp T.bd .nil pass0 (pa_cons (pv 0) (pa_cons pe_int pa_nil))) pa_nil)) (pg_name (i := 3) scRules.nd rfl (.inl rfl))
        (pss_one (ps_expr (pe_bm PySem.F.plainAttrs_list PySem.F.slot_list_append PySem.F.type_list_append mt_append (pv 2) (pa_cons (pe_call Ru.ok hr (by rfl) Ru.gl Ru.kp Ru.bd .nil pass0 (pa_cons (pv 0) (pa_cons (pv 1) pa_nil))) pa_nil)))))
      (pss_one (ps_ret (pv 2)))), ?_⟩
    refine ⟨by decide, fun p np => ?_⟩
    have pb : p ≠ b := fun e => by
      obtain ⟨xs, e2⟩ := bag_b hb
      rw [e, e2] at np
      cases np
    refine ⟨_, rfl, b, l, 5, rfl, bag_upd hb np, by decide, by decide, fun n H1 n0 n1 u1 b1 => ?_⟩
    have hp1 : H1 p = some (.lst []) := (u1 p pb).trans upd_same
    refine ⟨n, rfl, by omega, by omega, for_range (lo := 0) (n := n.toNat) (fun i σ G => ∃ y acc, ∃ rs : List RL, σ = [some (.ref b), some (.str (S z)), some (.ref p), y] ∧ rs.length ≤ i ∧ (∀ R ∈ rs, RL.good R) ∧ (∀ R ∈ rs, ∀ c ∈ R.cs, c.2.length ≤ 3) ∧ SameBut b H G ∧ BagL G b l ∧ G p = some (.lst acc) ∧ ∀ K, Reps K (wo p (mb b G)) acc (rs.map RL.tree)) ⟨_, [], [], rfl, Nat.le_refl _, (fun _ m => nomatch m), (fun _ m => nomatch m), fun a o na e => ?_, b1, hp1, fun K => .nil⟩ ?_ ?_⟩
    · rw [u1 a na, upd_ne (ne_of_none e np)]
      exact e
    · rintro i σ G hi ⟨y, acc, rs, rfl, lr, good, s3, sG, bG, hp, rp⟩
      refine ⟨_, rfl, .inl ⟨rfl, _, SqL.of hp⟩, _, rfl, _, rfl, b, l, z, rfl, bG, hz, fun t pl κ hue ks need G2 s2 b2 hR tb plb pl0 h3 => ?_⟩
      have hp2 := s2 p _ pb hp
      have tp : t ≠ p := fun e => by
        have h1 := hR.at_
        rw [e, hp2] at h1
        cases h1
      have plp : pl ≠ p := fun e => by
        rw [e, hp] at pl0
        cases pl0
      have la : acc.length ≤ 4 := by
        rw [(rp K).length, List.length_map]
        omega
      have keep : ∀ {a : Addr} {o : HO}, G2 a = some o → a ≠ p → a ≠ b → wo p (mb b (upd G2 p (.lst (acc ++ [.ref t])))) a = some o := fun {a o} e n1 n2 => by
        rw [wo_ne n1, mb_ne n2, upd_ne n1]
        exact e
      have bp : b ≠ p := fun e => pb e.symm
      refine ⟨p, _, _, rfl, rfl, hp2, small1000 (by omega), _, acc ++ [.ref t], rs ++ [⟨κ, hue, ks.map (·.2), need⟩], rfl, ?_, fun R m => ?_, fun R m => ?_, fun a o na e => ?_, ?_, upd_same, fun K => ?_⟩
      · rw [List.length_append, List.length_singleton]
        omega
      · rcases List.mem_append.mp m with m | m
        · exact good R m
        · rw [List.mem_singleton.mp m]
          exact hR.good
      · rcases List.mem_append.mp m with m | m
        · exact s3 R m
        · rw [List.mem_singleton.mp m]
          intro c mc
          obtain ⟨q, hq, rfl⟩ := List.mem_map.mp mc
          exact h3 q hq
      · rw [upd_ne (ne_of_none e np)]
        exact s2 a o na (sG a o na e)
      · obtain ⟨ns, j, q, c, e1, e2, e3⟩ := b2
        refine ⟨ns, j, q, c, by rw [upd_ne bp]; exact e1, ?_, e3⟩
        rw [upd_ne fun e => ?_]
        · exact e2
        · obtain ⟨ns', j', q', c', f1, f2, f3⟩ := hb
          rw [e, np] at f2
          cases f2
      · rw [List.map_append]
        refine ((rp K).mono fun a o e => ?_).append (.cons ?_ .nil)
        · have n1 : a ≠ p := fun y => by rw [y, wo_x] at e; cases e
          rw [wo_ne n1] at e
          have n2 : a ≠ b := fun y => by rw [y, mb_b] at e; cases e
          rw [mb_ne n2] at e
          exact keep (s2 a o n2 e) n1 n2
        · refine RuleT.rep (keep hR.at_ tp tb) ⟨keep hR.cs.lst plp plb, fun q m => ?_⟩
          have hq := hR.cs.each q m
          refine keep hq (fun y => ?_) fun y => ?_
          · rw [y, hp2] at hq
            cases hq
          · obtain ⟨xs, e2⟩ := bag_b b2
            rw [y, e2] at hq
            cases hq
    · rintro σ G ⟨y, acc, rs, rfl, lr, good, s3, sG, bG, hp, rp⟩
      exact ⟨_, rfl, k p acc rs G sG bG pb np good s3 (by omega) hp rp⟩
end
end Pm
/-! ### _law_due -/
namespace Pm
open PySem PySem.Spec PyProof.Rows L2 SX NdefX Tr
def dueX (x : Nat ⊕ Nat) : Int := match x with
  | .inl i => (i : Int)
  | .inr n => 0 - (n : Int)
theorem lineZ_is (z : List Nat) : lineZ z = dueX (dueB z) := rfl
def dueFn : Unit → List Nat × Nat → Sum D Unit := fun s p => bif decide (19 < (p.2 : Int)) || !decide (faultZ p.1 = -1) then .inl (.int ((p.2 : Int) + 1)) else .inr s
theorem fault_ok (w : List Nat) : faultZ w = -1 ↔ ∃ x, okR w = some x := by
  unfold faultZ okR
  cases readF w with
  | inl p =>
    refine ⟨fun h => ?_, fun ⟨x, h⟩ => nomatch h⟩
    have h : (p : Int) = -1 := h
    omega
  | inr x => exact ⟨fun _ => ⟨x, rfl⟩, fun _ => rfl⟩
theorem run_due : ∀ (W : List (List Nat)) (j : Nat), j ≤ 20 → runF dueFn () (W.zipIdx j) = match readAll okR (1 + j) (W.take (20 - j)) with
    | .inl i => .inl (.int (i : Int))
    | .inr _ => if 20 - j < W.length then .inl (.int 21) else .inr ()
  | [], j, _ => by
    rw [List.take_nil]
    unfold readAll
    dsimp only
    rw [if_neg (by simp)]
    rfl
  | w :: W, j, hj => by
    rw [List.zipIdx_cons]
    unfold runF
    by_cases h : j = 20
    · subst h
      rw [show dueFn () (w, 20) = .inl (.int 21) from rfl]
      dsimp only
      rw [Nat.sub_self, List.take_zero]
      unfold readAll
      dsimp only
      rw [if_pos (by rw [List.length_cons]; omega)]
    · have e20 : 20 - j = (20 - (j + 1)) + 1 := by omega
      rw [e20, List.take_succ_cons]
      unfold readAll
      have ej : decide (19 < ((w, j) : List Nat × Nat).2) = false := decide_eq_false (by show ¬ 19 < j; omega)
      cases e : okR w with
      | none =>
        have nf : ¬ faultZ w = -1 := fun y => by
          obtain ⟨x, y⟩ := (fault_ok w).mp y
          rw [e] at y
          cases y
        have e3 : dueFn () (w, j) = .inl (.int ((j : Int) + 1)) := by
          unfold dueFn
          dsimp only
          rw [decide_eq_false nf, Bool.not_false, Bool.or_true]
          rfl
        rw [e3]
        dsimp only
        rw [show ((1 + j : Nat) : Int) = (j : Int) + 1 from by omega]
      | some x =>
        have e3 : dueFn () (w, j) = .inr () := by
          unfold dueFn
          dsimp only
          rw [decide_eq_true ((fault_ok w).mpr ⟨x, e⟩), decide_eq_false (by omega)]
          rfl
        rw [e3]
        dsimp only
        rw [run_due W (j + 1) (by omega), show 1 + (j + 1) = 1 + j + 1 from by omega]
        cases readAll okR (1 + j + 1) (W.take (20 - (j + 1))) with
        | inl i => rfl
        | inr cs =>
          dsimp only
          by_cases q : 20 - (j + 1) < W.length
          · rw [if_pos q, if_pos (by rw [List.length_cons]; omega)]
          · rw [if_neg q, if_neg (by rw [List.length_cons]; omega)]
section
variable {P : Program} {w : World} {K : PySem.W.Frag} {mg : Str → Option Value} {base : Heap}
def gDueT (ds : List D) (d : D) : Prop := ∃ z, z.length ≤ 10000 ∧ (∀ l ∈ linesZ z, l.length ≤ 900) ∧ ds = [.tx z] ∧ d = .int (lineZ z)
abbrev nDue2 : List Str := ["_law_text", "_law_lines", "_law_k"]
theorem scDue2 : FnScope nDue2 ["_law_text"] (defScope lDue) := ⟨rfl, rfl, rfl, by decide +kernel, rfl, by decide +kernel, by decide +kernel⟩
theorem ok_due {f g : Addr} {fd gd : FuncData} (F : Fun K "_law_due" "_law_due" lDue f fd) (L : LTxt K mg) (G : Cl P w K mg base CX0 3 "_law_line_fault" ["_law_line"] (spG K gLineF) g gd) : FnOk P w K mg base CX0 4 f fd ["_law_text"] (spG K gDueT) := by
  refine F.ok scDue2 (spG_len fun ds d ⟨_, _, _, e, _⟩ => by rw [e]; rfl) (fun cdv A outer s H vs Q E hr h => ?_)
  obtain ⟨ds, d, ⟨z, lz, ll, rfl, rfl⟩, h⟩ := h
  obtain ⟨B, tw⟩ := tree_wish (N := nDue2) h (by show 1 ≤ 3; decide)
  refine ⟨_, (show OkSs _ B _ [.d (.tx z), .no, .no] (.rt (.int (lineZ z))) from ?_), tw⟩
  by_cases ze : z = []
  · subst ze
    exact s_ifYes (o_op (fun p q => pt_cmpR op_eq p q (nomark _)) (ok_var (pv 0) rfl) (ok_tx (z := []) (by decide +kernel)) r2_eqS) (s_one (s_ret (ok_as ok_int (congrArg D.int (by show (0 : Int) = lineZ []; decide +kernel)))))
  refine s_ifNo (o_as (o_op (fun p q => pt_cmpR op_eq p q (nomark _)) (ok_var (pv 0) rfl) (ok_tx (z := []) (by decide +kernel)) r2_eqS) (decide_eq_false ze)) ?_
  refine s_cons (s_set (i := 1) (fun h => ps_set (i := 1) scDue2.nd rfl (.inl rfl) h) (t_bm (fun h g => pe_bm PySem.F.plainAttrs_str PySem.F.slot_str_split PySem.F.type_str_split mt_split h g) (ok_var (pv 0) rfl) (a_cons (ok_tx (z := [10]) (by decide +kernel)) a_nil) ty_str (rm_split (split_S (by decide) (by decide)) (by decide) (by omega)))) ?_
  have dB : lineZ z = dueX (match readAll okR 1 ((linesZ z).take 20) with
    | .inl i => .inl i
    | .inr _ => if 20 < (linesZ z).length then .inl 21 else .inr (linesZ z).length) := rfl
  have eW : TL.spl [10] 0 [] z = linesZ z := by
    unfold linesZ
    rw [if_neg ze]
  have few : (linesZ z).length ≤ 10001 := by
    have := spl_sumN 10 z []
    rw [eW] at this
    simp at this
    omega
  rw [eW, dB]
  generalize linesZ z = W at ll few
  show OkSs _ B _ [.d (.tx z), .d (.lst (W.map D.tx)), .no] _
  have lW : (W.map D.tx).length = W.length := List.length_map _
  have eK : (W.zipIdx.map fun p : List Nat × Nat => D.int (p.2 : Int)) = (List.range W.length).map fun k : Nat => D.int (k : Int) := by
    have e := congrArg (List.map fun k : Nat => D.int (k : Int)) (List.zipIdx_map_snd 0 W)
    rw [List.map_map] at e
    rw [List.range_eq_range']
    exact e
  refine s_forRR (vs := [2]) (fun s : Unit => ([.d (.tx z), .d (.lst (W.map D.tx)), .no] : Tr.Env)) dueFn W.zipIdx (fun p : List Nat × Nat => D.int (p.2 : Int)) () (fun s k => _) (fun h g => ps_for PassesOwn.never rfl h (pg_name (i := 2) scDue2.nd rfl (.inl rfl)) g)
    (by
      rw [eK]
      exact i_range1 (fun h => pi_range1 (by rfl) L.rng h) (a_cons (t_cb (fun h => pe_callB call_len_seq (by rfl) L.len PySem.boot_len h) (a_cons (ok_var (pv 1) rfl) a_nil) rc_len) a_nil) (by rw [lW]; omega) (by rw [lW]; omega)) (fun _ _ _ _ => (b_name (i := 2) (by decide))) (fun B i p s h1 h2 => ?_) (fun x h1 => ?_) (fun s h1 => ?_)
  · rw [List.getElem?_zipIdx] at h1
    cases e : W[i]? with
    | none => rw [e] at h1; cases h1
    | some wd =>
    rw [e] at h1
    cases h1
    have at2 : atI (W.map D.tx) ((0 + i : Nat) : Int) = some (.tx wd) := by
      refine atI_nat ?_
      rw [List.getElem?_map, Nat.zero_add, e]
      rfl
    have lw : wd.length ≤ 900 := ll wd (List.mem_of_getElem? e)
    dsimp only
    cases c : (decide (19 < ((0 + i : Nat) : Int)) || !decide (faultZ wd = -1)) with
    | true =>
      have e3 : dueFn s (wd, 0 + i) = .inl (.int (((0 + i : Nat) : Int) + 1)) := by
        unfold dueFn
        dsimp only
        rw [c]
        rfl
      rw [e3]
      exact s_ifYes (o_as (o_w (w_or (o_op (fun p q => pt_cmpR op_gt p q (nomark _)) (ok_var (pv 2) rfl) ok_int (r2_i fun _ => .bl _)) (fun _ => w_or1 (o_op (fun p q => pt_cmpR op_ne p q (nomark _)) (t_callG (fun h => pe_call G.ok hr (by rfl) G.gl G.kp G.bd .nil pass0 h) (a_cons (t_ixL (ok_var (pv 1) rfl) (ok_var (pv 2) rfl) at2 (fun _ _ => rfl)) a_nil) ⟨wd, lw, rfl, rfl⟩) (t_neg ok_int) r2_neI)))) c) (s_one (s_ret (t_add (ok_var (pv 2) rfl) ok_int)))
    | false =>
      have e3 : dueFn s (wd, 0 + i) = .inr s := by
        unfold dueFn
        dsimp only
        rw [c]
        rfl
      rw [e3]
      exact s_leO (s_ifNo (o_as (o_w (w_or (o_op (fun p q => pt_cmpR op_gt p q (nomark _)) (ok_var (pv 2) rfl) ok_int (r2_i fun _ => .bl _)) (fun _ => w_or1 (o_op (fun p q => pt_cmpR op_ne p q (nomark _)) (t_callG (fun h => pe_call G.ok hr (by rfl) G.gl G.kp G.bd .nil pass0 h) (a_cons (t_ixL (ok_var (pv 1) rfl) (ok_var (pv 2) rfl) at2 (fun _ _ => rfl)) a_nil) ⟨wd, lw, rfl, rfl⟩) (t_neg ok_int) r2_neI)))) c) s_nil) (.cons (.cons (.cons .refl (.inl rfl)) (.inr rfl)) (.inr rfl))
  · rw [run_due W 0 (by omega)] at h1
    show x = .int (dueX _)
    cases q : readAll okR 1 (W.take 20) with
    | inl i =>
      rw [show readAll okR (1 + 0) (W.take (20 - 0)) = _ from q] at h1
      cases h1
      rfl
    | inr as =>
      rw [show readAll okR (1 + 0) (W.take (20 - 0)) = _ from q] at h1
      dsimp only at h1 ⊢
      by_cases y : 20 < W.length
      · rw [if_pos y] at h1 ⊢
        cases h1
        rfl
      · rw [if_neg y] at h1
        cases h1
  · rw [run_due W 0 (by omega)] at h1
    show OkSs _ B _ _ (.rt (.int (dueX _)))
    cases q : readAll okR 1 (W.take 20) with
    | inl i =>
      rw [show readAll okR (1 + 0) (W.take (20 - 0)) = _ from q] at h1
      cases h1
    | inr as =>
      rw [show readAll okR (1 + 0) (W.take (20 - 0)) = _ from q] at h1
      dsimp only at h1 ⊢
      by_cases y : 20 < W.length
      · rw [if_pos y] at h1
        cases h1
      · rw [if_neg y]
        exact s_one (s_ret (ok_as (t_sub ok_int (t_cb (fun h => pe_callB call_len_seq (by rfl) L.len PySem.boot_len h) (a_cons (ok_var (pv 1) rfl) a_nil) rc_len)) (by rw [lW]; rfl)))
end
end Pm
namespace Pm
open PySem PySem.Spec PyProof.Rows L2 SX NdefX Tr
section
variable {P : Program} {w : World} {K : PySem.W.Frag} {mg : Str → Option Value} {base : Heap} {C CI CR CC CS PD : Addr} {E : XK} {vs : List V} {H : Hp} {Q : VK} {z : List Nat}
/-! promises without a heap's word, asked with trees -/
theorem as_stone (l : z.length ≤ 1000) (h : spT K [.tx z] (.bl (stoneB z)) vs H Q E) : spStone vs H Q E := by
  obtain ⟨F, fh, r, k⟩ := h
  cases r with
  | cons r1 r =>
    cases r; cases r1
    exact ⟨z, rfl, l, k _ F H (Gr.refl _ _) fh (.bl _)⟩
theorem as_asc (l : z.length ≤ 1000) (h : spT K [.tx z] (.tx (asc z)) vs H Q E) : spAsc vs H Q E := by
  obtain ⟨F, fh, r, k⟩ := h
  cases r with
  | cons r1 r =>
    cases r; cases r1
    exact ⟨z, rfl, l, fun H' s => k _ F H' ⟨Same.refl _, s, fun _ _ _ n => n⟩ (fh.trans s) (.str _)⟩
theorem as_check {cs : List Cnd} (few : cs.length ≤ 1000) (each : ∀ c ∈ cs, c.2.length ≤ 1000) (ok : fstBad 1 [] cs = none) (h : spT K [.lst (cs.map tripD)] .non vs H Q E) : spCheck CI vs H Q E := by
  obtain ⟨F, fh, r, k⟩ := h
  cases r with
  | cons r1 r =>
    cases r
    obtain ⟨l, ks, rfl, hc, rfl⟩ := lst_cnds r1
    refine ⟨l, ks, rfl, hc.same fh, by rwa [List.length_map] at few, fun q m => each q.2 (List.mem_map.mpr ⟨q, m, rfl⟩), (fun p e => by rw [ok] at e; cases e), fun _ H' s => k _ F H' ⟨Same.refl _, s, fun _ _ _ n => n⟩ (fh.trans s) .non⟩
theorem as_need {n c : Int} (ok : 0 ≤ n ∧ n ≤ c) (h : spT K [.int n, .int c] .non vs H Q E) : spNeed CI vs H Q E := by
  obtain ⟨F, fh, r, k⟩ := h
  cases r with
  | cons r1 r =>
    cases r with
    | cons r2 r =>
      cases r; cases r1; cases r2
      exact ⟨n, c, rfl, fun e => absurd ok e, fun _ => k _ F H (Gr.refl _ _) fh .non⟩
/-- a call whose def may raise, at arguments where it does not -/
theorem t_callS {X : Cx} {B : Hp × Hp} {Γ : Tr.Env} {e : Expr} {es : List Expr} {x : D} {sp : Sp} {Es : L2.St → XK} {ds : List D} {d : D} (ho : ∀ {t : TA}, PA X es t → PE X e (tCallS sp Es t)) (ha : OkA X B es Γ ds) (h : ∀ vs H Q E, spT X.K ds d vs H Q E → sp vs H Q E) : Ok X B e Γ d := PE.weak (ho ha) fun σ H Q ⟨F, w, k⟩ =>
  ⟨F, w, fun vs F1 H1 w1 g1 r1 => h vs H1 Q _ ⟨F1, w1.fh, r1, fun v F2 H2 g2 fh r2 => k v F2 H2 (w1.gr g2 fh) (g1.trans g2) r2⟩⟩
/-! the order of conditions -/
def gInOrd (ds : List D) (d : D) : Prop := ∃ cs : List Cnd, (cs.map (·.1)).Nodup ∧ cs.length ≤ 1000 ∧ (∀ c ∈ cs, c.2.length ≤ 1000) ∧ ds = [.lst (cs.map tripD)] ∧ d = .lst ((ordC (cs.map ascR)).map tripD)
theorem ok_inordT {f g : Addr} {fd gd : FuncData} (F : Fun K "_in_order" "_in_order" gInOrder f fd) (G : Cl P w K mg base CX0 1 "in_ascii_order" ["signs"] spAsc g gd) (R : STxt K mg) : FnOk P w K mg base CX0 2 f fd ["conditions"] (spG K gInOrd) := by
  refine F.ok scInOrder (spG_len fun ds d ⟨_, _, _, _, e, _⟩ => by rw [e]; rfl) (fun cdv A outer s H vs Q E hr h => ?_)
  obtain ⟨ds, d, ⟨cs, nd, few, each, rfl, rfl⟩, h⟩ := h
  obtain ⟨B, tw⟩ := tree_wish (N := nInOrder) h (by show 1 ≤ 5; decide)
  refine ⟨_, (show OkSs _ B _ [.d (.lst (cs.map tripD)), .no, .no, .no, .no] (.rt (.lst ((ordC (cs.map ascR)).map tripD))) from ?_), tw⟩
  have nd2 : (((cs.map ascR).map flC).map (·.1)).Nodup := by
    rw [List.map_map, List.map_map]
    have e : cs.map (((·.1) ∘ flC) ∘ ascR) = (cs.map (·.1)).map fl := by rw [List.map_map]; rfl
    rw [e]
    exact List.pairwise_map.mpr (nd.imp fun ne e => ne (Prod.ext (congrArg Prod.snd e) (congrArg Prod.fst e)))
  have lt : (tsort ((cs.map ascR).map flC)).length ≤ 90000 := by rw [(tsort_perm _).length_eq, List.length_map, List.length_map]; omega
  have e1 : (tsort ((cs.map ascR).map flC)).map (fun c => tripD (flC c)) = (ordC (cs.map ascR)).map tripD := (List.map_map (f := flC) (g := tripD)).symm
  have e2 : (cs.map fun c => tripD (flC (ascR c))) = ((cs.map ascR).map flC).map tripD := by rw [List.map_map, List.map_map]; rfl
  rw [← e1]
  refine (s_cons (s_set (i := 4) (fun h => ps_set (i := 4) scInOrder.nd rfl (.inl rfl) h) (t_cb (fun h => pe_callB cr_sortedTr (by rfl) R.srt (by decide +kernel) h) (a_cons (ok_as (t_lc (vs := [1, 2, 3]) (cs) tripD (fun k => _) (fun c => tripD (flC (ascR c))) (fun h => by exact pe_lc (own := [("dx", 1), ("dy", 2), ("signs", 3)]) (g := (gTup K 3 (gCons (gName 1) (gCons (gName 2) (gCons (gName 3) gNil))))) (tt := tYes) rfl scInOrder.nd h (blkOk_by (own := [("dx", 1), ("dy", 2), ("signs", 3)]) (N := nInOrder) (sc := defScope gInOrder) (by decide +kernel)) (fun _ _ _ _ _ => (pg_tup rfl (pgs_cons (pg_name (i := 1) scInOrder.nd rfl (.inl rfl)) (pgs_cons (pg_name (i := 2) scInOrder.nd rfl (.inl rfl)) (pgs_cons (pg_name (i := 3) scInOrder.nd rfl (.inl rfl)) pgs_nil))))) (fun _ _ _ _ _ => pts_nil) (fun _ _ _ _ _ => (pe_el fun B k m => (t_tup (a_cons (ok_var (pv 2) rfl) (a_cons (ok_var (pv 1) rfl) (a_cons (t_call (fun h => pe_call G.ok hr (by rfl) G.gl G.kp G.bd .nil pass0 h) (a_cons (ok_var (pv 3) rfl) a_nil) (fun _ _ _ q => as_asc (each _ (by assumption)) q)) a_nil))) (by show 3 ≤ 100000; decide))))) (i_list (ok_var (pv 0) rfl)) (fun _ _ _ => (b_tup (b_cons (b_name (i := 1) (by decide)) (b_cons (b_name (i := 2) (by decide)) (b_cons (b_name (i := 3) (by decide)) b_nil))))) (by omega)) (congrArg D.lst e2)) a_nil) (rc_sortTr nd2)))
    (s_one (s_ret (t_lc (vs := [2, 1, 3]) (tsort ((cs.map ascR).map flC)) tripD (fun k => _) (fun c => tripD (flC c)) (fun h => by exact pe_lc (own := [("dy", 2), ("dx", 1), ("signs", 3)]) (g := (gTup K 3 (gCons (gName 2) (gCons (gName 1) (gCons (gName 3) gNil))))) (tt := tYes) rfl scInOrder.nd h (blkOk_by (own := [("dy", 2), ("dx", 1), ("signs", 3)]) (N := nInOrder) (sc := defScope gInOrder) (by decide +kernel)) (fun _ _ _ _ _ => (pg_tup rfl (pgs_cons (pg_name (i := 2) scInOrder.nd rfl (.inl rfl)) (pgs_cons (pg_name (i := 1) scInOrder.nd rfl (.inl rfl)) (pgs_cons (pg_name (i := 3) scInOrder.nd rfl (.inl rfl)) pgs_nil))))) (fun _ _ _ _ _ => pts_nil) (fun _ _ _ _ _ => (pe_el fun B k m => (t_tup (a_cons (ok_var (pv 1) rfl) (a_cons (ok_var (pv 2) rfl) (a_cons (ok_var (pv 3) rfl) a_nil))) (by show 3 ≤ 100000; decide))))) (i_list (ok_var (pv 4) rfl)) (fun _ _ _ => (b_tup (b_cons (b_name (i := 2) (by decide)) (b_cons (b_name (i := 1) (by decide)) (b_cons (b_name (i := 3) (by decide)) b_nil))))) lt))))
/-! constructors -/
def msC (cs : List Cnd) : List Cnd := ordC (cs.map ascR)
def gRuleI (ds : List D) (fs : List (Str × D)) : Prop := ∃ st cs, stoneB st = true ∧ st.length ≤ 1000 ∧ (cs.map (·.1)).Nodup ∧ cs.length ≤ 1000 ∧ (∀ c ∈ cs, c.2.length ≤ 1000) ∧ fstBad 1 [] cs = none ∧ ds = [.tx st, .lst (cs.map tripD)] ∧ fs = [(("stone" : Str), D.tx st), ("_conditions", .lst ((msC cs).map tripD))]
theorem spI_len {G : List D → List (Str × D) → Prop} {n : Nat} (h : ∀ ds fs, G ds fs → ds.length + 1 = n) : ∀ vs H Q E, spI K C G vs H Q E → vs.length = n := fun vs H Q E ⟨ds, fs, g, x, us, dx, F, e, _, _, _, r, _⟩ => by rw [e, List.length_cons, r.length, h ds fs g]
theorem ok_ruleI {f i c o : Addr} {fd di dc do_ : FuncData} (F : Fun K "__init__" "Rule.__init__" cRuleInit f fd) (Is : Cl P w K mg base CX0 1 "is_stone" ["sign"] spStone i di) (Ck : Cl P w K mg base (L2.CX P w) 3 "_check_conditions" ["conditions"] (spCheck CI) c dc) (Io : Cl P w K mg base CX0 2 "_in_order" ["conditions"] (spG K gInOrd) o do_) (T : RCls K C) : FnOk P w K mg base CX0 4 f fd ["self", "stone", "conditions"] (spI K C gRuleI) := by
  refine F.ok scRuleInit (spI_len fun ds fs ⟨_, _, _, _, _, _, _, _, e, _⟩ => by rw [e]; rfl) (fun cdv A outer s H vs Q E hr h => ?_)
  obtain ⟨ds, fs, ⟨st, cs, hst, lst, nd, few, each, ok, rfl, rfl⟩, x, us, dx, F0, ev, hx, nx, fh, r, k⟩ := h
  have hr1 : Room 1 _ := hr.mono (by decide)
  have hr2 : Room 2 _ := hr.mono (by decide)
  have tw := init_wish (N := ["self", "stone", "conditions"]) (Γf := [.own (.o x dx C [("stone", .tx st), ("_conditions", .lst ((msC cs).map tripD))]), .d (.tx st), .d (.lst (cs.map tripD))]) ev hx nx fh r (by show 3 ≤ 3; decide) k rfl
  refine ⟨_, (show OkSs _ _ _ [.own (.o x dx C []), .d (.tx st), .d (.lst (cs.map tripD))] (.nx _) from ?_), tw⟩
  refine (s_ifNo (o_as (o_not (o_val (t_call (fun h => pe_call Is.ok hr1 (by rfl) Is.gl Is.kp Is.bd .nil pass0 h) (a_cons (ok_var (pv 1) rfl) a_nil) (fun _ _ _ q => as_stone lst q)))) (by rw [hst]; rfl)) (s_cons (s_expr (fun h => ps_expr h) (t_callS (x := .non) (Es := fun _ => E0) (fun h => pe_callS (E := fun _ => E0) Ck.ok hr (by rfl) Ck.gl Ck.kp Ck.bd (fun σ pins H s e s' I c => passF pins σ H s e s' I c) h) (a_cons (ok_var (pv 2) rfl) a_nil) (fun _ _ _ _ q => as_check few each ok q))) (s_cons (s_fld (i := 0) (fun h => ps_fld (pv 0) h rfl) rfl (ok_var (pv 1) rfl) T.cl T.nS (by show 0 < 1000; decide)) (s_cons (s_fld (i := 0) (fun h => ps_fld (pv 0) h rfl) rfl (t_callG (fun h => pe_call Io.ok hr2 (by rfl) Io.gl Io.kp Io.bd .nil pass0 h) (a_cons (ok_var (pv 2) rfl) a_nil) ⟨cs, nd, few, each, rfl, rfl⟩) T.cl T.nC (by show 1 < 1000; decide)) s_nil))))
def gSameI (ds : List D) (fs : List (Str × D)) : Prop := ∃ (cs : List Cnd) (n : Int), (cs.map (·.1)).Nodup ∧ cs.length ≤ 1000 ∧ fstBad 1 [] (cs.map fun c => wideC c.1) = none ∧ 0 ≤ n ∧ n ≤ (cs.length : Int) ∧ ds = [.lst (cs.map fun c => .tup [.int c.1.1, .int c.1.2]), .int n] ∧ fs = [(("stone" : Str), D.tx []), ("need", .int n), ("_conditions", .lst ((msC (cs.map fun c => wideC c.1)).map tripD))]
theorem ok_sameI {f c o d : Addr} {fd dc do_ dd : FuncData} (F : Fun K "__init__" "SameRule.__init__" cSameRuleInit f fd) (Ck : Cl P w K mg base (L2.CX P w) 3 "_check_conditions" ["conditions"] (spCheck CI) c dc) (Io : Cl P w K mg base CX0 2 "_in_order" ["conditions"] (spG K gInOrd) o do_) (Nd : Cl P w K mg base (L2.CX P w) 3 "_check_need" ["need", "count"] (spNeed CI) d dd) (L : LTxt K mg) (Tx : PTxt K mg PD) (T : RCls K C) :
    FnOk P w K mg base CX0 4 f fd ["self", "places", "need"] (spI K C gSameI) := by
  refine F.ok scSameInit (spI_len fun ds fs ⟨_, _, _, _, _, _, _, e, _⟩ => by rw [e]; rfl) (fun cdv A outer s H vs Q E hr h => ?_)
  obtain ⟨ds, fs, ⟨cs, n, nd, few, ok, n0, n1, rfl, rfl⟩, x, us, dx, F0, ev, hx, nx, fh, r, k⟩ := h
  have hr2 : Room 2 _ := hr.mono (by decide)
  obtain ⟨uS, hS, rS⟩ := Tx.stones
  have eS : alphaS = S alphaL := alphaL_S.symm
  let ws := cs.map fun c => wideC c.1
  have tw := init_wish (N := nSameInit) (Γf := [.own (.o x dx C [("stone", .tx []), ("need", .int n), ("_conditions", .lst ((msC (cs.map fun c => wideC c.1)).map tripD))]), .d (.lst (cs.map fun c => .tup [.int c.1.1, .int c.1.2])), .d (.int n), .d (.lst (cs.map fun c => tripD (wideC c.1))), .no, .no]) ev hx nx fh r (by show 3 ≤ 6; decide) k rfl
  refine ⟨_, (show OkSs _ _ _ [.own (.o x dx C []), .d (.lst (cs.map fun c => .tup [.int c.1.1, .int c.1.2])), .d (.int n), .no, .no, .no] (.nx _) from ?_), tw⟩
  have ew : (cs.map fun c => tripD (wideC c.1)) = (cs.map fun c => wideC c.1).map tripD := by rw [List.map_map]; rfl
  have few2 : (cs.map fun c => wideC c.1).length ≤ 1000 := by rw [List.length_map]; exact few
  have each2 : ∀ c ∈ cs.map (fun c => wideC c.1), c.2.length ≤ 1000 := fun c m => by
    obtain ⟨d, _, rfl⟩ := List.mem_map.mp m
    show alphaL.length ≤ 1000
    rw [alphaL_len]
    decide
  have nd2 : ((cs.map fun c => wideC c.1).map (·.1)).Nodup := by
    rw [List.map_map]
    exact nd
  have gi : gInOrd [.lst (cs.map fun c => tripD (wideC c.1))] (.lst ((msC (cs.map fun c => wideC c.1)).map tripD)) := ⟨_, nd2, few2, each2, by rw [ew], rfl⟩
  have ck : ∀ vs H Q E, spT K [.lst (cs.map fun c => tripD (wideC c.1))] .non vs H Q E → spCheck CI vs H Q E := fun vs H Q E q => as_check few2 each2 ok (by rw [← ew]; exact q)
  refine (s_cons (s_setLc (i := 3) (vs := [4, 5]) (cs) (fun c => .tup [.int c.1.1, .int c.1.2]) (fun k => _) (fun c => tripD (wideC c.1)) (fun h => by exact ps_setLc (i := 3) (own := [("dx", 4), ("dy", 5)]) (g := (gTup K 2 (gCons (gName 4) (gCons (gName 5) gNil)))) (tt := tYes) rfl scSameInit.nd rfl rfl (sw_true rfl rfl rfl (by decide +kernel)) h (blkOk_by (own := [("dx", 4), ("dy", 5)]) (N := nSameInit) (sc := defScope cSameRuleInit) (by decide +kernel)) (fun _ _ _ _ _ => (pg_tup rfl (pgs_cons (pg_name (i := 4) scSameInit.nd rfl (.inl rfl)) (pgs_cons (pg_name (i := 5) scSameInit.nd rfl (.inl rfl)) pgs_nil)))) (fun _ _ _ _ _ => pts_nil) (fun _ _ _ _ _ => (pe_el fun _ _ _ => (t_tup (a_cons (ok_var (pv 4) rfl) (a_cons (ok_var (pv 5) rfl) (a_cons (ok_c (pe_glob (v := .str alphaS) (by rfl) hS rS) (fun _ _ => by rw [eS]; exact .str _)) a_nil))) (by show 3 ≤ 100000; decide))))) (i_list (ok_var (pv 1) rfl)) (fun _ _ _ => (b_tup (b_cons (b_name (i := 4) (by decide)) (b_cons (b_name (i := 5) (by decide)) b_nil)))) (by omega)) (s_cons (s_expr (fun h => ps_expr h) (t_callS (x := .non) (Es := fun _ => E0) (fun h => pe_callS (E := fun _ => E0) Ck.ok hr (by rfl) Ck.gl Ck.kp Ck.bd (fun σ pins H s e s' I c => passF pins σ H s e s' I c) h) (a_cons (ok_var (pv 3) rfl) a_nil) (ck))) (s_cons (s_expr (fun h => ps_expr h) (t_callS (x := .non) (Es := fun _ => E0) (fun h => pe_callS (E := fun _ => E0) Nd.ok hr (by rfl) Nd.gl Nd.kp Nd.bd (fun σ pins H s e s' I c => passF pins σ H s e s' I c) h) (a_cons (ok_var (pv 2) rfl) (a_cons (t_cb (fun h => pe_callB call_len_seq (by rfl) L.len PySem.boot_len h) (a_cons (ok_var (pv 3) rfl) a_nil) rc_len) a_nil)) (fun _ _ _ _ q => as_need ⟨n0, by rw [List.length_map]; exact n1⟩ q))) (s_cons (s_fld (i := 0) (fun h => ps_fld (pv 0) h rfl) rfl (ok_tx (z := []) (by decide +kernel)) T.cl T.nS (by show 0 < 1000; decide)) (s_cons (s_fld (i := 0) (fun h => ps_fld (pv 0) h rfl) rfl (ok_var (pv 2) rfl) T.cl T.nN (by show 1 < 1000; decide)) (s_cons (s_fld (i := 0) (fun h => ps_fld (pv 0) h rfl) rfl (t_callG (fun h => pe_call Io.ok hr2 (by rfl) Io.gl Io.kp Io.bd .nil pass0 h) (a_cons (ok_var (pv 3) rfl) a_nil) gi) T.cl T.nC (by show 2 < 1000; decide)) s_nil))))))
end
end Pm
namespace Pm
open PySem PySem.Spec PyProof.Rows L2 SX NdefX Tr
section
variable {P : Program} {w : World} {K : PySem.W.Frag} {mg : Str → Option Value} {base : Heap} {C CI CR CC CS PD : Addr} {E : XK} {vs : List V} {H : Hp} {Q : VK} {z : List Nat}
def gCountI (ds : List D) (fs : List (Str × D)) : Prop := ∃ (st : List Nat) (cs : List Cnd) (n : Int), stoneB st = true ∧ st.length ≤ 1000 ∧ (cs.map (·.1)).Nodup ∧ cs.length ≤ 1000 ∧ (∀ c ∈ cs, c.2.length ≤ 1000) ∧ fstBad 1 [] cs = none ∧ 0 ≤ n ∧ n ≤ (cs.length : Int) ∧ ds = [.tx st, .lst (cs.map tripD), .int n] ∧ fs = [(("stone" : Str), D.tx st), ("_conditions", .lst ((msC cs).map tripD)), ("need", .int n)]
theorem ok_countI {f cc cda g c : Addr} {fd gd dc : FuncData} (F : FunS P K "__init__" "CountRule.__init__" cCountRuleInit C f cc cda fd) (gm : mg "super" = none) (hM : SupM K C C "__init__" g) (G : FnOk P w K mg base CX0 4 g gd ["self", "stone", "conditions"] (spI K C gRuleI)) (bG : Binds K gd ["self", "stone", "conditions"] [])
    (Nd : Cl P w K mg base (L2.CX P w) 3 "_check_need" ["need", "count"] (spNeed CI) c dc) (L : LTxt K mg) (T : RCls K C) : FnOk P w K mg base CX0 5 f fd ["self", "stone", "conditions", "need"] (spI K C gCountI) := by
  refine supfn_of (CX := CX0) (CXf := CX0) (k := 4) (j := 4) F scCountInit gm rfl rfl rfl rfl hM G bG (spI_len fun ds fs ⟨_, _, _, _, _, _, _, _, _, _, _, e, _⟩ => by rw [e]; rfl) (fun A outer s H vs Q E hr h => ?_)
  obtain ⟨ds, fs, ⟨st, cs, n, hst, lst, nd, few, each, ok, n0, n1, rfl, rfl⟩, x, us, dx, F0, rfl, hx, nx, fh, r, k⟩ := h
  have hr3 : Room 3 _ := hr.mono (by decide)
  cases r with
  | @cons v1 _ us1 _ r1 r =>
  cases r with
  | @cons v2 _ us2 _ r2 r =>
  cases r with
  | @cons v3 _ us3 _ r3 r =>
  cases r
  refine ⟨_, _, x, dx, [], E0, rfl, hx, hr, fun σ => (fun pins H s e s' I c => c.elim), pa_cons (pv 1) (pa_cons (pv 2) pa_nil), (PSs.exi fun B : Hp × Hp => (by show OkSs _ B _ [.own (.o x dx C [(("stone" : Str), D.tx st), ("_conditions", .lst ((msC cs).map tripD))]), .d (.tx st), .d (.lst (cs.map tripD)), .d (.int n), .no] (.nx (List.set ([.own (.o x dx C [(("stone" : Str), D.tx st), ("_conditions", .lst ((msC cs).map tripD))]), .d (.tx st), .d (.lst (cs.map tripD)), .d (.int n), .no] : List Sl) 0 (.own (.o x dx C (putD "need" (.int n) [(("stone" : Str), D.tx st), ("_conditions", .lst ((msC cs).map tripD))]))))); exact (s_cons (s_expr (fun h => ps_expr h) (t_callS (x := .non) (Es := fun _ => E0) (fun h => pe_callS (E := fun _ => E0) Nd.ok hr3 (by rfl) Nd.gl Nd.kp Nd.bd (fun σ pins H s e s' I c => passF pins σ H s e s' I c) h) (a_cons (ok_var (pv 3) rfl) (a_cons (t_cb (fun h => pe_callB call_len_seq (by rfl) L.len PySem.boot_len h) (a_cons (ok_var (pv 2) rfl) a_nil) rc_len) a_nil)) (fun _ _ _ _ q => as_need ⟨n0, by rw [List.length_map]; exact n1⟩ q))) (s_one (s_fld (i := 0) (fun h => ps_fld (pv 0) h rfl) rfl (ok_var (pv 3) rfl) T.cl T.nN (by show 2 < 1000; decide)))))), ?_⟩
  refine ⟨_, rfl, _, rfl, [.tx st, .lst (cs.map tripD)], _, ⟨st, cs, hst, lst, nd, few, each, ok, rfl, rfl⟩, x, [v1, v2], dx, F0, rfl, hx, nx, fh, .cons r1 (.cons r2 .nil), fun F1 H1 sF sH ex fh1 ⟨fv, hx1, hr1⟩ => ?_⟩
  have nx1 : F1 x = none := ex _ _ hx nx
  refine ⟨(F1, wo x H1), F1, ⟨Same.refl _, wo_same x H1, fh1, fun _ _ _ h => h, rfl, fun j o s h1 h2 => ?_, fun j m p xs ys ne h1 h2 h3 h4 => ?_⟩, fun σ' F' H' w' => ?_⟩
  · match j, h2 with
    | 0, h2 => cases h2; cases h1; exact ⟨x, _, rfl, wo_x x H1, nx1, hx1, .o hr1⟩
    | 1, h2 => cases h2; cases h1; exact ⟨_, rfl, r1.mono sF⟩
    | 2, h2 => cases h2; cases h1; exact ⟨_, rfl, r2.mono sF⟩
    | 3, h2 => cases h2; cases h1; exact ⟨_, rfl, r3.mono sF⟩
    | 4, h2 => cases h2; trivial
    | _ + 5, h2 => cases h2
  · match j, m, h3, h4 with
    | 0, 0, _, _ => exact ne rfl
    | 0, 1, _, h4 => cases h4
    | 0, 2, _, h4 => cases h4
    | 0, 3, _, h4 => cases h4
    | 0, 4, _, h4 => cases h4
    | 0, _ + 5, _, h4 => cases h4
    | 1, _, h3, _ => cases h3
    | 2, _, h3, _ => cases h3
    | 3, _, h3, _ => cases h3
    | 4, _, h3, _ => cases h3
    | _ + 5, _, h3, _ => cases h3
  · obtain ⟨p, ho, e, h0, hF, hp, q⟩ := w'.own (i := 0) rfl
    obtain ⟨rfl, fv2, rfl, qf⟩ := q.obj
    refine k F' H' (sF.trans w'.ff) (fun a o n h => w'.hh a o (by show wo p H1 a = some o; rw [wo_ne n]; exact sH a o n h)) (fun a o h m => ?_) w'.fh ⟨fv2, hp, qf⟩
    by_cases y : a = p
    · rw [y]
      exact hF
    · exact w'.ex a o (by show wo p H1 a = some o; rw [wo_ne y]; exact sH a o y h) (ex a o h m)
end
end Pm
/-! ### _law_made: a rule out of a drawn one -/
namespace Pm
open PySem PySem.Spec PyProof.Rows L2 SX NdefX Tr
theorem msC_is {cs ds : List Cnd} {f : Cnd → Cnd} (nd : (cs.map (·.1)).Nodup) (hf : ∀ c, (f c).1 = c.1) (e : ds.map ascR = cs.map f) : msC ds = (ordC cs).map f := by
  have p : (ordC (ds.map ascR)).Perm ((ordC cs).map f) := by
    refine (ordC_perm _).trans ?_
    rw [e]
    exact ((ordC_perm cs).map f).symm
  refine ord_uniq p ?_ (ordC_ord _) (ord_map f hf (ordC_ord cs))
  rw [List.map_map, show ((fun c : Cnd => c.1) ∘ f) = fun c => c.1 from funext hf]
  exact (((ordC_perm cs).map (·.1)).nodup_iff).mpr nd
section
variable {P : Program} {w : World} {K : PySem.W.Frag} {mg : Str → Option Value} {base : Heap} {CR CC CS : Addr}
def gMade (CR CC CS : Addr) (ds : List D) (d : D) : Prop := ∃ R : RL, R.good ∧ ds = [R.tree] ∧ d = bornD CR CC CS R.κ R.hue R.cs R.need
abbrev nMade : List Str := ["_law_rule_here", "_law_part"]
theorem scMade : FnScope nMade ["_law_rule_here"] (defScope lMade) := ⟨rfl, rfl, rfl, by decide +kernel, rfl, by decide +kernel, by decide +kernel⟩
theorem ok_madeT {f fR fC fS : Addr} {fd dR dC dS : FuncData} (F : Fun K "_law_made" "_law_made" lMade f fd) (L : LTxt K mg) (Gt : GTx mg CR CC CS) (MR : Mk K CR fR) (OR : FnOk P w K mg base CX0 4 fR dR ["self", "stone", "conditions"] (spI K CR gRuleI)) (bR : Binds K dR ["self", "stone", "conditions"] [])
    (MC : Mk K CC fC) (OC : FnOk P w K mg base CX0 5 fC dC ["self", "stone", "conditions", "need"] (spI K CC gCountI)) (bC : Binds K dC ["self", "stone", "conditions", "need"] []) (MS : Mk K CS fS) (OS : FnOk P w K mg base CX0 4 fS dS ["self", "places", "need"] (spI K CS gSameI)) (bS : Binds K dS ["self", "places", "need"] []) :
    FnOk P w K mg base CX0 7 f fd ["_law_rule_here"] (spG K (gMade CR CC CS)) := by
  refine F.ok scMade (spG_len fun ds d ⟨_, _, e, _⟩ => by rw [e]; rfl) (fun cdv A outer s H vs Q E hr h => ?_)
  obtain ⟨ds, d, ⟨⟨κ, hue, cs, need⟩, good, rfl, rfl⟩, h⟩ := h
  obtain ⟨B, tw⟩ := tree_wish (N := nMade) h (by show 1 ≤ 2; decide)
  refine ⟨_, (show OkSs _ B _ [.d (ruleD κ hue cs need), .no] (.rt (bornD CR CC CS κ hue cs need)) from ?_), tw⟩
  have hr5 : Room 5 _ := hr.mono (by decide)
  have k3 : κ < 3 := GoodR.k3 good
  have nd : (cs.map (·.1)).Nodup := GoodR.nd good
  have few : cs.length ≤ 8 := GoodR.few good
  have few9 : cs.length ≤ 90000 := by omega
  have each : ∀ c ∈ cs, c.2.length ≤ 1000 := fun c m => by
    have := (GoodR.each_tiny good m).2.2.2
    omega
  have st1 : stoneB [hue] = true := stone_good (GoodR.hue good)
  have n0 : 0 ≤ need := GoodR.n0 good
  have n1 : need ≤ (cs.length : Int) := GoodR.n1 good
  have fst := GoodR.fst good
  by_cases k0 : κ = 0
  · subst k0
    have e : D.obj CR [(("stone" : Str), D.tx [hue]), ("_conditions", .lst ((msC cs).map tripD))] = bornD CR CC CS 0 hue cs need := by
      rw [msC_is (f := ascC) nd (fun _ => rfl) rfl]
      rfl
    refine (s_ifYes (o_as (o_op (fun p q => pt_cmpR op_eq p q (nomark _)) (t_ixT (ok_var (pv 0) rfl) ok_int rfl (fun _ _ => rfl)) (ok_tx (z := [97, 108, 108]) (by decide +kernel)) r2_eqS) (by decide)) (s_one (s_ret (ok_as (t_makeG (E := E0) (fun h => pe_make MR OR hr5 (by rfl) Gt.gR bR .nil pass0 h) (a_cons (t_ixT (ok_var (pv 0) rfl) ok_int rfl (fun _ _ => rfl)) (a_cons (t_cb (fun h => pe_callTy call_list_of (by rfl) L.lst (by decide +kernel) h) (a_cons (t_ixT (ok_var (pv 0) rfl) ok_int rfl (fun _ _ => rfl)) a_nil) rc_list) a_nil)) ⟨[hue], cs, st1, by show 1 ≤ 1000; decide, nd, by omega, each, fst, rfl, rfl⟩) e))))
  · by_cases k1 : κ = 1
    · subst k1
      have e : D.obj CC [(("stone" : Str), D.tx [hue]), ("_conditions", .lst ((msC cs).map tripD)), ("need", .int need)] = bornD CR CC CS 1 hue cs need := by
        rw [msC_is (f := ascC) nd (fun _ => rfl) rfl]
        rfl
      refine (s_ifNo (o_as (o_op (fun p q => pt_cmpR op_eq p q (nomark _)) (t_ixT (ok_var (pv 0) rfl) ok_int rfl (fun _ _ => rfl)) (ok_tx (z := [97, 108, 108]) (by decide +kernel)) r2_eqS) (by decide)) (s_ifYes (o_as (o_op (fun p q => pt_cmpR op_eq p q (nomark _)) (t_ixT (ok_var (pv 0) rfl) ok_int rfl (fun _ _ => rfl)) (ok_tx (z := [99, 111, 117, 110, 116]) (by decide +kernel)) r2_eqS) (by decide)) (s_one (s_ret (ok_as (t_makeG (E := E0) (fun h => pe_make MC OC hr (by rfl) Gt.gC bC .nil pass0 h) (a_cons (t_ixT (ok_var (pv 0) rfl) ok_int rfl (fun _ _ => rfl)) (a_cons (t_cb (fun h => pe_callTy call_list_of (by rfl) L.lst (by decide +kernel) h) (a_cons (t_ixT (ok_var (pv 0) rfl) ok_int rfl (fun _ _ => rfl)) a_nil) rc_list) (a_cons (t_ixT (ok_var (pv 0) rfl) ok_int rfl (fun _ _ => rfl)) a_nil))) ⟨[hue], cs, need, st1, by show 1 ≤ 1000; decide, nd, by omega, each, fst, n0, n1, rfl, rfl⟩) e)))))
    · have k2 : κ = 2 := by omega
      subst k2
      have e : D.obj CS [(("stone" : Str), D.tx []), ("need", .int need), ("_conditions", .lst ((msC (cs.map fun c => wideC c.1)).map tripD))] = bornD CR CC CS 2 hue cs need := by
        rw [msC_is (cs := cs) (f := fun c => ascC (wideC c.1)) nd (fun _ => rfl) (by rw [List.map_map]; rfl)]
        rfl
      have fs : fstBad 1 [] (cs.map fun c => wideC c.1) = none := by
        refine fst_good ?_ (fun _ _ m => nomatch m) (fun c m => ?_) (by rw [List.length_map]; omega)
        · rw [List.map_map]
          exact nd
        · obtain ⟨d, hd, rfl⟩ := List.mem_map.mp m
          exact ⟨(GoodR.each good d hd).1, by show diffB 35 alphaL = true; decide +kernel⟩
      refine (s_ifNo (o_as (o_op (fun p q => pt_cmpR op_eq p q (nomark _)) (t_ixT (ok_var (pv 0) rfl) ok_int rfl (fun _ _ => rfl)) (ok_tx (z := [97, 108, 108]) (by decide +kernel)) r2_eqS) (by decide)) (s_ifNo (o_as (o_op (fun p q => pt_cmpR op_eq p q (nomark _)) (t_ixT (ok_var (pv 0) rfl) ok_int rfl (fun _ _ => rfl)) (ok_tx (z := [99, 111, 117, 110, 116]) (by decide +kernel)) r2_eqS) (by decide)) (s_one (s_ret (ok_as (t_makeG (E := E0) (fun h => pe_make MS OS hr5 (by rfl) Gt.gS bS .nil pass0 h) (a_cons (t_lc (vs := [1]) (cs) tripD (fun k => _) (fun c => .tup [.int c.1.1, .int c.1.2]) (fun h => by exact pe_lc (own := [("_law_part", 1)]) (g := (gName 1)) (tt := tYes) rfl scMade.nd h (blkOk_by (own := [("_law_part", 1)]) (N := nMade) (sc := defScope lMade) (by decide +kernel)) (fun _ _ _ _ _ => (pg_name (i := 1) scMade.nd rfl (.inl rfl))) (fun _ _ _ _ _ => pts_nil) (fun _ _ _ _ _ => (pe_el fun _ _ _ => (t_tup (a_cons (t_ixT (ok_var (pv 1) rfl) ok_int rfl (fun _ _ => rfl)) (a_cons (t_ixT (ok_var (pv 1) rfl) ok_int rfl (fun _ _ => rfl)) a_nil)) (by show 2 ≤ 100000; decide))))) (i_list (t_ixT (ok_var (pv 0) rfl) ok_int rfl (fun _ _ => rfl))) (fun _ _ _ => (b_name (i := 1) (by decide))) few9) (a_cons (t_ixT (ok_var (pv 0) rfl) ok_int rfl (fun _ _ => rfl)) a_nil)) ⟨cs, need, nd, by omega, fs, n0, n1, rfl, rfl⟩) e)))))
end
end Pm
/-! ### _law_made_of -/
namespace Pm
open PySem PySem.Spec PyProof.Rows L2 SX NdefX Tr
section
variable {P : Program} {w : World} {K : PySem.W.Frag} {mg : Str → Option Value} {base : Heap} {CI CE CV CB CR CC CS : Addr}
def madeZ (n : Nat) : Int := if 20 < n then 21 else 0 - (n : Int)
def gMadeOf (ds : List D) (d : D) : Prop := ∃ rs : List RL, (∀ R ∈ rs, R.good) ∧ rs.length ≤ 24 ∧ ds = [.lst (rs.map RL.tree)] ∧ d = .int (madeZ rs.length)
abbrev nMadeOf : List Str := ["_law_rules_here", "_law_rule_here", "e"]
theorem scMadeOf : FnScope nMadeOf ["_law_rules_here"] (defScope lMadeOf) := ⟨rfl, rfl, rfl, by decide +kernel, rfl, by decide +kernel, by decide +kernel⟩
def born (CR CC CS : Addr) (R : RL) : D := bornD CR CC CS R.κ R.hue R.cs R.need
def tbMo (K : PySem.W.Frag) (CB CV : Addr) (B : Hp × Hp) (Γ : Tr.Env) (d : D) (W : WX) : TS := tRet (tOp (rI0 fun i j => .int (i - j)) (tC (.int 0)) (tCB (rLenH CB) (tCons (tMakeS CB (spBookI K CB CV) (WE W) (tCons (tEv K B Γ d) tNil)) tNil)))
theorem ok_madeof {f fI fL g : Addr} {fd dI dL gd : FuncData} (F : Fun K "_law_made_of" "_law_made_of" lMadeOf f fd) (L : LTxt K mg) (Y : BTx2 K mg CV CE CI) (Md : Cl P w K mg base CX0 7 "_law_made" ["_law_rule_here"] (spG K (gMade CR CC CS)) g gd)
    (gB : mg "Book" = some (.ref CB)) (MI : Mk K CB fI) (OI : FnOk P w K mg base (L2.CX P w) 3 fI dI ["self", "rules"] (spBookI K CB CV)) (bI : Binds K dI ["self", "rules"] []) (OL : FnOk P w K mg base CX0 1 fL dL ["self"] (spLenH CB)) (bL : Binds K dL ["self"] []) (mL : OwnF K CB "__len__" fL) :
    FnOk P w K mg base CX0 8 f fd ["_law_rules_here"] (spG K gMadeOf) := by
  refine F.ok scMadeOf (spG_len fun ds d ⟨_, _, _, e, _⟩ => by rw [e]; rfl) (fun cdv A outer s H vs Q E hr h => ?_)
  obtain ⟨ds, d, ⟨rs, good, few, rfl, rfl⟩, F0, fh, r, k⟩ := h
  obtain ⟨v0, rfl⟩ : ∃ v0, vs = [v0] := by
    cases r with
    | cons r1 r =>
      cases r
      exact ⟨_, rfl⟩
  have hr2 : Room 2 _ := hr.mono (by decide)
  have hr4 : Room 4 _ := hr.mono (by decide)
  have W0 := wd_start (N := nMadeOf) fh r (by rw [r.length]; show 1 ≤ 3; decide)
  refine ⟨_, pss_one (ps_try_as (i := 2) (tb := tbMo K CB CV (F0, H) [.d (.lst (rs.map RL.tree)), .no, .no] (.lst (rs.map (born CR CC CS)))) (ts := fun a cls d => tRet (tErrX K a cls d "line" (tVar 2))) (Wout := fun _ _ _ _ => False) rfl rfl scMadeOf.nd rfl rfl ⟨rfl, by decide, .inl Y.gV⟩ takes0
      (fun W pn xe tk _ => pss_one (ps_ret (by exact pe_op op_sub pe_int (pe_callB (call_lenH OL hr2 bL mL) (by rfl) L.len PySem.boot_len (by exact pa_cons (pe_makeS (E := WE W) MI OI hr4 (by rfl) gB bI (fun σ => passAt tk σ) (by exact pa_cons (by exact t_lc (vs := [1]) rs RL.tree (fun R => [.d (.lst (rs.map RL.tree)), .d R.tree, .no]) (born CR CC CS) (fun h => by exact pe_lc (own := [("_law_rule_here", 1)]) (g := (gName 1)) (tt := tYes) rfl scMadeOf.nd h (blkOk_by (own := [("_law_rule_here", 1)]) (N := nMadeOf) (sc := defScope lMadeOf) (by decide +kernel)) (fun _ _ _ _ _ => (pg_name (i := 1) scMadeOf.nd rfl (.inl rfl))) (fun _ _ _ _ _ => pts_nil) (fun _ _ _ _ _ => (pe_el fun B R m => (t_callG (fun h => pe_call Md.ok hr (by rfl) Md.gl Md.kp Md.bd .nil pass0 h) (a_cons (ok_var (pv 1) rfl) a_nil) ⟨R, good R m, rfl, rfl⟩)))) (i_list (ok_var (pv 0) rfl)) (fun _ _ _ => (b_name (i := 1) (by decide))) (by omega)) pa_nil)) pa_nil)))))
      (fun a oe cls d pn hz hf => pss_one (ps_ret (by exact (pe_errX hz hf (pv 2)))))), ?_⟩
  refine ⟨F0, W0, fun v F' H' w' g' rv xa dx nx nd ne => ?_⟩
  have e1 : (rs.map (born CR CC CS)).length = rs.length := List.length_map _
  cases rv with
  | @lst p us _ hp ru =>
  have lu : us.length = rs.length := by rw [ru.length, e1]
  have sm := made_same (C := CB) nx nd
  have done : ∀ G, Same H G → Q (.int (madeZ rs.length)) G := fun G s => k _ F0 G ⟨Same.refl _, s, fun _ _ _ n => n⟩ (fh.trans s) (.int _)
  unfold madeZ at done
  by_cases big : 20 < rs.length
  · rw [if_pos big] at done
    refine .inr ⟨xa, p, us, rfl, sm _ _ (w'.fh _ _ hp), by omega, fun d G nd2 hd sG => ?_⟩
    refine ⟨true, Y.te, fun _ ea na => ?_, fun z => nomatch z⟩
    exact ⟨_, rfl, CV, d, _, .int 21, rfl, rfl, rfl, Y.er, Y.nL, hd, rfl, done _ (w'.hh.trans (sm.trans sG))⟩
  · rw [if_neg big] at done
    refine .inl ⟨[.lst (rs.map (born CR CC CS))], [(("_rules" : Str), .lst (rs.map (born CR CC CS)))], ⟨_, by rw [e1]; omega, rfl, rfl⟩, xa, [.ref p], dx, F', rfl, upd_same, w'.fh.free nx, w'.fh.trans sm, .cons (.lst hp ru) .nil, fun F2 H2 sF keep free fh2 ⟨fv, hx, fr⟩ => ⟨rfl, ?_⟩⟩
    cases fr with
    | cons q1 q2 =>
    cases q2
    cases q1 with
    | @lst l us2 _ hl ru2 =>
    have l2 : us2.length = rs.length := by rw [ru2.length, e1]
    refine ⟨xa, dx, l, us2, rfl, hx, fh2 _ _ hl, by omega, fun H3 s3 => ⟨_, _, rfl, rfl, ?_⟩⟩
    rw [l2]
    exact done _ (w'.hh.trans fun a o e => s3 _ _ (keep a o (ne_of_none e nx) (sm _ _ e)))
end
end Pm
/-! ### facts about lines -/
namespace Pm
open PySem PySem.Spec PyProof.Rows L2 SX NdefX Tr
/-- a line of the law's lists -/
structure LineP (n : Nat) (w : List Nat) : Prop where
  len : w.length ≤ n
  no : 10 ∉ w
  low : ∀ c ∈ w, c < 256
theorem LineP.mono {n m : Nat} {w : List Nat} (h : LineP n w) (l : n ≤ m) : LineP m w := ⟨Nat.le_trans h.len l, h.no, h.low⟩
theorem words_noB {κ hue : Nat} {cs : List Cnd} {need : Int} (h : GoodR κ hue cs need) {x : Nat} (hx : 200 ≤ x) : ∀ z ∈ wordsT κ [hue] need cs, x ∉ z := by
  obtain ⟨_, tn⟩ := h.tiny
  have nd : ¬ Dig x := fun y => by unfold Dig at y; omega
  intro z m
  rw [words_is h.k3] at m
  rcases List.mem_cons.mp m with rfl | m
  · unfold h1T
    split
    · intro y
      have y : x ∈ [115, 97, 109, 101] := y
      simp only [List.mem_cons, List.not_mem_nil, or_false] at y
      omega
    · intro y
      have e := List.mem_singleton.mp y
      have := h.hue
      rw [← e] at this
      unfold Let at this
      omega
  · rcases List.mem_cons.mp m with rfl | m
    · unfold h2T
      split
      · intro y
        have y : x ∈ [97, 108, 108] := y
        simp only [List.mem_cons, List.not_mem_nil, or_false] at y
        omega
      · exact numT_no tn (by omega) nd
    · unfold tailT at m
      split at m
      · obtain ⟨c, hc, rfl⟩ := List.mem_map.mp m
        obtain ⟨a, b, _⟩ := h.each_tiny hc
        exact pwT_no a b (by omega) nd (by omega)
      · obtain ⟨c, hc, rfl⟩ := List.mem_map.mp m
        obtain ⟨a, b, _⟩ := h.each_tiny hc
        rw [cwT_is]
        intro y
        rcases List.mem_append.mp y with y | y
        · exact pwT_no a b (by omega) nd (by omega) y
        · rcases List.mem_cons.mp y with e | y
          · omega
          · rcases (h.each c hc).2.all x y with e | e
            · omega
            · unfold Let at e
              omega
theorem RL.low {R : RL} (h : R.good) : ∀ c ∈ R.line, c < 256 := fun c m => by
  refine Decidable.byContradiction fun n => ?_
  rw [RL.line_is h] at m
  exact not_join (by omega) (words_noB h.asc (by omega)) m
theorem RL.lineP {R : RL} (h : R.good) (s3 : ∀ c ∈ R.cs, c.2.length ≤ 3) : LineP 100 R.line := ⟨writ_len h.few s3, RL.line_no h, RL.low h⟩
theorem linesZ_join {n : Nat} {ws : List (List Nat)} (h : ∀ w ∈ ws, LineP n w) : ∀ l ∈ linesZ (TL.joinL [10] ws), l.length ≤ n := fun l m => by
  unfold linesZ at m
  split at m
  · cases m
  · rename_i ne
    rw [spl_join (fun e => ne (by rw [e]; rfl)) fun z mz => (h z mz).no] at m
    exact (h l m).len
theorem join_snoc : ∀ {ws : List (List Nat)}, ws ≠ [] → TL.joinL [10] (ws ++ [[]]) = TL.joinL [10] ws ++ [10]
  | [], n => absurd rfl n
  | [w], _ => by
    show w ++ ([10] ++ []) = w ++ [10]
    rfl
  | w :: x :: r, _ => by
    have ih := join_snoc (ws := x :: r) (fun e => nomatch e)
    show w ++ ([10] ++ TL.joinL [10] (x :: r ++ [[]])) = (w ++ ([10] ++ TL.joinL [10] (x :: r))) ++ [10]
    rw [ih, List.append_assoc, List.append_assoc]
theorem linesZ_more {n : Nat} {ws : List (List Nat)} (h : ∀ w ∈ ws, LineP n w) : ∀ l ∈ linesZ (TL.joinL [10] ws ++ [10]), l.length ≤ n := by
  have e0 : LineP n [] := ⟨Nat.zero_le _, List.not_mem_nil, fun c m => nomatch m⟩
  by_cases e : ws = []
  · subst e
    exact linesZ_join (ws := [[], []]) fun w m => by
      simp only [List.mem_cons, List.not_mem_nil, or_false, or_self] at m
      subst m
      exact e0
  · rw [← join_snoc e]
    exact linesZ_join fun w m => by
      rcases List.mem_append.mp m with m | m
      · exact h w m
      · rw [List.mem_singleton.mp m]
        exact e0
theorem all_some {ws : List (List Nat)} (h : ∀ w ∈ ws, ∃ x, okR w = some x) : ∃ as : List (Nat × List Nat × List Cnd × Int), ws.map okR = as.map some := by
  induction ws with
  | nil => exact ⟨[], rfl⟩
  | cons w ws ih =>
    obtain ⟨as, e⟩ := ih fun v m => h v (List.mem_cons_of_mem _ m)
    obtain ⟨x, ex⟩ := h w List.mem_cons_self
    exact ⟨x :: as, by rw [List.map_cons, List.map_cons, e, ex]⟩
/-- the text of good rules -/
theorem lineZ_book {rs : List RL} (good : ∀ R ∈ rs, R.good) : lineZ (TL.joinL [10] (rs.map RL.line)) = madeZ rs.length := by
  have eW : linesZ (TL.joinL [10] (rs.map RL.line)) = rs.map RL.line := by
    unfold linesZ
    by_cases e : rs = []
    · subst e
      rfl
    · rw [if_neg (show ¬ TL.joinL [10] (rs.map RL.line) = [] from fun y => e ((book_ne good).mp y)), spl_join (fun y => e (List.map_eq_nil_iff.mp y)) fun z m => by
        obtain ⟨R, hR, rfl⟩ := List.mem_map.mp m
        exact RL.line_no (good R hR)]
  obtain ⟨as, ea⟩ := all_some (ws := (rs.map RL.line).take 20) fun w m => by
    obtain ⟨R, hR, rfl⟩ := List.mem_map.mp (List.mem_of_mem_take m)
    exact (fault_ok _).mp (fault_writ (good R hR))
  rw [lineZ_is]
  unfold dueB
  rw [eW, readAll_good ea]
  dsimp only
  rw [List.length_map]
  unfold madeZ
  by_cases big : 20 < rs.length
  · rw [if_pos big, if_pos big]
    rfl
  · rw [if_neg big, if_neg big]
    rfl
theorem join_few {n : Nat} {ws : List (List Nat)} (h : ∀ w ∈ ws, LineP n w) : (TL.joinL [10] ws).length ≤ ws.length * (n + 1) := joinL_le 10 n ws fun z m => (h z m).len
end Pm
/-! ### the law -/
namespace Pm
open PySem PySem.Spec PyProof.Rows L2 SX NdefX Tr
def txD (ws : List (List Nat)) : List PyData := ws.map fun w => .str (S w)
theorem toPys_tx : ∀ ws : List (List Nat), toPys (ws.map D.tx) = txD ws
  | [] => rfl
  | w :: ws => by
    rw [List.map_cons, toPys, toPys_tx ws]
    rfl
theorem plains_tx : ∀ ws : List (List Nat), plains (ws.map D.tx) = true
  | [] => rfl
  | w :: ws => by
    rw [List.map_cons, plains, plains_tx ws]
    rfl
theorem txD_lay : ∀ {ws : List (List Nat)}, (∀ w ∈ ws, ∀ c ∈ w, c < 256) → PyData.canLayAll0 (txD ws) = true
  | [], _ => rfl
  | w :: ws, h => by
    have e1 := txD_lay (ws := ws) fun q m => h q (List.mem_cons_of_mem _ m)
    have e2 : PyData.strOk (S w) = true := strOk_S (h w List.mem_cons_self)
    have e3 : txD (w :: ws) = .str (S w) :: txD ws := rfl
    rw [e3]
    simp [PyData.canLayAll0, PyData.canLay0, e1, e2]
theorem txD_depth : ∀ ws : List (List Nat), PyData.depthAll (txD ws) ≤ 1
  | [] => by simp [PyData.depthAll, txD]
  | w :: ws => by
    have := txD_depth ws
    have e3 : txD (w :: ws) = .str (S w) :: txD ws := rfl
    rw [e3]
    simp [PyData.depthAll, PyData.depth]
    omega
theorem txD_shaped {ws : List (List Nat)} (h : ∀ w ∈ ws, ∀ c ∈ w, c < 256) : SeqAt.shaped (.list (txD ws)) = true := by
  have := txD_depth ws
  simp [SeqAt.shaped, PyData.canLay0, txD_lay h, PyData.depth]
  omega
theorem txD_eqv : ∀ ws : List (List Nat), PyData.eqv (.list (txD ws)) (.list []) = decide (ws = [])
  | [] => by simp [PyData.eqv, PyData.eqvAll, txD]
  | w :: ws => by
    have e3 : txD (w :: ws) = .str (S w) :: txD ws := rfl
    rw [e3]
    simp [PyData.eqv, PyData.eqvAll]
theorem reps_tx {K : PySem.W.Frag} {F : Hp} : ∀ ws : List (List Nat), Reps K F (txtV ws) (ws.map D.tx)
  | [] => .nil
  | w :: ws => .cons (.str _) (reps_tx ws)
section
variable {P : Program} {w : World} {K : PySem.W.Frag} {mg : Str → Option Value} {base : Heap}
theorem dp_txs {H : Hp} {a : Addr} {ws : List (List Nat)} (h : H a = some (.lst (txtV ws))) : Dp K H (.ref a) (.list (txD ws)) := by
  have e : toPy (.lst (ws.map D.tx)) = .list (txD ws) := by rw [toPy, toPys_tx]
  rw [← e]
  exact dp_rep (Same.refl H) (.lst h (reps_tx ws)) (by rw [Tr.plain]; exact plains_tx ws)
def sgnL : List Nat := [45, 48, 52, 44, 58, 97, 98, 35, 32]
theorem sgn_S : ("-04,:ab# " : Str) = S sgnL := by decide +kernel
theorem sgn_low : ∀ c ∈ sgnL, c < 256 ∧ c ≠ 10 := by decide
def spLaw (K : PySem.W.Frag) : Sp := fun vs H Q _ => ∃ (a : Addr) (ns : List Int), vs = [.ref a] ∧ SqL K H a (ns.map V.int) ∧ ns.length ≤ 63 ∧ ∀ H', Q (.bl true) H'
abbrev nLaw : List Str := ["_law_script", "_law_bag_here", "_law_palette_here", "_law_rules_here", "_law_due_here", "_law_lines", "_law_rule_here", "_law_k", "_law_at", "_law_line", "_law_spot", "_law_text"]
theorem scLaw : FnScope nLaw ["_law_script"] (defScope lLaw) := ⟨rfl, rfl, rfl, by decide +kernel, rfl, by decide +kernel, by decide +kernel⟩
theorem ok_law {f a1 a2 a3 a4 a5 a6 a7 a8 : Addr} {fd b1 b2 b3 b4 b5 b6 b7 b8 : FuncData} (F : Fun K "law" "law" lLaw f fd) (L : LTxt K mg)
    (cBag : Cl P w K mg base CX0 1 "_law_bag" ["_law_script"] (spBag K) a1 b1) (cPal : Cl P w K mg base CX0 2 "_law_palette" ["_law_bag_here"] spPal a2 b2) (cRu : Cl P w K mg base CX0 5 "_law_rules" ["_law_bag_here", "_law_palette_here"] spRules a3 b3) (cTake : Cl P w K mg base CX0 1 "_law_take" tkNames spTake a4 b4)
    (cWt : Cl P w K mg base CX0 2 "_law_written" ["_law_rule_here"] (spG K gWritten) a5 b5) (cMo : Cl P w K mg base CX0 8 "_law_made_of" ["_law_rules_here"] (spG K gMadeOf) a6 b6) (cLo : Cl P w K mg base CX0 10 "_law_line_of" ["_law_text"] spLineOf a7 b7) (cDu : Cl P w K mg base CX0 4 "_law_due" ["_law_text"] (spG K gDueT) a8 b8) :
    FnOk P w K mg base CX0 11 f fd ["_law_script"] (spLaw K) := by
  refine F.ok scLaw (fun vs H Q E h => ?_) (fun cdv A outer s H vs Q E hr h => ?_)
  · obtain ⟨a, ns, rfl, _⟩ := h
    rfl
  obtain ⟨a, ns, rfl, ha, few, k⟩ := h
  have hr1 : Room 1 _ := hr.mono (by decide)
  have hr2 : Room 2 _ := hr.mono (by decide)
  have hr4 : Room 4 _ := hr.mono (by decide)
  have hr5 : Room 5 _ := hr.mono (by decide)
  have hr8 : Room 8 _ := hr.mono (by decide)
  refine ⟨_, (pss_cons (ps_set (i := 1) scLaw.nd rfl (.inl rfl) (pe_call cBag.ok hr1 (by rfl) cBag.gl cBag.kp cBag.bd .nil pass0 (pa_cons (pv 0) pa_nil)))
    (pss_cons (ps_set (i := 2) scLaw.nd rfl (.inl rfl) (pe_call cPal.ok hr2 (by rfl) cPal.gl cPal.kp cPal.bd .nil pass0 (pa_cons (pv 1) pa_nil)))
    (pss_cons (ps_set (i := 3) scLaw.nd rfl (.inl rfl) (pe_call cRu.ok hr5 (by rfl) cRu.gl cRu.kp cRu.bd .nil pass0 (pa_cons (pv 1) (pa_cons (pv 2) pa_nil))))
    (C8.pss_cut (ps_if (PW.pt (pw_and (pt_cmpR op_eq (pe_call cTake.ok hr1 (by rfl) cTake.gl cTake.kp cTake.bd .nil pass0 (pa_cons (pv 1) (pa_cons pe_int pa_nil))) pe_int (nomark _)) (pw_and1 (pt_cmpR (op_neD hr.units) (pv 3) (pe_lst pa_nil) (nomark _)))))
        (pss_one (ps_set (i := 3) scLaw.nd rfl (.inl rfl) (pe_slice sl_list (pe_op op_rep (pv 3) pe_int) po_none (po_some (pe_op op_add pe_int (pe_call cTake.ok hr1 (by rfl) cTake.gl cTake.kp cTake.bd .nil pass0 (pa_cons (pv 1) (pa_cons pe_int pa_nil)))))))) pss_nil)
    (pss_cons (ps_set (i := 4) scLaw.nd rfl (.inl rfl) (pe_op op_sub pe_int (pe_callB call_len_seq (by rfl) L.len PySem.boot_len (pa_cons (pv 3) pa_nil))))
    (C8.pss_cut (ps_if (pt_cmpR op_gt (pe_callB call_len_seq (by rfl) L.len PySem.boot_len (pa_cons (pv 3) pa_nil)) pe_int (nomark _)) (pss_one (ps_set (i := 4) scLaw.nd rfl (.inl rfl) pe_int)) pss_nil)
    (pss_cons (ps_if (pt_cmpR op_ne (pe_call cMo.ok hr8 (by rfl) cMo.gl cMo.kp cMo.bd .nil pass0 (pa_cons (pv 3) pa_nil)) (pv 4) (nomark _)) (pss_one (ps_ret pe_bl)) pss_nil)
    (pss_cons (ps_setLc (i := 5) (own := [("_law_rule_here", 6)]) (g := gName 6) (tt := tYes) rfl scLaw.nd rfl rfl (sw_true rfl rfl rfl (by decide +kernel)) (pi_list (pv 3)) (blkOk_by (own := [("_law_rule_here", 6)]) (N := nLaw) (sc := defScope lLaw) (by decide +kernel)) (fun _ _ _ _ _ => pg_name (i := 6) scLaw.nd rfl (.inl rfl)) (fun _ _ _ _ _ => pts_nil) (fun _ _ _ _ _ => by exact pe_call cWt.ok hr2 (by rfl) cWt.gl cWt.kp cWt.bd .nil pass0 (pa_cons (pv 6) pa_nil)))
    (pss_cons (ps_if (pt_cmpR op_ne (pe_call cLo.ok hr (by rfl) cLo.gl cLo.kp cLo.bd .nil pass0 (pa_cons (pe_bm PySem.F.plainAttrs_str PySem.F.slot_str_join PySem.F.type_str_join mt_join pe_str (pa_cons (pv 5) pa_nil)) pa_nil)) (pv 4) (nomark _)) (pss_one (ps_ret pe_bl)) pss_nil)
    (pss_cons (ps_for PassesOwn.never rfl (pi_range1 (by rfl) L.rng (pa_cons (pe_call cTake.ok hr1 (by rfl) cTake.gl cTake.kp cTake.bd .nil pass0 (pa_cons (pv 1) (pa_cons pe_int pa_nil))) pa_nil)) (pg_name (i := 7) scLaw.nd rfl (.inl rfl))
      (pss_one (ps_if (pt_cmpR (op_neD hr.units) (pv 5) (pe_lst pa_nil) (nomark _))
        (pss_cons (ps_set (i := 8) scLaw.nd rfl (.inl rfl) (pe_call cTake.ok hr1 (by rfl) cTake.gl cTake.kp cTake.bd .nil pass0 (pa_cons (pv 1) (pa_cons (pe_callB call_len_seq (by rfl) L.len PySem.boot_len (pa_cons (pv 5) pa_nil)) pa_nil))))
        (pss_cons (ps_set (i := 9) scLaw.nd rfl (.inl rfl) (pe_ix ix_list (pv 5) (pv 8) (fun _ _ => rfl)))
        (pss_cons (ps_set (i := 10) scLaw.nd rfl (.inl rfl) (pe_call cTake.ok hr1 (by rfl) cTake.gl cTake.kp cTake.bd .nil pass0 (pa_cons (pv 1) (pa_cons (pe_op op_add (pe_callB call_len_str (by rfl) L.len PySem.boot_len (pa_cons (pv 9) pa_nil)) pe_int) pa_nil))))
        (pss_cons (ps_asg (pe_op op_add_str (pe_op op_add_str (pe_slice C8.sl_txt (pv 9) po_none (po_some (pv 10))) (pe_ix ix_str pe_str (pe_call cTake.ok hr1 (by rfl) cTake.gl cTake.kp cTake.bd .nil pass0 (pa_cons (pv 1) (pa_cons pe_int pa_nil))) (fun _ _ => rfl))) (pe_slice C8.sl_txt (pv 9) (po_some (pe_op op_add (pv 10) pe_int)) po_none)) (pg_sub (pv 5) (pv 8) set_list))
        (pss_one (ps_if (pt_cmpR op_eq (pe_call cTake.ok hr1 (by rfl) cTake.gl cTake.kp cTake.bd .nil pass0 (pa_cons (pv 1) (pa_cons pe_int pa_nil))) pe_int (nomark _)) (pss_one (ps_asg pe_str (pg_sub (pv 5) (pv 8) set_list))) pss_nil)))))) pss_nil)))
    (pss_cons (ps_set (i := 11) scLaw.nd rfl (.inl rfl) (pe_bm PySem.F.plainAttrs_str PySem.F.slot_str_join PySem.F.type_str_join mt_join pe_str (pa_cons (pv 5) pa_nil)))
    (pss_one (ps_ret (pe_and (pe_cmpR op_eq (pe_call cLo.ok hr (by rfl) cLo.gl cLo.kp cLo.bd .nil pass0 (pa_cons (pv 11) pa_nil)) (pe_call cDu.ok hr4 (by rfl) cDu.gl cDu.kp cDu.bd .nil pass0 (pa_cons (pv 11) pa_nil)) (nomark _))
      (pe_one (pe_cmpR op_eq (pe_call cLo.ok hr (by rfl) cLo.gl cLo.kp cLo.bd .nil pass0 (pa_cons (pe_op op_add_str (pv 11) pe_str) pa_nil)) (pe_call cDu.ok hr4 (by rfl) cDu.gl cDu.kp cDu.bd .nil pass0 (pa_cons (pe_op op_add_str (pv 11) pe_str) pa_nil)) (nomark _))))))))))))))))), ?_⟩
  refine ⟨_, rfl, a, ns, rfl, ha, few, fun b l H1 s1 nb hb => ?_⟩
  refine ⟨_, rfl, b, l, rfl, hb, fun zp H2 hz u2 b2 => ?_⟩
  refine ⟨_, rfl, _, rfl, b, l, zp, rfl, b2, hz, fun p0 acc0 rs0 H3 s3 b3 pb0 np0 good0 sg0 lr0 hp0 rp0 => ?_⟩
  refine ⟨fun σ G => ∃ p acc, ∃ rs : List RL, σ = [some (.ref a), some (.ref b), some (.str (S zp)), some (.ref p), none, none, none, none, none, none, none, none] ∧ (∀ R ∈ rs, RL.good R) ∧ (∀ R ∈ rs, ∀ c ∈ R.cs, c.2.length ≤ 3) ∧ rs.length ≤ 24 ∧ BagL G b l ∧ p ≠ b ∧ G p = some (.lst acc) ∧ ∀ K, Reps K (wo p (mb b G)) acc (rs.map RL.tree), ?_, ?_⟩
  · have mono : ∀ {G' : Hp}, SameBut b H3 G' → G' p0 = some (.lst acc0) ∧ ∀ K, Reps K (wo p0 (mb b G')) acc0 (rs0.map RL.tree) := fun {G'} sb => ⟨sb p0 _ pb0 hp0, fun K => (rp0 K).mono fun a o e => by
      have n1 : a ≠ p0 := fun y => by rw [y, wo_x] at e; cases e
      rw [wo_ne n1] at e ⊢
      have n2 : a ≠ b := fun y => by rw [y, mb_b] at e; cases e
      rw [mb_ne n2] at e ⊢
      exact sb a o n2 e⟩
    refine ⟨_, rfl, b, l, 3, rfl, b3, by decide, by decide, fun n3 H4 _ _ u4 b4 => ⟨rfl, _, rfl, ite2 (fun _ => ?_) (fun _ => ?_)⟩⟩
    · refine ⟨_, rfl, by decide, fun q nq => ?_⟩
      have s5 := sb_trans (but_same u4) (same_sb (same_upd (o := .lst []) nq))
      have b5 := bag_upd (o := .lst []) b4 nq
      have y5 : upd H4 q (.lst []) q = some (.lst []) := upd_same
      generalize upd H4 q (.lst []) = H5 at s5 b5 y5
      obtain ⟨hp5, rp5⟩ := mono s5
      have ep : toPy (.lst (rs0.map RL.tree)) = .list (rs0.map dR) := by rw [toPy, toPys_rule]
      have d1 : Dp K H5 (.ref p0) (.list (rs0.map dR)) := by
        rw [← ep]
        exact dp_rep (mb_same b H5) (.lst (mb_of hp5 pb0) ((rp5 K).mono (wo_same p0 _))) (by rw [Tr.plain]; exact plains_rule rs0)
      refine ⟨_, _, d1, .lst (SqL.of y5) .nil, dRs_shaped good0, rfl, _, rfl, ?_⟩
      rw [dRs_eqv]
      refine ite2 (fun _ => ?_) (fun _ => ?_)
      · have la : acc0.length ≤ 4 := by
          rw [(rp0 K).length, List.length_map]
          exact lr0
        refine ⟨_, rfl, p0, 24, acc0, rfl, rfl, hp5, by decide, by decide, small_line (by show acc0.length * 24 ≤ 1000; omega), fun p2 np2 => ?_⟩
        have s6 := sb_trans s5 (same_sb (same_upd (o := .lst (List.replicate (24 : Int).toNat acc0).flatten) np2))
        have b6 := bag_upd (o := .lst (List.replicate (24 : Int).toNat acc0).flatten) b5 np2
        have y6 : upd H5 p2 (.lst (List.replicate (24 : Int).toNat acc0).flatten) p2 = some (.lst (List.replicate (24 : Int).toNat acc0).flatten) := upd_same
        generalize upd H5 p2 (.lst (List.replicate (24 : Int).toNat acc0).flatten) = H6 at s6 b6 y6
        have p2b : p2 ≠ b := fun e => by
          obtain ⟨xs, e2⟩ := bag_b b5
          rw [e, e2] at np2
          cases np2
        refine ⟨_, rfl, b, l, 8, rfl, b6, by decide, by decide, fun m H7 m0 m1 u7 b7 => ⟨_, _, rfl, rfl, _, rfl, p2, _, rfl, SqL.of ((u7 p2 p2b).trans y6), fun p3 np3 => ?_⟩⟩
        have s7 := sb_trans s6 (but_same u7)
        have p3b : p3 ≠ b := fun e => by
          obtain ⟨xs, e2⟩ := bag_b b7
          rw [e, e2] at np3
          cases np3
        obtain ⟨hp7, rp7⟩ := mono s7
        have em : (17 : Int) + m = ((17 + m.toNat : Nat) : Int) := by omega
        let rs2 := ((List.replicate 24 rs0).flatten).take (17 + m.toNat)
        have sub : ∀ R ∈ rs2, R ∈ rs0 := fun R m => by
          have m2 := List.mem_of_mem_take m
          obtain ⟨xs, hx, hm⟩ := List.mem_flatten.mp m2
          rwa [(List.mem_replicate.mp hx).2] at hm
        refine ⟨p3, _, rs2, rfl, fun R m => good0 R (sub R m), fun R m => sg0 R (sub R m), ?_, bag_upd b7 np3, p3b, upd_same, fun K => ?_⟩
        · have := List.length_take_le (17 + m.toNat) ((List.replicate 24 rs0).flatten)
          show (((List.replicate 24 rs0).flatten).take (17 + m.toNat)).length ≤ 24
          omega
        · have e2 : rs2.map RL.tree = cutTr ((List.replicate 24 (rs0.map RL.tree)).flatten) none (some ((17 : Int) + m)) := by
            rw [em, cut_take, ← List.map_replicate, ← List.map_flatten, ← List.map_take]
          rw [e2]
          refine Reps.cut (Reps.mono (F := wo p0 (mb b H7)) (fun a o e => ?_) ?_) _ _
          · have n1 : a ≠ p0 := fun y => by rw [y, wo_x] at e; cases e
            rw [wo_ne n1] at e
            have n2 : a ≠ b := fun y => by rw [y, mb_b] at e; cases e
            rw [mb_ne n2] at e
            have n3 : a ≠ p3 := ne_of_none e np3
            rw [wo_ne n3, mb_ne n2, upd_ne n3]
            exact e
          · have go : ∀ n : Nat, Reps K (wo p0 (mb b H7)) (List.replicate n acc0).flatten (List.replicate n (rs0.map RL.tree)).flatten := fun n => by
              induction n with
              | zero => exact .nil
              | succ n ih =>
                rw [List.replicate_succ, List.replicate_succ, List.flatten_cons, List.flatten_cons]
                exact (rp7 K).append ih
            exact go 24
      · exact ⟨p0, acc0, rs0, rfl, good0, sg0, by omega, b5, pb0, hp5, rp5⟩
    · obtain ⟨hp5, rp5⟩ := mono (but_same u4)
      exact ⟨p0, acc0, rs0, rfl, good0, sg0, by omega, b4, pb0, hp5, rp5⟩
  rintro σ H4 ⟨p, acc, rs, rfl, good, sg, lr, b4, pb, hp, rp⟩
  have la : acc.length = rs.length := by rw [(rp K).length, List.length_map]
  refine ⟨_, rfl, p, acc, rfl, .inl (SqL.of hp), _, _, rfl, rfl, ?_⟩
  refine ⟨fun σ G => σ = [some (.ref a), some (.ref b), some (.str (S zp)), some (.ref p), some (.int (madeZ rs.length)), none, none, none, none, none, none, none] ∧ G = H4, ?_, ?_⟩
  · refine ⟨_, rfl, p, acc, rfl, .inl (SqL.of hp), _, _, rfl, rfl, _, rfl, ite2 (fun y => ?_) (fun y => ?_)⟩
    · have big : 20 < rs.length := by
        have := of_decide_eq_true y
        omega
      refine ⟨?_, rfl⟩
      unfold madeZ
      rw [if_pos big]
      rfl
    · have big : ¬ 20 < rs.length := fun big => y (decide_eq_true (by omega))
      refine ⟨?_, rfl⟩
      unfold madeZ
      rw [if_neg big, ← la]
      rfl
  rintro σ HH ⟨rfl, rfl⟩
  refine ⟨_, rfl, ask b4 ⟨rs, good, lr, rfl, rfl⟩ (.cons (.lst (mb_of hp pb) ((rp K).mono (wo_same p _))) .nil) fun v H5 s5 rv => ?_⟩
  cases rv
  have b5 := bag_sb b4 s5
  refine ⟨_, rfl, rfl, _, rfl, ?_⟩
  refine iteFe (by rw [decide_eq_true rfl]; rfl) ?_
  have hp5 := s5 _ _ hp
  refine ⟨_, rfl, p, rfl, ⟨_, SqL.of hp5⟩, fun B nB => lc_list (K := K) (a := p) (xs := acc) (fun i G => Same H5 G ∧ G B = some (.lst (txtV ((rs.take i).map RL.line)))) ⟨same_upd nB, upd_same⟩ (fun i G _ ⟨sm, _⟩ => SqL.of (sm _ _ hp5)) ?_ ?_⟩
  · rintro i x G hx ⟨sm, hB⟩
    have li : i < acc.length := (List.getElem?_eq_some_iff.mp hx).1
    have li2 : i < rs.length := by omega
    have hR : rs[i]? = some rs[i] := List.getElem?_eq_getElem li2
    have hD : (rs.map RL.tree)[i]? = some rs[i].tree := by
      rw [List.getElem?_map, hR]
      rfl
    obtain ⟨x2, ex, rx⟩ := (rp K).at hD
    rw [hx] at ex
    cases ex
    have gd := good rs[i] (List.getElem_mem li2)
    have sG : Same HH G := s5.trans sm
    have rG : Rep K (mb b G) x rs[i].tree := rx.mono fun a o e => by
      have n1 : a ≠ p := fun y => by rw [y, wo_x] at e; cases e
      rw [wo_ne n1] at e
      have n2 : a ≠ b := fun y => by rw [y, mb_b] at e; cases e
      rw [mb_ne n2] at e ⊢
      exact sG _ _ e
    have gw : gWritten [rs[i].tree] (.tx rs[i].line) := ⟨_, _, _, _, gd.ok, rfl, rfl⟩
    refine ⟨rfl, tyes (iteT ⟨_, rfl, ask (bag_sb b5 sm) gw (.cons rG .nil) fun v G2 s2 rv => ?_⟩)⟩
    cases rv
    refine ⟨_, s2 _ _ hB, ?_, fun c o e => ?_, ?_⟩
    · rw [txtV_len, List.length_map, List.length_take]
      exact small1000 (by omega)
    · rw [upd_ne (ne_of_none e nB)]
      exact s2 _ _ (sm _ _ e)
    · rw [upd_same, List.take_add_one, hR, List.map_append, txtV_app]
      rfl
  rintro G ⟨sm, hB⟩
  rw [show acc.length = rs.length from la, List.take_of_length_le (Nat.le_refl _)] at hB
  have b6 := bag_sb b5 sm
  clear rp hp5
  have Bb : B ≠ b := fun e => by
    obtain ⟨xs, e2⟩ := bag_b b5
    rw [e, e2] at nB
    cases nB
  have lB : l ≠ B := fun e => by
    obtain ⟨_, _, _, _, _, e2, _⟩ := b5
    rw [e, nB] at e2
    cases e2
  have each : ∀ w ∈ rs.map RL.line, LineP 100 w := fun w m => by
    obtain ⟨R, hR, rfl⟩ := List.mem_map.mp m
    exact RL.lineP (good R hR) (sg R hR)
  have lz0 := lineZ_book good
  have lw : (rs.map RL.line).length ≤ 24 := by rw [List.length_map]; exact lr
  generalize rs.map RL.line = ws0 at hB each lz0 lw
  have bound : ∀ {n : Nat} {ws : List (List Nat)}, ws.length ≤ 24 → n ≤ 200 → (∀ w ∈ ws, LineP n w) → ((ws.map S).map (·.length)).sum + (ws.map S).length * (S [10]).length ≤ 16777216 := fun {n ws} l1 l2 h => by
    have h1 := sum_len ws n fun z m => (h z m).len
    have h2 : ws.length * n ≤ 24 * 200 := Nat.mul_le_mul l1 l2
    rw [List.length_map, len_S]
    show _ + ws.length * 1 ≤ _
    omega
  have few10 : ∀ {n : Nat} {ws : List (List Nat)}, ws.length ≤ 24 → n ≤ 200 → (∀ w ∈ ws, LineP n w) → (TL.joinL [10] ws).length ≤ 9000 := fun {n ws} l1 l2 h => by
    have h1 := join_few h
    have h2 : ws.length * (n + 1) ≤ 24 * 201 := Nat.mul_le_mul l1 (by omega)
    omega
  have z1 := few10 lw (by decide) each
  refine ⟨rfl, _, rfl, ("\n" : Str), B, ws0.map S, rfl, rfl, .inl (SqL.of hB), by rw [nl_S]; exact bound lw (by decide) each, ?_⟩
  rw [nl_S, join_S]
  refine ⟨TL.joinL [10] ws0, rfl, by omega, fun z m => Nat.le_trans (linesZ_join each z m) (by decide), fun H7 s7 => ⟨_, rfl, rfl, _, rfl, ?_⟩⟩
  rw [lz0]
  refine iteFe (by rw [decide_eq_true rfl]; rfl) ?_
  have b7 := bag_sb b6 s7
  have hB7 := s7 _ _ hB
  clear lz0
  have Q1 : ∀ z : List Nat, ∀ l ∈ linesZ z, l.length ≤ 900 → True := fun _ _ _ _ => trivial
  clear Q1
  refine ⟨_, rfl, b, l, 4, rfl, b7, by decide, by decide, fun n H8 n0 n1 u8 b8 => ⟨n, rfl, by omega, by omega, for_range (lo := 0) (n := n.toNat) (fun i σ G => ∃ (ws : List (List Nat)) (y7 y8 y9 y10 : Option V), σ = [some (.ref a), some (.ref b), some (.str (S zp)), some (.ref p), some (.int (madeZ rs.length)), some (.ref B), none, y7, y8, y9, y10, none] ∧ ws.length ≤ 24 ∧ (∀ w ∈ ws, LineP (100 + i) w) ∧ BagL G b l ∧ G B = some (.lst (txtV ws))) ⟨ws0, _, _, _, _, rfl, lw, fun w m => (each w m).mono (by omega), b8, (u8 B Bb).trans hB7⟩ ?_ ?_⟩⟩
  · rintro i σ G hi ⟨ws, y7, y8, y9, y10, rfl, lws, each, bG, hBG⟩
    have i3 : i < 3 := by omega
    refine ⟨_, rfl, by decide, fun q nq => ?_⟩
    have b9 := bag_upd (o := .lst []) bG nq
    have y9' : upd G q (.lst []) q = some (.lst []) := upd_same
    have hB9 := same_upd (o := .lst []) nq _ _ hBG
    generalize upd G q (.lst []) = H9 at b9 y9' hB9
    refine ⟨_, _, dp_txs hB9, .lst (SqL.of y9') .nil, txD_shaped (fun w m => (each w m).low), rfl, _, rfl, ?_⟩
    rw [txD_eqv]
    refine ite2 (fun y => ?_) (fun _ => ⟨ws, _, _, _, _, rfl, lws, fun w m => (each w m).mono (by omega), b9, hB9⟩)
    have ne : ws ≠ [] := fun e => by
      rw [decide_eq_true e] at y
      cases y
    have l0 : 0 < ws.length := List.length_pos_iff.mpr ne
    have lt : (txtV ws).length = ws.length := txtV_len ws
    refine ⟨_, rfl, _, rfl, B, _, rfl, .inl (SqL.of hB9), b, l, _, rfl, b9, by rw [lt]; omega, by rw [lt]; omega, fun at_ H10 a0 a1 u10 b10 => ?_⟩
    have hB10 := (u10 B Bb).trans hB9
    rw [lt] at a1
    obtain ⟨at_, rfl⟩ : ∃ k : Nat, at_ = (k : Int) := ⟨at_.toNat, by omega⟩
    have la2 : at_ < ws.length := by omega
    have eA : atI (txtV ws) (at_ : Int) = some (.str (S ws[at_])) := by
      refine atI_nat ?_
      unfold txtV
      rw [List.getElem?_map, List.getElem?_map, List.getElem?_eq_getElem la2]
      rfl
    have lp := each ws[at_] (List.getElem_mem la2)
    have ex : ixN (txtV ws).length (at_ : Int) = some at_ := by
      unfold ixN
      rw [lt, if_pos (by omega), if_pos (by omega)]
      rfl
    generalize hz2 : ws[at_] = z at eA lp
    refine ⟨_, rfl, _, rfl, B, _, _, _, rfl, rfl, SqL.of hB10, eA, ?_⟩
    have lz := lp.len
    have line : (S z).length ≤ sizeLine := by rw [len_S]; exact small_line (by omega)
    refine ⟨_, rfl, _, rfl, S z, rfl, line, _, _, rfl, rfl, b, l, _, rfl, b10, by rw [len_S]; omega, by rw [len_S]; omega, fun sp H11 p0' p1 u11 b11 => ?_⟩
    have hB11 := (u11 B Bb).trans hB10
    rw [len_S] at p1
    obtain ⟨sp, rfl⟩ : ∃ k : Nat, sp = (k : Int) := ⟨sp.toNat, by omega⟩
    have to_ : Txt.slice (S z) none (some (sp : Int)) = S (z.take sp) := by rw [slice_to (by omega), Int.toNat_natCast]
    have fr1 : Txt.slice (S z) (some ((sp : Int) + 1)) none = S (z.drop (sp + 1)) := by
      rw [slice_from (by omega)]
      congr 2
    have lT : (z.take sp).length ≤ z.length := by
      rw [List.length_take]
      omega
    have cat2 : (z.take sp).length + (z.drop (sp + 1)).length ≤ z.length := by
      rw [List.length_take, List.length_drop]
      omega
    refine ⟨_, rfl, _, rfl, _, rfl, S z, rfl, line, _, rfl, b, l, 9, rfl, b11, by decide, by decide, fun sg2 H12 g0 g1 u12 b12 => ?_⟩
    have hB12 := (u12 B Bb).trans hB11
    obtain ⟨sg2, rfl⟩ : ∃ k : Nat, sg2 = (k : Int) := ⟨sg2.toNat, by omega⟩
    have ls : sg2 < sgnL.length := by
      show sg2 < 9
      omega
    have sl := sgn_low _ (List.getElem_mem ls)
    refine ⟨_, _, sgnL[sg2], by rw [sgn_S], rfl, by decide, atI_nat (List.getElem?_eq_getElem ls), ?_⟩
    have e1 : (⟨#[sgnL[sg2]]⟩ : Str) = S [sgnL[sg2]] := rfl
    refine ⟨_, _, rfl, rfl, ?_, _, rfl, _, rfl, _, _, rfl, rfl, _, rfl, S z, rfl, line, _, _, rfl, rfl, ?_, ?_⟩
    · rw [to_, e1, len_S, len_S]
      exact small_line (by show _ + 1 ≤ 1000; omega)
    · rw [to_, e1, fr1, S_cat, len_S, len_S, List.length_append]
      exact small_line (by show _ + 1 + _ ≤ 1000; omega)
    rw [to_, e1, fr1, S_cat, S_cat]
    have newP : LineP (100 + (i + 1)) (z.take sp ++ [sgnL[sg2]] ++ z.drop (sp + 1)) := by
      generalize sgnL[sg2] = c0 at sl
      refine ⟨?_, fun m => ?_, fun c m => ?_⟩
      · rw [List.length_append, List.length_append]
        show _ + 1 + _ ≤ _
        omega
      · rcases List.mem_append.mp m with m | m
        · rcases List.mem_append.mp m with m | m
          · exact lp.no (List.mem_of_mem_take m)
          · exact sl.2 (List.mem_singleton.mp m).symm
        · exact lp.no (List.mem_of_mem_drop m)
      · rcases List.mem_append.mp m with m | m
        · rcases List.mem_append.mp m with m | m
          · exact lp.low c (List.mem_of_mem_take m)
          · rw [List.mem_singleton.mp m]
            exact sl.1
        · exact lp.low c (List.mem_of_mem_drop m)
    generalize z.take sp ++ [sgnL[sg2]] ++ z.drop (sp + 1) = z2 at newP
    have put : ∀ (ws : List (List Nat)) (x : List Nat), (txtV ws).set at_ (.str (S x)) = txtV (ws.set at_ x) := fun ws x => by
      unfold txtV
      rw [List.map_set, List.map_set]
    have keepB : ∀ {G : Hp} {o : HO}, BagL G b l → BagL (upd G B o) b l := fun {G o} h => by
      obtain ⟨ns, j, q, c, e1, e2, e3⟩ := h
      exact ⟨ns, j, q, c, by rw [upd_ne Bb.symm]; exact e1, by rw [upd_ne lB]; exact e2, e3⟩
    have setP : ∀ {ws : List (List Nat)} {x : List Nat}, (∀ w ∈ ws, LineP (100 + (i + 1)) w) → LineP (100 + (i + 1)) x → ∀ w ∈ ws.set at_ x, LineP (100 + (i + 1)) w := fun {ws x} h hx w m => by
      rcases List.mem_or_eq_of_mem_set m with m | rfl
      · exact h w m
      · exact hx
    refine ⟨_, rfl, _, rfl, B, _, _, at_, rfl, rfl, hB12, ex, ?_⟩
    rw [put]
    have each2 := setP (fun w m => (each w m).mono (by omega)) newP
    have lws2 : (ws.set at_ z2).length ≤ 24 := by rw [List.length_set]; exact lws
    have ex2 : ixN (txtV (ws.set at_ z2)).length (at_ : Int) = some at_ := by
      rw [txtV_len, List.length_set, ← txtV_len ws]
      exact ex
    generalize ws.set at_ z2 = ws2 at each2 lws2 ex2
    refine ⟨_, rfl, b, l, 4, rfl, keepB b12, by decide, by decide, fun m H13 _ _ u13 b13 => ?_⟩
    have hB13 := (u13 B Bb).trans upd_same
    refine ⟨rfl, _, rfl, ite2 (fun _ => ?_) (fun _ => ⟨ws2, _, _, _, _, rfl, lws2, each2, b13, hB13⟩)⟩
    refine ⟨_, rfl, _, rfl, B, _, _, at_, rfl, rfl, hB13, ex2, ?_⟩
    refine ⟨ws2.set at_ [], _, _, _, _, rfl, by rw [List.length_set]; exact lws2, setP each2 ⟨Nat.zero_le _, List.not_mem_nil, fun c m => nomatch m⟩, keepB b13, ?_⟩
    rw [upd_same, ← put]
    rw [no_S]
  · rintro σ G ⟨ws, y7, y8, y9, y10, rfl, lws, each, bG, hBG⟩
    have each : ∀ w ∈ ws, LineP 103 w := fun w m => (each w m).mono (by omega)
    have z1 := few10 lws (by decide) each
    refine ⟨rfl, _, rfl, ("\n" : Str), B, ws.map S, rfl, rfl, .inl (SqL.of hBG), by rw [nl_S]; exact bound lws (by decide) each, ?_⟩
    rw [nl_S, join_S]
    have m1 : ∀ l ∈ linesZ (TL.joinL [10] ws), l.length ≤ 900 := fun z m => Nat.le_trans (linesZ_join each z m) (by decide)
    have m2 : ∀ l ∈ linesZ (TL.joinL [10] ws ++ [10]), l.length ≤ 900 := fun z m => Nat.le_trans (linesZ_more each z m) (by decide)
    generalize TL.joinL [10] ws = z at z1 m1 m2
    have lz2 : (z ++ [10]).length ≤ 9001 := by
      rw [List.length_append]
      show _ + 1 ≤ _
      omega
    have big : (S z).length + (S [10]).length ≤ sizeLine := by
      rw [len_S, len_S, sizeLine_eq]
      show _ + 1 ≤ _
      omega
    refine ⟨_, rfl, z, rfl, by omega, m1, fun G1 s1 => ⟨_, rfl, ask (bag_sb bG s1) ⟨z, by omega, m1, rfl, rfl⟩ (.cons (.str _) .nil) fun v G2 s2 rv => ?_⟩⟩
    cases rv
    refine ⟨rfl, _, rfl, ?_⟩
    refine iteTe (by rw [decide_eq_true rfl]) ?_
    have b2 := bag_sb (bag_sb bG s1) s2
    refine ⟨_, rfl, _, _, rfl, rfl, big, z ++ [10], by rw [S_cat]; rfl, by omega, m2, fun G3 s3 => ⟨_, rfl, _, _, rfl, rfl, big, ?_⟩⟩
    rw [S_cat]
    refine ask (bag_sb b2 s3) ⟨z ++ [10], by omega, m2, rfl, rfl⟩ (.cons (.str _) .nil) fun v G4 s4 rv => ?_
    cases rv
    refine ⟨rfl, ?_⟩
    rw [decide_eq_true rfl]
    exact k _
end
end Pm
namespace Pm
open PySem PySem.Spec PyProof.Rows L2 SX
section
variable {P : Program} {w : World} {K : PySem.W.Frag} {mg : Str → Option Value} {base : Heap}
theorem scEInvalidBook : FnScope ["self", "line"] ["self", "line"] (defScope cInvalidBookInit) := ⟨rfl, rfl, rfl, by decide +kernel, rfl, by decide +kernel, by decide +kernel⟩
theorem okEInvalidBook {f C : Addr} {fd : FuncData} (F : Fun K "__init__" "InvalidBook.__init__" cInvalidBookInit f fd) (T : OexC K C) (nx : PySem.W.findIn K (.ref C) "line" = some none) : FnOk P w K mg base CX0 1 f fd ["self", "line"] (spE1 C "line") := by
  refine F.ok scEInvalidBook (fun vs H Q E h => ?_) (fun cdv A outer s H vs Q E hr h => ?_)
  · obtain ⟨a, v, rfl, _⟩ := h
    rfl
  · obtain ⟨a, v, rfl, ha, k⟩ := h
    refine ⟨_, pss_one (ps_ost (pv 0) (pv 1)), ?_⟩
    refine ⟨_, rfl, _, rfl, a, C, rfl, T, nx, .inl ⟨ha, fun dx nd ne => ?_⟩⟩
    refine k _ dx upd_same (by rw [upd_ne ne, upd_same]) nd ne fun b o nb e => ?_
    rw [upd_ne nb, upd_ne (ne_of_none e nd)]
    exact e
end
end Pm
/-! ### what the top has left, told by a Hook: the defs, and any Bools of the part of the heap that the names reach -/
namespace Hm
open PySem PySem.Spec PyProof.Rows L2 He
abbrev Fr := PySem.W.Frag
/-- a def: where it stands, what it is, its closure, its keyword-only defaults -/
structure DefM where
  at_ : Fr → Addr
  name : Str
  qual : Str
  params : Arguments
  body : List Stmt
  scope : Scope
  clo : Fr → List (Str × Addr) := fun _ => []
  kwd : List (Str × Dv) := []
abbrev FnM : Type := Option (Str × Str × Arguments × FuncBody × Scope × Addr × Addr)
def fnM (K : Fr) (a : Addr) : FnM := match K.lookup a with
  | some ⟨_, _, .func fd, _⟩ => some (fd.name, fd.qualname, fd.params, fd.body, fd.scope, fd.globals, fd.builtins)
  | _ => none
def DefM.val (d : DefM) : FnM := some (d.name, d.qual, d.params, .stmts d.body, d.scope, mainGlobals, builtinsNs)
def noDfl : Value → Bool
  | .none => true
  | _ => false
def DefM.kws (K : Fr) (d : DefM) : List (Str × V) := d.kwd.map fun q => (q.1, q.2.v K)
def DefM.ok (K : Fr) (d : DefM) : Bool := match K.lookup (d.at_ K) with
  | some ⟨_, _, .func fd, _⟩ => PySem.W.codeIn K fd.code d.qual && (decide (fd.closure = d.clo K) && (noDfl fd.defaults && kwdB K fd.kwdefaults (d.kws K)))
  | _ => false
theorem noDfl_ok {v : Value} (h : noDfl v = true) : v = .none := by
  cases v with
  | none => rfl
  | _ => cases h
theorem DefM.there {K : Fr} {d : DefM} (e : fnM K (d.at_ K) = d.val) (c : d.ok K = true) :
    ∃ oc od osl kV doc pm an cdv ct, K.lookup (d.at_ K) = some ⟨oc, od, .func (PySem.W.fnX d.name d.qual d.params d.body d.scope (d.clo K) .none kV doc pm an cdv ct), osl⟩ ∧ PySem.W.codeIn K cdv d.qual = true ∧ KwdV K kV (d.kws K) := by
  unfold DefM.ok at c
  unfold fnM at e
  cases q : K.lookup (d.at_ K) with
  | none =>
    rw [q] at c
    cases c
  | some o =>
    obtain ⟨oc, od, dt, osl⟩ := o
    rw [q] at c e
    cases dt with
    | func fd =>
      obtain ⟨n1, n2, n3, n4, n5, n6, n7, n8, n9, n10, n11, n12, n13, n14, n15⟩ := fd
      have e2 : (some (n1, n2, n3, n4, n5, n6, n15) : FnM) = some (d.name, d.qual, d.params, .stmts d.body, d.scope, mainGlobals, builtinsNs) := e
      simp only [Option.some.injEq, Prod.mk.injEq] at e2
      obtain ⟨h1, h2, h3, h4, h5, h6, h7⟩ := e2
      subst h1 h2 h3 h4 h5 h6 h7
      have c2 : (PySem.W.codeIn K n13 d.qual && (decide (n7 = d.clo K) && (noDfl n8 && kwdB K n9 (d.kws K)))) = true := c
      obtain ⟨k1, k⟩ := ba c2
      obtain ⟨k2, k⟩ := ba k
      obtain ⟨k3, k4⟩ := ba k
      have e7 : n7 = d.clo K := of_decide_eq_true k2
      have e8 := noDfl_ok k3
      subst e7 e8
      exact ⟨oc, od, osl, n9, n10, n11, n12, n13, n14, rfl, k1, kwdB_ok k4⟩
    | _ => cases c
/-! ### pieces of facts -/
/-- a global's value -/
def globB (K : Fr) (x : Str) (v : V) : Bool := match PySem.W.nsIn K mainGlobals x with
  | some (some u) => relB v u
  | _ => false
theorem globB_ok {K : Fr} {x : Str} {v : V} (h : globB K x v = true) : ∃ u, PySem.W.nsIn K mainGlobals x = some (some u) ∧ RelV v u := by
  unfold globB at h
  cases e : PySem.W.nsIn K mainGlobals x with
  | none => rw [e] at h; cases h
  | some r =>
    rw [e] at h
    cases r with
    | none => cases h
    | some u => exact ⟨u, rfl, relB_ok h⟩
/-- a constant that a class is asked for -/
def cvalB (K : Fr) (C : Addr) (f : Str) (v : V) : Bool := match PySem.W.findCls K (.ref C) (.type "type") f with
  | some (.val u) => relB v u
  | _ => false
theorem cvalB_ok {K : Fr} {C : Addr} {f : Str} {v : V} (h : cvalB K C f v = true) : ∃ u, PySem.W.findCls K (.ref C) (.type "type") f = some (.val u) ∧ RelV v u := by
  unfold cvalB at h
  cases e : PySem.W.findCls K (.ref C) (.type "type") f with
  | none => rw [e] at h; cases h
  | some r =>
    rw [e] at h
    cases r with
    | val u => exact ⟨u, rfl, relB_ok h⟩
    | _ => cases h
/-- a constant of a class that its instance is asked for -/
def ivalB (K : Fr) (C : Addr) (f : Str) (v : V) : Bool := match PySem.W.findIn K (.ref C) f with
  | some (some u) => relB v u && eqO (PySem.W.specialIn K u "__get__") (some none)
  | _ => false
theorem ivalB_ok {K : Fr} {C : Addr} {f : Str} {v : V} (h : ivalB K C f v = true) : ∃ u, PySem.W.findIn K (.ref C) f = some (some u) ∧ RelV v u ∧ PySem.W.specialIn K u "__get__" = some none := by
  unfold ivalB at h
  cases e : PySem.W.findIn K (.ref C) f with
  | none => rw [e] at h; cases h
  | some r =>
    rw [e] at h
    cases r with
    | none => cases h
    | some u =>
      obtain ⟨h1, h2⟩ := ba h
      exact ⟨u, rfl, relB_ok h1, eqO_ok h2⟩
def clsB (K : Fr) (C : Addr) : Bool := (PySem.W.clsIn K C).isSome
theorem clsB_ok {K : Fr} {C : Addr} (h : clsB K C = true) : ∃ cd, PySem.W.clsIn K C = some cd := Option.isSome_iff_exists.mp h
/-- an error's class with an own __init__ -/
def excB (K : Fr) (C : Addr) : Bool := match K.lookup C with
  | some ⟨.type "type", _, .cls cd, sl⟩ => (match cd.mro, sl.toList with
    | .ref C' :: bm, [_, _, _, _, some (.builtin n), _] => C' == C && (n == "ValueError.__new__" && (!cd.hasDel && (cd.hasDict && PySem.HandSPX.refsVE bm)))
    | _, _ => false)
  | _ => false
theorem excB_ok {K : Fr} {C : Addr} (h : excB K C = true) : ∃ nm q N bs bm sn sub ab col dd k0 k1 k2 k3 k5, K.lookup C = some (excClassObj nm q C N bs bm true sn sub ab col dd k0 k1 k2 k3 k5 "ValueError.__new__") ∧ PySem.HandSPX.refsVE bm = true := by
  unfold excB at h
  split at h
  · rename_i dd cd sl ho
    split at h
    · rename_i C' bm k0 k1 k2 k3 n k5 hm hs
      obtain ⟨h1, h⟩ := ba h
      obtain ⟨h2, h⟩ := ba h
      obtain ⟨h3, h⟩ := ba h
      obtain ⟨h4, h5⟩ := ba h
      have e1 := beq_iff_eq.mp h1
      have e2 : n = "ValueError.__new__" := beq_iff_eq.mp h2
      obtain ⟨nm, bs, mro, ns, qn, hd, sn, sub, ab, col, del⟩ := cd
      dsimp only at hm h3 h4
      have e3 : del = false := by simpa using h3
      subst e1 e2 hm h4 e3
      have hsl : sl = #[k0, k1, k2, k3, some (.builtin "ValueError.__new__"), k5] := by
        obtain ⟨l⟩ := sl
        simp only at hs
        rw [hs]
      subst hsl
      exact ⟨nm, qn, ns, bs, bm, sn, sub, ab, col, dd, k0, k1, k2, k3, k5, ho, h5⟩
    · cases h
  · cases h
/-- what super() wants of a method's closure cell and code object -/
def cloOf (at_ : Fr → Addr) (K : Fr) : Addr := match K.lookup (at_ K) with
  | some ⟨_, _, .func fd, _⟩ => (match fd.closure with
    | (_, a) :: _ => a
    | _ => 0)
  | _ => 0
def cellB (K : Fr) (c C : Addr) : Bool := match K.lookup c with
  | some ⟨_, _, .cell (some (.ref D)), _⟩ => D == C
  | _ => false
theorem cellB_ok {K : Fr} {c C : Addr} (h : cellB K c C = true) : ∃ o d s, K.lookup c = some ⟨o, d, .cell (some (.ref C)), s⟩ := by
  unfold cellB at h
  split at h
  · rename_i o d D s e
    have := beq_iff_eq.mp h
    subst this
    exact ⟨o, d, s, e⟩
  · cases h
def fileB (K : Fr) (f : Addr) (file : Str) : Bool := match K.lookup f with
  | some ⟨_, _, .func fd, _⟩ => (match fd.code with
    | .ref c => (match K.lookup c with
      | some ⟨_, _, .fields vs, _⟩ => (match (vs[2]? : Option Value) with
        | some (.str x _) => decide (file = x)
        | _ => false)
      | _ => false)
    | _ => false)
  | _ => false
theorem fileB_ok {K : Fr} {f : Addr} {file : Str} {oc : Value} {od : Option Addr} {fd : FuncData} {osl : Array (Option Value)} (h : fileB K f file = true) (l : K.lookup f = some ⟨oc, od, .func fd, osl⟩) :
    ∃ c ccl cdd vs ccs t, fd.code = .ref c ∧ K.lookup c = some ⟨ccl, cdd, .fields vs, ccs⟩ ∧ vs[2]? = some (.str file t) := by
  unfold fileB at h
  rw [l] at h
  dsimp only at h
  cases e : fd.code with
  | ref c =>
    rw [e] at h
    dsimp only at h
    cases e2 : K.lookup c with
    | none => rw [e2] at h; cases h
    | some o =>
      obtain ⟨ccl, cdd, dt, ccs⟩ := o
      rw [e2] at h
      cases dt with
      | fields vs =>
        dsimp only at h
        cases e3 : vs[2]? with
        | none => rw [e3] at h; cases h
        | some v =>
          rw [e3] at h
          cases v with
          | str x t =>
            have : file = x := of_decide_eq_true h
            subst this
            exact ⟨c, ccl, cdd, vs, ccs, t, rfl, e2, e3⟩
          | _ => cases h
      | _ => cases h
  | _ =>
    rw [e] at h
    cases h
/-- the def that a property holds -/
def recF (K : Fr) (p : Addr) (T : String) : Addr := match PySem.W.recIn K p T with
  | some (.ref f :: _) => f
  | _ => 0
def recB (K : Fr) (p : Addr) (T : String) : Bool := match PySem.W.recIn K p T with
  | some (.ref _ :: _) => true
  | _ => false
theorem recB_ok {K : Fr} {p : Addr} {T : String} (h : recB K p T = true) : ∃ rest, PySem.W.recIn K p T = some (.ref (recF K p T) :: rest) := by
  unfold recB at h
  unfold recF
  split at h
  · rename_i f rest e
    exact ⟨rest, by rw [e]⟩
  · cases h
/-! ### the Hook -/
abbrev AlM : Type := Bool × List FnM
def obsM (fn : List DefM) (ex : List (Fr → Bool)) (K : Fr) : AlM := ((fn.all fun d => d.ok K) && ex.all fun b => b K, fn.map fun d => fnM K (d.at_ K))
def valM (fn : List DefM) : AlM := (true, fn.map DefM.val)
def SaysM (fn : List DefM) (ex : List (Fr → Bool)) (K : Fr) : Prop := obsM fn ex K = valM fn
/-- as: the addresses that K is to have -/
def obsMG (as : List Addr) (fn : List DefM) (ex : List (Fr → Bool)) (g : Addr → Option Obj) : AlM := obsM fn ex (frG g as)
def hookM (as : List Addr) (fn : List DefM) (ex : List (Fr → Bool)) : PySem.W.Hook where
  α := AlM
  obs := fun s => obsMG as fn ex s.heap.get?
  val := fun _ => valM fn
  says := fun _ h => ∃ K : Fr, K.In h ∧ SaysM fn ex K
  of := fun _ _ e => ⟨_, frG_in, e⟩
  keeps := fun _ _ _ ⟨K, hK, c⟩ k => ⟨K, PySem.W.Frag.In.keeps hK k, c⟩
theorem obsMG_eq {as : List Addr} {fn : List DefM} {ex : List (Fr → Bool)} {g : Addr → Option Obj} {s : Shared} (h : ∀ a, g a = s.heap.get? a) : obsMG as fn ex g = (hookM as fn ex).obs s := by
  have e : g = s.heap.get? := funext h
  rw [e] <;> rfl
section
variable {fns : List DefM} {exs : List (Fr → Bool)} {K : Fr}
theorem SaysM.ex (c : SaysM fns exs K) {b : Fr → Bool} (h : b ∈ exs) : b K = true := by
  have c1 := (ba (show ((fns.all fun d => d.ok K) && exs.all fun b => b K) = true from congrArg (fun z : AlM => z.1) c)).2
  exact List.all_eq_true.mp c1 b h
theorem SaysM.fn (c : SaysM fns exs K) (i : Nat) {d : DefM} (h : fns[i]? = some d) :
    ∃ oc od osl kV doc pm an cdv ct, K.lookup (d.at_ K) = some ⟨oc, od, .func (PySem.W.fnX d.name d.qual d.params d.body d.scope (d.clo K) .none kV doc pm an cdv ct), osl⟩ ∧ PySem.W.codeIn K cdv d.qual = true ∧ KwdV K kV (d.kws K) := by
  have c2 := (ba (show ((fns.all fun d => d.ok K) && exs.all fun b => b K) = true from congrArg (fun z : AlM => z.1) c)).1
  have e : fns.map (fun d => fnM K (d.at_ K)) = fns.map DefM.val := congrArg (fun z : AlM => z.2) c
  have e2 : (fns.map fun d => fnM K (d.at_ K))[i]? = (fns.map DefM.val)[i]? := by rw [e]
  rw [List.getElem?_map, List.getElem?_map, h] at e2
  exact DefM.there (Option.some.inj e2) (List.all_eq_true.mp c2 d (List.mem_of_getElem? h))
end
end Hm
namespace Pm
open PySem PySem.Spec PyProof.Rows L2 SX Tr
theorem kit_cls {K : PySem.W.Frag} {D S : Addr} {cd : ClassData} {b : Bool} (ne : (D == S) = false) (c : PySem.W.clsIn K S = some cd) (t : PySem.W.typeIn K (.ref S) = some (.type "type")) (sub : PySem.W.subIn K (.ref D) (.ref S) = some b) : PySem.W.kitOne K (.ref D) (.ref S) = some b := by
  unfold PySem.W.kitOne
  rw [if_neg (by simpa using ne)]
  show (if ((PySem.W.clsIn K S).isSome && PySem.W.typeIn K (.ref S) == some (.type "type")) = true then PySem.W.subIn K (.ref D) (.ref S) else none) = some b
  rw [if_pos (by rw [c, t]; rfl), sub]
theorem kit_val {K : PySem.W.Frag} {D : Addr} (sub : PySem.W.subIn K (.ref D) (.type "ValueError") = some true) : PySem.W.kitOne K (.ref D) (.type "ValueError") = some true := by
  unfold PySem.W.kitOne
  rw [if_neg (by simp)]
  show (if PySem.W.kitMeta "ValueError" = true then PySem.W.subIn K (.ref D) (.type "ValueError") else none) = some true
  rw [if_pos (by decide +kernel), sub]
theorem exm_self {K : PySem.W.Frag} {D : Addr} (a : PySem.W.subIn K (.ref D) (.type "BaseException") = some true) (b : PySem.W.isClsIn K D = true) (c : PySem.W.typeIn K (.ref D) = some (.type "type")) (d : PySem.W.subIn K (.ref D) (.ref D) = some true) : PySem.W.exmOne K (.ref D) (.ref D) = some true := by
  have b2 : (PySem.W.clsIn K D).isSome = true := b
  show (if (PySem.W.subIn K (.ref D) (.type "BaseException") == some true) = true then _ else none) = some true
  rw [if_pos (by rw [a]; rfl)]
  show (if ((PySem.W.clsIn K D).isSome && PySem.W.typeIn K (.ref D) == some (.type "type")) = true then PySem.W.subIn K (.ref D) (.ref D) else none) = some true
  rw [if_pos (by rw [b2, c]; rfl), d]
theorem exm_cls {K : PySem.W.Frag} {D S : Addr} {b : Bool} (a : PySem.W.subIn K (.ref S) (.type "BaseException") = some true) (s1 : PySem.W.isClsIn K S = true) (c : PySem.W.typeIn K (.ref S) = some (.type "type")) (d : PySem.W.subIn K (.ref D) (.ref S) = some b) : PySem.W.exmOne K (.ref D) (.ref S) = some b := by
  have b2 : (PySem.W.clsIn K S).isSome = true := s1
  show (if (PySem.W.subIn K (.ref S) (.type "BaseException") == some true) = true then _ else none) = some b
  rw [if_pos (by rw [a]; rfl)]
  show (if ((PySem.W.clsIn K S).isSome && PySem.W.typeIn K (.ref S) == some (.type "type")) = true then PySem.W.subIn K (.ref D) (.ref S) else none) = some b
  rw [if_pos (by rw [b2, c]; rfl), d]
/-! ### what the top has left -/
theorem all_mk {l : PySem.W.OpenLaw} {w : World} {K : PySem.W.Frag} {h : Heap} {mg : Str → Option Value} {fa C CR CC CS fIR fIS CB fIB fBr pBr fBn fIC ccIC cdaIC CI fEi CV fEv CE fIs fDf fAs fPc fCk fNd fIo fDi fNu fRp fRc fRr fRl fBag fTake fPal fOf fSg fPa fRu fRs fSp fWt fLe fBp fFa fNm fWp fLf fMd fMf fLo fDu fIi fLaw : Addr} {cdtCR : ClassData} {cdtCC : ClassData} {cdtCS : ClassData} {restBr : List Value} {vsIC : Array Value} {fileIC : Str} {tfIC : Tok} {nmCI qnCI : Str} {nsCI : Addr} {bsCI bmCI sbCI : List Value} {snCI : List Str} {abCI : Bool} {coCI : Option Bool} {ddCI : Option Addr} {x0CI x1CI x2CI x3CI x5CI : Option Value} {cdtCI : ClassData} {nmCV qnCV : Str} {nsCV : Addr} {bsCV bmCV sbCV : List Value} {snCV : List Str} {abCV : Bool} {coCV : Option Bool} {ddCV : Option Addr} {x0CV x1CV x2CV x3CV x5CV : Option Value} {cdtCV : ClassData} {cdtCE : ClassData} (X : K.In h) (G : h.Ns mainGlobals mg) (hfa : mg "law" = some (.ref fa))
    {odIR anIR odIS anIS odIB anIB odBr anBr odBn anBn odIC anIC cldIC cddIC odEi anEi odEv anEv odIs anIs odDf anDf odAs anAs odPc anPc odCk anCk odNd anNd odIo anIo odDi anDi odNu anNu odRp anRp odRc anRc odRr anRr odRl anRl odBag anBag odTake anTake odPal anPal odOf anOf odSg anSg odPa anPa odRu anRu odRs anRs odSp anSp odWt anWt odLe anLe odBp anBp odFa anFa odNm anNm odWp anWp odLf anLf odMd anMd odMf anMf odLo anLo odDu anDu odIi anIi odLaw anLaw : Option Addr}
    {slIR slIS slIB slBr slBn slIC cslIC ccsIC slEi slEv slIs slDf slAs slPc slCk slNd slIo slDi slNu slRp slRc slRr slRl slBag slTake slPal slOf slSg slPa slRu slRs slSp slWt slLe slBp slFa slNm slWp slLf slMd slMf slLo slDu slIi slLaw : Array (Option Value)}
    {uHo uEd uSn uMo uRe uMc uDg uWa uWs uMr uCRK uCCK uCSK ocIR kVIR dcIR pmIR cdIR ctIR ocIS kVIS dcIS pmIS cdIS ctIS ocIB kVIB dcIB pmIB cdIB ctIB ocBr kVBr dcBr pmBr cdBr ctBr ocBn kVBn dcBn pmBn cdBn ctBn ocIC kVIC dcIC pmIC ctIC clIC cclIC ocEi kVEi dcEi pmEi cdEi ctEi ocEv kVEv dcEv pmEv cdEv ctEv ocIs kVIs dcIs pmIs cdIs ctIs ocDf kVDf dcDf pmDf cdDf ctDf ocAs kVAs dcAs pmAs cdAs ctAs ocPc kVPc dcPc pmPc cdPc ctPc ocCk kVCk dcCk pmCk cdCk ctCk ocNd kVNd dcNd pmNd cdNd ctNd ocIo kVIo dcIo pmIo cdIo ctIo ocDi kVDi dcDi pmDi cdDi ctDi ocNu kVNu dcNu pmNu cdNu ctNu ocRp kVRp dcRp pmRp cdRp ctRp ocRc kVRc dcRc pmRc cdRc ctRc ocRr kVRr dcRr pmRr cdRr ctRr ocRl kVRl dcRl pmRl cdRl ctRl ocBag kVBag dcBag pmBag cdBag ctBag ocTake kVTake dcTake pmTake cdTake ctTake ocPal kVPal dcPal pmPal cdPal ctPal ocOf kVOf dcOf pmOf cdOf ctOf ocSg kVSg dcSg pmSg cdSg ctSg ocPa kVPa dcPa pmPa cdPa ctPa ocRu kVRu dcRu pmRu cdRu ctRu ocRs kVRs dcRs pmRs cdRs ctRs ocSp kVSp dcSp pmSp cdSp ctSp ocWt kVWt dcWt pmWt cdWt ctWt ocLe kVLe dcLe pmLe cdLe ctLe ocBp kVBp dcBp pmBp cdBp ctBp ocFa kVFa dcFa pmFa cdFa ctFa ocNm kVNm dcNm pmNm cdNm ctNm ocWp kVWp dcWp pmWp cdWp ctWp ocLf kVLf dcLf pmLf cdLf ctLf ocMd kVMd dcMd pmMd cdMd ctMd ocMf kVMf dcMf pmMf cdMf ctMf ocLo kVLo dcLo pmLo cdLo ctLo ocDu kVDu dcDu pmDu cdDu ctDu ocIi kVIi dcIi pmIi cdIi ctIi ocLaw kVLaw dcLaw pmLaw cdLaw ctLaw : Value}
    (cn : PySem.W.specialIn K (.builtin "object.__class__") "__get__" = some (some (.builtin "getset_descriptor.__get__")))
    (ct : PySem.W.takesIn K (.builtin "object.__class__") = some true)
    (gC : PySem.W.nsIn K mainGlobals "Picture" = some (some (.ref C)))
    (rdC : PySem.W.readsIn K C (.type "type") = true)
    (gaC : PySem.W.specialIn K (.ref C) "__getattribute__" = some (some (.builtin "type.__getattribute__")))
    (aHo : PySem.W.findCls K (.ref C) (.type "type") "HOLE" = some (.val uHo))
    (rlHo : L2.RelV (.str ".") uHo)
    (aEd : PySem.W.findCls K (.ref C) (.type "type") "EDGE" = some (.val uEd))
    (rlEd : L2.RelV (.str "#") uEd)
    (aSn : PySem.W.nsIn K mainGlobals "STONES" = some (some uSn))
    (rlSn : L2.RelV (.str alphaS) uSn)
    (aMo : PySem.W.nsIn K mainGlobals "MOST" = some (some uMo))
    (rlMo : L2.RelV (.int 8) uMo)
    (aRe : PySem.W.nsIn K mainGlobals "REACH" = some (some uRe))
    (rlRe : L2.RelV (.int 3) uRe)
    (aMc : PySem.W.nsIn K mainGlobals "MOST_CONDITIONS" = some (some uMc))
    (rlMc : L2.RelV (.int 8) uMc)
    (aDg : PySem.W.nsIn K mainGlobals "_DIGITS" = some (some uDg))
    (rlDg : L2.RelV (.str digS) uDg)
    (aWa : PySem.W.nsIn K mainGlobals "_ALL" = some (some uWa))
    (rlWa : L2.RelV (.str "all") uWa)
    (aWs : PySem.W.nsIn K mainGlobals "_SAME" = some (some uWs))
    (rlWs : L2.RelV (.str "same") uWs)
    (aMr : PySem.W.nsIn K mainGlobals "MOST_RULES" = some (some uMr))
    (rlMr : L2.RelV (.int 20) uMr)
    (gCR : PySem.W.nsIn K mainGlobals "Rule" = some (some (.ref CR)))
    (cxCR : PySem.W.clsIn K CR = some cdtCR)
    (tyCR : PySem.W.typeIn K (.ref CR) = some (.type "type"))
    (pgCR : PySem.W.plainGet K CR Str.empty = true)
    (hdCR : PySem.W.hasDictIn K CR = true)
    (poCR : PySem.W.plainOver K CR = true)
    (saCR : PySem.W.findIn K (.ref CR) "__setattr__" = some (some (.builtin "object.__setattr__")))
    (mkCR : PySem.W.makesIn K CR = true)
    (kpCR : PySem.W.keepIn K (.ref CR) = true)
    (nCR_stone : PySem.W.findIn K (.ref CR) "stone" = some none)
    (nCR_conditions : PySem.W.findIn K (.ref CR) "_conditions" = some none)
    (nCR_need : PySem.W.findIn K (.ref CR) "need" = some none)
    (aCRK : PySem.W.findIn K (.ref CR) "KIND" = some (some uCRK))
    (rlCRK : L2.RelV (.str "all") uCRK)
    (ggCRK : PySem.W.specialIn K uCRK "__get__" = some none)
    (gCC : PySem.W.nsIn K mainGlobals "CountRule" = some (some (.ref CC)))
    (cxCC : PySem.W.clsIn K CC = some cdtCC)
    (tyCC : PySem.W.typeIn K (.ref CC) = some (.type "type"))
    (pgCC : PySem.W.plainGet K CC Str.empty = true)
    (hdCC : PySem.W.hasDictIn K CC = true)
    (poCC : PySem.W.plainOver K CC = true)
    (saCC : PySem.W.findIn K (.ref CC) "__setattr__" = some (some (.builtin "object.__setattr__")))
    (mkCC : PySem.W.makesIn K CC = true)
    (kpCC : PySem.W.keepIn K (.ref CC) = true)
    (nCC_stone : PySem.W.findIn K (.ref CC) "stone" = some none)
    (nCC_conditions : PySem.W.findIn K (.ref CC) "_conditions" = some none)
    (nCC_need : PySem.W.findIn K (.ref CC) "need" = some none)
    (aCCK : PySem.W.findIn K (.ref CC) "KIND" = some (some uCCK))
    (rlCCK : L2.RelV (.str "count") uCCK)
    (ggCCK : PySem.W.specialIn K uCCK "__get__" = some none)
    (gCS : PySem.W.nsIn K mainGlobals "SameRule" = some (some (.ref CS)))
    (cxCS : PySem.W.clsIn K CS = some cdtCS)
    (tyCS : PySem.W.typeIn K (.ref CS) = some (.type "type"))
    (pgCS : PySem.W.plainGet K CS Str.empty = true)
    (hdCS : PySem.W.hasDictIn K CS = true)
    (poCS : PySem.W.plainOver K CS = true)
    (saCS : PySem.W.findIn K (.ref CS) "__setattr__" = some (some (.builtin "object.__setattr__")))
    (mkCS : PySem.W.makesIn K CS = true)
    (kpCS : PySem.W.keepIn K (.ref CS) = true)
    (nCS_stone : PySem.W.findIn K (.ref CS) "stone" = some none)
    (nCS_conditions : PySem.W.findIn K (.ref CS) "_conditions" = some none)
    (nCS_need : PySem.W.findIn K (.ref CS) "need" = some none)
    (aCSK : PySem.W.findIn K (.ref CS) "KIND" = some (some uCSK))
    (rlCSK : L2.RelV (.str "same") uCSK)
    (ggCSK : PySem.W.specialIn K uCSK "__get__" = some none)
    (aIR : PySem.W.findIn K (.ref CR) "__init__" = some (some (.ref fIR)))
    (iIR : PySem.W.isFn K (.ref fIR) = true)
    (lIR : K.lookup fIR = some ⟨ocIR, odIR, .func (PySem.W.fnOf "__init__" "Rule.__init__" (defArgs cRuleInit) (defBody cRuleInit) (defScope cRuleInit) .none kVIR dcIR pmIR anIR cdIR ctIR), slIR⟩)
    (cIR : PySem.W.codeIn K cdIR "Rule.__init__" = true)
    (kIR : PySem.W.keepIn K (.ref fIR) = true)
    (aIS : PySem.W.findIn K (.ref CS) "__init__" = some (some (.ref fIS)))
    (iIS : PySem.W.isFn K (.ref fIS) = true)
    (lIS : K.lookup fIS = some ⟨ocIS, odIS, .func (PySem.W.fnOf "__init__" "SameRule.__init__" (defArgs cSameRuleInit) (defBody cSameRuleInit) (defScope cSameRuleInit) .none kVIS dcIS pmIS anIS cdIS ctIS), slIS⟩)
    (cIS : PySem.W.codeIn K cdIS "SameRule.__init__" = true)
    (kIS : PySem.W.keepIn K (.ref fIS) = true)
    (gCB : PySem.W.nsIn K mainGlobals "Book" = some (some (.ref CB)))
    (pgCB : PySem.W.plainGet K CB Str.empty = true)
    (hdCB : PySem.W.hasDictIn K CB = true)
    (poCB : PySem.W.plainOver K CB = true)
    (saCB : PySem.W.findIn K (.ref CB) "__setattr__" = some (some (.builtin "object.__setattr__")))
    (mkCB : PySem.W.makesIn K CB = true)
    (kpCB : PySem.W.keepIn K (.ref CB) = true)
    (nCB_rules : PySem.W.findIn K (.ref CB) "_rules" = some none)
    (rdCB : PySem.W.readsIn K CB (.type "type") = true)
    (gaCB : PySem.W.specialIn K (.ref CB) "__getattribute__" = some (some (.builtin "type.__getattribute__")))
    (aIB : PySem.W.findIn K (.ref CB) "__init__" = some (some (.ref fIB)))
    (iIB : PySem.W.isFn K (.ref fIB) = true)
    (lIB : K.lookup fIB = some ⟨ocIB, odIB, .func (PySem.W.fnOf "__init__" "Book.__init__" (defArgs cBookInit) (defBody cBookInit) (defScope cBookInit) .none kVIB dcIB pmIB anIB cdIB ctIB), slIB⟩)
    (cIB : PySem.W.codeIn K cdIB "Book.__init__" = true)
    (kIB : PySem.W.keepIn K (.ref fIB) = true)
    (aBr : PySem.W.findCls K (.ref CB) (.type "type") "read" = some (.get (.builtin "classmethod.__get__") (.ref pBr) .none (.ref CB)))
    (rBr : PySem.W.recIn K pBr "classmethod" = some (.ref fBr :: restBr))
    (iBr : PySem.W.fnIn K fBr = true)
    (lBr : K.lookup fBr = some ⟨ocBr, odBr, .func (PySem.W.fnOf "read" "Book.read" (defArgs cBookRead) (defBody cBookRead) (defScope cBookRead) .none kVBr dcBr pmBr anBr cdBr ctBr), slBr⟩)
    (cBr : PySem.W.codeIn K cdBr "Book.read" = true)
    (kBr : PySem.W.keepIn K (.ref fBr) = true)
    (aBn : PySem.W.findIn K (.ref CB) "__len__" = some (some (.ref fBn)))
    (iBn : PySem.W.isFn K (.ref fBn) = true)
    (lBn : K.lookup fBn = some ⟨ocBn, odBn, .func (PySem.W.fnOf "__len__" "Book.__len__" (defArgs cBookLen) (defBody cBookLen) (defScope cBookLen) .none kVBn dcBn pmBn anBn cdBn ctBn), slBn⟩)
    (cBn : PySem.W.codeIn K cdBn "Book.__len__" = true)
    (kBn : PySem.W.keepIn K (.ref fBn) = true)
    (aIC : PySem.W.findIn K (.ref CC) "__init__" = some (some (.ref fIC)))
    (iIC : PySem.W.isFn K (.ref fIC) = true)
    (lIC : K.lookup fIC = some ⟨ocIC, odIC, .func (PySem.W.fnX "__init__" "CountRule.__init__" (defArgs cCountRuleInit) (defBody cCountRuleInit) (defScope cCountRuleInit) [("__class__", ccIC)] .none kVIC dcIC pmIC anIC (.ref cdaIC) ctIC), slIC⟩)
    (cIC : PySem.W.codeIn K (.ref cdaIC) "CountRule.__init__" = true)
    (xIC : K.lookup ccIC = some ⟨clIC, cldIC, .cell (some (.ref CC)), cslIC⟩)
    (yIC : K.lookup cdaIC = some ⟨cclIC, cddIC, .fields vsIC, ccsIC⟩)
    (vIC : vsIC[2]? = some (.str fileIC tfIC))
    (hIC : ((l.prog.main.file : Str) == fileIC) = true)
    (tIC : (l.prog.main.scope.names.lookup ("super" : Str)).isSome = false)
    (nIC : PySem.W.nsIn K cStatics "thirdparty.any" = some none)
    (mIC : PySem.W.mroIn K CC (.ref CC) = some true)
    (sIC : PySem.W.ks_superIn K CC CC "__init__" = some (some (.ref fIR)))
    (tyIR : PySem.W.typeIn K (.ref fIR) = some (.type "function"))
    (fiIR : PySem.W.fnIn K fIR = true)
    (gCI : PySem.W.nsIn K mainGlobals "InvalidRule" = some (some (.ref CI)))
    (lkCI : K.lookup CI = some (excClassObj nmCI qnCI CI nsCI bsCI bmCI true snCI sbCI abCI coCI ddCI x0CI x1CI x2CI x3CI x5CI "ValueError.__new__"))
    (vbCI : PySem.HandSPX.refsVE bmCI = true)
    (atCI : PySem.W.findIn K (.ref CI) "__init__" = some (some (.ref fEi)))
    (ftCI : PySem.W.typeIn K (.ref fEi) = some (.type "function"))
    (lEi : K.lookup fEi = some ⟨ocEi, odEi, .func (PySem.W.fnOf "__init__" "InvalidRule.__init__" (defArgs cInvalidRuleInit) (defBody cInvalidRuleInit) (defScope cInvalidRuleInit) .none kVEi dcEi pmEi anEi cdEi ctEi), slEi⟩)
    (cEi : PySem.W.codeIn K cdEi "InvalidRule.__init__" = true)
    (kEi : PySem.W.keepIn K (.ref fEi) = true)
    (cxCI : PySem.W.clsIn K CI = some cdtCI)
    (tyCI : PySem.W.typeIn K (.ref CI) = some (.type "type"))
    (hgCI : PySem.W.findIn K (.ref CI) "__getattribute__" = some (some (.builtin "BaseException.__getattribute__")))
    (hkCI : PySem.W.findIn K (.ref CI) "__getattr__" = some none)
    (svCI : PySem.W.subIn K (.ref CI) (.type "BaseException") = some true)
    (sxCI : PySem.W.subIn K (.ref CI) (.ref CI) = some true)
    (icCI : PySem.W.isClsIn K CI = true)
    (haCI : PySem.W.findIn K (.ref CI) "__class__" = some (some (.builtin "object.__class__")))
    (hmCI : PySem.W.mroIn K CI (.type "object") = some true)
    (hdCI : PySem.W.hasDictIn K CI = true)
    (kpCI : PySem.W.keepIn K (.ref CI) = true)
    (nCI_part : PySem.W.findIn K (.ref CI) "part" = some none)
    (saCI : PySem.W.findIn K (.ref CI) "__setattr__" = some (some (.builtin "object.__setattr__")))
    (gCV : PySem.W.nsIn K mainGlobals "InvalidBook" = some (some (.ref CV)))
    (lkCV : K.lookup CV = some (excClassObj nmCV qnCV CV nsCV bsCV bmCV true snCV sbCV abCV coCV ddCV x0CV x1CV x2CV x3CV x5CV "ValueError.__new__"))
    (vbCV : PySem.HandSPX.refsVE bmCV = true)
    (atCV : PySem.W.findIn K (.ref CV) "__init__" = some (some (.ref fEv)))
    (ftCV : PySem.W.typeIn K (.ref fEv) = some (.type "function"))
    (lEv : K.lookup fEv = some ⟨ocEv, odEv, .func (PySem.W.fnOf "__init__" "InvalidBook.__init__" (defArgs cInvalidBookInit) (defBody cInvalidBookInit) (defScope cInvalidBookInit) .none kVEv dcEv pmEv anEv cdEv ctEv), slEv⟩)
    (cEv : PySem.W.codeIn K cdEv "InvalidBook.__init__" = true)
    (kEv : PySem.W.keepIn K (.ref fEv) = true)
    (cxCV : PySem.W.clsIn K CV = some cdtCV)
    (tyCV : PySem.W.typeIn K (.ref CV) = some (.type "type"))
    (hgCV : PySem.W.findIn K (.ref CV) "__getattribute__" = some (some (.builtin "BaseException.__getattribute__")))
    (hkCV : PySem.W.findIn K (.ref CV) "__getattr__" = some none)
    (svCV : PySem.W.subIn K (.ref CV) (.type "BaseException") = some true)
    (sxCV : PySem.W.subIn K (.ref CV) (.ref CV) = some true)
    (icCV : PySem.W.isClsIn K CV = true)
    (haCV : PySem.W.findIn K (.ref CV) "__class__" = some (some (.builtin "object.__class__")))
    (hmCV : PySem.W.mroIn K CV (.type "object") = some true)
    (hdCV : PySem.W.hasDictIn K CV = true)
    (kpCV : PySem.W.keepIn K (.ref CV) = true)
    (nCV_line : PySem.W.findIn K (.ref CV) "line" = some none)
    (saCV : PySem.W.findIn K (.ref CV) "__setattr__" = some (some (.builtin "object.__setattr__")))
    (gCE : PySem.W.nsIn K mainGlobals "SmaltiError" = some (some (.ref CE)))
    (cxCE : PySem.W.clsIn K CE = some cdtCE)
    (tyCE : PySem.W.typeIn K (.ref CE) = some (.type "type"))
    (sbCVCE : PySem.W.subIn K (.ref CV) (.ref CE) = some true)
    (neCVCE : (CV == CE) = false)
    (sbCVCI : PySem.W.subIn K (.ref CV) (.ref CI) = some false)
    (neCVCI : (CV == CI) = false)
    (aIs : PySem.W.nsIn K mainGlobals "is_stone" = some (some (.ref fIs)))
    (lIs : K.lookup fIs = some ⟨ocIs, odIs, .func (PySem.W.fnOf "is_stone" "is_stone" (defArgs gIsStone) (defBody gIsStone) (defScope gIsStone) .none kVIs dcIs pmIs anIs cdIs ctIs), slIs⟩)
    (cIs : PySem.W.codeIn K cdIs "is_stone" = true)
    (kIs : PySem.W.keepIn K (.ref fIs) = true)
    (aDf : PySem.W.nsIn K mainGlobals "are_different_signs" = some (some (.ref fDf)))
    (lDf : K.lookup fDf = some ⟨ocDf, odDf, .func (PySem.W.fnOf "are_different_signs" "are_different_signs" (defArgs gAreDifferentSigns) (defBody gAreDifferentSigns) (defScope gAreDifferentSigns) .none kVDf dcDf pmDf anDf cdDf ctDf), slDf⟩)
    (cDf : PySem.W.codeIn K cdDf "are_different_signs" = true)
    (kDf : PySem.W.keepIn K (.ref fDf) = true)
    (aAs : PySem.W.nsIn K mainGlobals "in_ascii_order" = some (some (.ref fAs)))
    (lAs : K.lookup fAs = some ⟨ocAs, odAs, .func (PySem.W.fnOf "in_ascii_order" "in_ascii_order" (defArgs gInAsciiOrder) (defBody gInAsciiOrder) (defScope gInAsciiOrder) .none kVAs dcAs pmAs anAs cdAs ctAs), slAs⟩)
    (cAs : PySem.W.codeIn K cdAs "in_ascii_order" = true)
    (kAs : PySem.W.keepIn K (.ref fAs) = true)
    (aPc : PySem.W.nsIn K mainGlobals "_is_place" = some (some (.ref fPc)))
    (lPc : K.lookup fPc = some ⟨ocPc, odPc, .func (PySem.W.fnOf "_is_place" "_is_place" (defArgs gIsPlace) (defBody gIsPlace) (defScope gIsPlace) .none kVPc dcPc pmPc anPc cdPc ctPc), slPc⟩)
    (cPc : PySem.W.codeIn K cdPc "_is_place" = true)
    (kPc : PySem.W.keepIn K (.ref fPc) = true)
    (aCk : PySem.W.nsIn K mainGlobals "_check_conditions" = some (some (.ref fCk)))
    (lCk : K.lookup fCk = some ⟨ocCk, odCk, .func (PySem.W.fnOf "_check_conditions" "_check_conditions" (defArgs gCheckConditions) (defBody gCheckConditions) (defScope gCheckConditions) .none kVCk dcCk pmCk anCk cdCk ctCk), slCk⟩)
    (cCk : PySem.W.codeIn K cdCk "_check_conditions" = true)
    (kCk : PySem.W.keepIn K (.ref fCk) = true)
    (aNd : PySem.W.nsIn K mainGlobals "_check_need" = some (some (.ref fNd)))
    (lNd : K.lookup fNd = some ⟨ocNd, odNd, .func (PySem.W.fnOf "_check_need" "_check_need" (defArgs gCheckNeed) (defBody gCheckNeed) (defScope gCheckNeed) .none kVNd dcNd pmNd anNd cdNd ctNd), slNd⟩)
    (cNd : PySem.W.codeIn K cdNd "_check_need" = true)
    (kNd : PySem.W.keepIn K (.ref fNd) = true)
    (aIo : PySem.W.nsIn K mainGlobals "_in_order" = some (some (.ref fIo)))
    (lIo : K.lookup fIo = some ⟨ocIo, odIo, .func (PySem.W.fnOf "_in_order" "_in_order" (defArgs gInOrder) (defBody gInOrder) (defScope gInOrder) .none kVIo dcIo pmIo anIo cdIo ctIo), slIo⟩)
    (cIo : PySem.W.codeIn K cdIo "_in_order" = true)
    (kIo : PySem.W.keepIn K (.ref fIo) = true)
    (aDi : PySem.W.nsIn K mainGlobals "_is_digit" = some (some (.ref fDi)))
    (lDi : K.lookup fDi = some ⟨ocDi, odDi, .func (PySem.W.fnOf "_is_digit" "_is_digit" (defArgs gIsDigit) (defBody gIsDigit) (defScope gIsDigit) .none kVDi dcDi pmDi anDi cdDi ctDi), slDi⟩)
    (cDi : PySem.W.codeIn K cdDi "_is_digit" = true)
    (kDi : PySem.W.keepIn K (.ref fDi) = true)
    (aNu : PySem.W.nsIn K mainGlobals "_is_number" = some (some (.ref fNu)))
    (lNu : K.lookup fNu = some ⟨ocNu, odNu, .func (PySem.W.fnOf "_is_number" "_is_number" (defArgs gIsNumber) (defBody gIsNumber) (defScope gIsNumber) .none kVNu dcNu pmNu anNu cdNu ctNu), slNu⟩)
    (cNu : PySem.W.codeIn K cdNu "_is_number" = true)
    (kNu : PySem.W.keepIn K (.ref fNu) = true)
    (aRp : PySem.W.nsIn K mainGlobals "_read_place" = some (some (.ref fRp)))
    (lRp : K.lookup fRp = some ⟨ocRp, odRp, .func (PySem.W.fnOf "_read_place" "_read_place" (defArgs gReadPlace) (defBody gReadPlace) (defScope gReadPlace) .none kVRp dcRp pmRp anRp cdRp ctRp), slRp⟩)
    (cRp : PySem.W.codeIn K cdRp "_read_place" = true)
    (kRp : PySem.W.keepIn K (.ref fRp) = true)
    (aRc : PySem.W.nsIn K mainGlobals "_read_condition" = some (some (.ref fRc)))
    (lRc : K.lookup fRc = some ⟨ocRc, odRc, .func (PySem.W.fnOf "_read_condition" "_read_condition" (defArgs gReadCondition) (defBody gReadCondition) (defScope gReadCondition) .none kVRc dcRc pmRc anRc cdRc ctRc), slRc⟩)
    (cRc : PySem.W.codeIn K cdRc "_read_condition" = true)
    (kRc : PySem.W.keepIn K (.ref fRc) = true)
    (aRr : PySem.W.nsIn K mainGlobals "read_rule" = some (some (.ref fRr)))
    (lRr : K.lookup fRr = some ⟨ocRr, odRr, .func (PySem.W.fnOf "read_rule" "read_rule" (defArgs gReadRule) (defBody gReadRule) (defScope gReadRule) .none kVRr dcRr pmRr anRr cdRr ctRr), slRr⟩)
    (cRr : PySem.W.codeIn K cdRr "read_rule" = true)
    (kRr : PySem.W.keepIn K (.ref fRr) = true)
    (aRl : PySem.W.nsIn K mainGlobals "_read_line" = some (some (.ref fRl)))
    (lRl : K.lookup fRl = some ⟨ocRl, odRl, .func (PySem.W.fnOf "_read_line" "_read_line" (defArgs gReadLine) (defBody gReadLine) (defScope gReadLine) .none kVRl dcRl pmRl anRl cdRl ctRl), slRl⟩)
    (cRl : PySem.W.codeIn K cdRl "_read_line" = true)
    (kRl : PySem.W.keepIn K (.ref fRl) = true)
    (aBag : PySem.W.nsIn K mainGlobals "_law_bag" = some (some (.ref fBag)))
    (lBag : K.lookup fBag = some ⟨ocBag, odBag, .func (PySem.W.fnOf "_law_bag" "_law_bag" (defArgs lBag) (defBody lBag) (defScope lBag) .none kVBag dcBag pmBag anBag cdBag ctBag), slBag⟩)
    (cBag : PySem.W.codeIn K cdBag "_law_bag" = true)
    (kBag : PySem.W.keepIn K (.ref fBag) = true)
    (aTake : PySem.W.nsIn K mainGlobals "_law_take" = some (some (.ref fTake)))
    (lTake : K.lookup fTake = some ⟨ocTake, odTake, .func (PySem.W.fnOf "_law_take" "_law_take" (defArgs lTake) (defBody lTake) (defScope lTake) .none kVTake dcTake pmTake anTake cdTake ctTake), slTake⟩)
    (cTake : PySem.W.codeIn K cdTake "_law_take" = true)
    (kTake : PySem.W.keepIn K (.ref fTake) = true)
    (aPal : PySem.W.nsIn K mainGlobals "_law_palette" = some (some (.ref fPal)))
    (lPal : K.lookup fPal = some ⟨ocPal, odPal, .func (PySem.W.fnOf "_law_palette" "_law_palette" (defArgs lPalette) (defBody lPalette) (defScope lPalette) .none kVPal dcPal pmPal anPal cdPal ctPal), slPal⟩)
    (cPal : PySem.W.codeIn K cdPal "_law_palette" = true)
    (kPal : PySem.W.keepIn K (.ref fPal) = true)
    (aOf : PySem.W.nsIn K mainGlobals "_law_offset" = some (some (.ref fOf)))
    (lOf : K.lookup fOf = some ⟨ocOf, odOf, .func (PySem.W.fnOf "_law_offset" "_law_offset" (defArgs lOffset) (defBody lOffset) (defScope lOffset) .none kVOf dcOf pmOf anOf cdOf ctOf), slOf⟩)
    (cOf : PySem.W.codeIn K cdOf "_law_offset" = true)
    (kOf : PySem.W.keepIn K (.ref fOf) = true)
    (aSg : PySem.W.nsIn K mainGlobals "_law_signs" = some (some (.ref fSg)))
    (lSg : K.lookup fSg = some ⟨ocSg, odSg, .func (PySem.W.fnOf "_law_signs" "_law_signs" (defArgs lSigns) (defBody lSigns) (defScope lSigns) .none kVSg dcSg pmSg anSg cdSg ctSg), slSg⟩)
    (cSg : PySem.W.codeIn K cdSg "_law_signs" = true)
    (kSg : PySem.W.keepIn K (.ref fSg) = true)
    (aPa : PySem.W.nsIn K mainGlobals "_law_parts" = some (some (.ref fPa)))
    (lPa : K.lookup fPa = some ⟨ocPa, odPa, .func (PySem.W.fnOf "_law_parts" "_law_parts" (defArgs lParts) (defBody lParts) (defScope lParts) .none kVPa dcPa pmPa anPa cdPa ctPa), slPa⟩)
    (cPa : PySem.W.codeIn K cdPa "_law_parts" = true)
    (kPa : PySem.W.keepIn K (.ref fPa) = true)
    (aRu : PySem.W.nsIn K mainGlobals "_law_rule" = some (some (.ref fRu)))
    (lRu : K.lookup fRu = some ⟨ocRu, odRu, .func (PySem.W.fnOf "_law_rule" "_law_rule" (defArgs lRule) (defBody lRule) (defScope lRule) .none kVRu dcRu pmRu anRu cdRu ctRu), slRu⟩)
    (cRu : PySem.W.codeIn K cdRu "_law_rule" = true)
    (kRu : PySem.W.keepIn K (.ref fRu) = true)
    (aRs : PySem.W.nsIn K mainGlobals "_law_rules" = some (some (.ref fRs)))
    (lRs : K.lookup fRs = some ⟨ocRs, odRs, .func (PySem.W.fnOf "_law_rules" "_law_rules" (defArgs lRules) (defBody lRules) (defScope lRules) .none kVRs dcRs pmRs anRs cdRs ctRs), slRs⟩)
    (cRs : PySem.W.codeIn K cdRs "_law_rules" = true)
    (kRs : PySem.W.keepIn K (.ref fRs) = true)
    (aSp : PySem.W.nsIn K mainGlobals "_law_sorted_parts" = some (some (.ref fSp)))
    (lSp : K.lookup fSp = some ⟨ocSp, odSp, .func (PySem.W.fnOf "_law_sorted_parts" "_law_sorted_parts" (defArgs lSortedParts) (defBody lSortedParts) (defScope lSortedParts) .none kVSp dcSp pmSp anSp cdSp ctSp), slSp⟩)
    (cSp : PySem.W.codeIn K cdSp "_law_sorted_parts" = true)
    (kSp : PySem.W.keepIn K (.ref fSp) = true)
    (aWt : PySem.W.nsIn K mainGlobals "_law_written" = some (some (.ref fWt)))
    (lWt : K.lookup fWt = some ⟨ocWt, odWt, .func (PySem.W.fnOf "_law_written" "_law_written" (defArgs lWritten) (defBody lWritten) (defScope lWritten) .none kVWt dcWt pmWt anWt cdWt ctWt), slWt⟩)
    (cWt : PySem.W.codeIn K cdWt "_law_written" = true)
    (kWt : PySem.W.keepIn K (.ref fWt) = true)
    (aLe : PySem.W.nsIn K mainGlobals "_law_is_letter" = some (some (.ref fLe)))
    (lLe : K.lookup fLe = some ⟨ocLe, odLe, .func (PySem.W.fnOf "_law_is_letter" "_law_is_letter" (defArgs lIsLetter) (defBody lIsLetter) (defScope lIsLetter) .none kVLe dcLe pmLe anLe cdLe ctLe), slLe⟩)
    (cLe : PySem.W.codeIn K cdLe "_law_is_letter" = true)
    (kLe : PySem.W.keepIn K (.ref fLe) = true)
    (aBp : PySem.W.nsIn K mainGlobals "_law_bad_part" = some (some (.ref fBp)))
    (lBp : K.lookup fBp = some ⟨ocBp, odBp, .func (PySem.W.fnOf "_law_bad_part" "_law_bad_part" (defArgs lBadPart) (defBody lBadPart) (defScope lBadPart) .none kVBp dcBp pmBp anBp cdBp ctBp), slBp⟩)
    (cBp : PySem.W.codeIn K cdBp "_law_bad_part" = true)
    (kBp : PySem.W.keepIn K (.ref fBp) = true)
    (aFa : PySem.W.nsIn K mainGlobals "_law_fault" = some (some (.ref fFa)))
    (lFa : K.lookup fFa = some ⟨ocFa, odFa, .func (PySem.W.fnOf "_law_fault" "_law_fault" (defArgs lFault) (defBody lFault) (defScope lFault) .none kVFa dcFa pmFa anFa cdFa ctFa), slFa⟩)
    (cFa : PySem.W.codeIn K cdFa "_law_fault" = true)
    (kFa : PySem.W.keepIn K (.ref fFa) = true)
    (aNm : PySem.W.nsIn K mainGlobals "_law_number" = some (some (.ref fNm)))
    (lNm : K.lookup fNm = some ⟨ocNm, odNm, .func (PySem.W.fnOf "_law_number" "_law_number" (defArgs lNumber) (defBody lNumber) (defScope lNumber) .none kVNm dcNm pmNm anNm cdNm ctNm), slNm⟩)
    (cNm : PySem.W.codeIn K cdNm "_law_number" = true)
    (kNm : PySem.W.keepIn K (.ref fNm) = true)
    (aWp : PySem.W.nsIn K mainGlobals "_law_word_part" = some (some (.ref fWp)))
    (lWp : K.lookup fWp = some ⟨ocWp, odWp, .func (PySem.W.fnOf "_law_word_part" "_law_word_part" (defArgs lWordPart) (defBody lWordPart) (defScope lWordPart) .none kVWp dcWp pmWp anWp cdWp ctWp), slWp⟩)
    (cWp : PySem.W.codeIn K cdWp "_law_word_part" = true)
    (kWp : PySem.W.keepIn K (.ref fWp) = true)
    (aLf : PySem.W.nsIn K mainGlobals "_law_line_fault" = some (some (.ref fLf)))
    (lLf : K.lookup fLf = some ⟨ocLf, odLf, .func (PySem.W.fnOf "_law_line_fault" "_law_line_fault" (defArgs lLineFault) (defBody lLineFault) (defScope lLineFault) .none kVLf dcLf pmLf anLf cdLf ctLf), slLf⟩)
    (cLf : PySem.W.codeIn K cdLf "_law_line_fault" = true)
    (kLf : PySem.W.keepIn K (.ref fLf) = true)
    (aMd : PySem.W.nsIn K mainGlobals "_law_made" = some (some (.ref fMd)))
    (lMd : K.lookup fMd = some ⟨ocMd, odMd, .func (PySem.W.fnOf "_law_made" "_law_made" (defArgs lMade) (defBody lMade) (defScope lMade) .none kVMd dcMd pmMd anMd cdMd ctMd), slMd⟩)
    (cMd : PySem.W.codeIn K cdMd "_law_made" = true)
    (kMd : PySem.W.keepIn K (.ref fMd) = true)
    (aMf : PySem.W.nsIn K mainGlobals "_law_made_of" = some (some (.ref fMf)))
    (lMf : K.lookup fMf = some ⟨ocMf, odMf, .func (PySem.W.fnOf "_law_made_of" "_law_made_of" (defArgs lMadeOf) (defBody lMadeOf) (defScope lMadeOf) .none kVMf dcMf pmMf anMf cdMf ctMf), slMf⟩)
    (cMf : PySem.W.codeIn K cdMf "_law_made_of" = true)
    (kMf : PySem.W.keepIn K (.ref fMf) = true)
    (aLo : PySem.W.nsIn K mainGlobals "_law_line_of" = some (some (.ref fLo)))
    (lLo : K.lookup fLo = some ⟨ocLo, odLo, .func (PySem.W.fnOf "_law_line_of" "_law_line_of" (defArgs lLineOf) (defBody lLineOf) (defScope lLineOf) .none kVLo dcLo pmLo anLo cdLo ctLo), slLo⟩)
    (cLo : PySem.W.codeIn K cdLo "_law_line_of" = true)
    (kLo : PySem.W.keepIn K (.ref fLo) = true)
    (aDu : PySem.W.nsIn K mainGlobals "_law_due" = some (some (.ref fDu)))
    (lDu : K.lookup fDu = some ⟨ocDu, odDu, .func (PySem.W.fnOf "_law_due" "_law_due" (defArgs lDue) (defBody lDue) (defScope lDue) .none kVDu dcDu pmDu anDu cdDu ctDu), slDu⟩)
    (cDu : PySem.W.codeIn K cdDu "_law_due" = true)
    (kDu : PySem.W.keepIn K (.ref fDu) = true)
    (aIi : PySem.W.nsIn K mainGlobals "_law_is_int" = some (some (.ref fIi)))
    (lIi : K.lookup fIi = some ⟨ocIi, odIi, .func (PySem.W.fnOf "_law_is_int" "_law_is_int" (defArgs lIsInt) (defBody lIsInt) (defScope lIsInt) .none kVIi dcIi pmIi anIi cdIi ctIi), slIi⟩)
    (cIi : PySem.W.codeIn K cdIi "_law_is_int" = true)
    (kIi : PySem.W.keepIn K (.ref fIi) = true)
    (aLaw : PySem.W.nsIn K mainGlobals "law" = some (some (.ref fLaw)))
    (lLaw : K.lookup fLaw = some ⟨ocLaw, odLaw, .func (PySem.W.fnOf "law" "law" (defArgs lLaw) (defBody lLaw) (defScope lLaw) .none kVLaw dcLaw pmLaw anLaw cdLaw ctLaw), slLaw⟩)
    (cLaw : PySem.W.codeIn K cdLaw "law" = true)
    (kLaw : PySem.W.keepIn K (.ref fLaw) = true)
    (zisinstance : PySem.W.nsIn K mainGlobals "isinstance" = some none)
    (zint : PySem.W.nsIn K mainGlobals "int" = some none)
    (zbool : PySem.W.nsIn K mainGlobals "bool" = some none)
    (ztuple : PySem.W.nsIn K mainGlobals "tuple" = some none)
    (zlist : PySem.W.nsIn K mainGlobals "list" = some none)
    (zlen : PySem.W.nsIn K mainGlobals "len" = some none)
    (zrange : PySem.W.nsIn K mainGlobals "range" = some none)
    (zall : PySem.W.nsIn K mainGlobals "all" = some none)
    (zenumerate : PySem.W.nsIn K mainGlobals "enumerate" = some none)
    (zsorted : PySem.W.nsIn K mainGlobals "sorted" = some none)
    (zset : PySem.W.nsIn K mainGlobals "set" = some none)
    (zstr : PySem.W.nsIn K mainGlobals "str" = some none)
    (zsuper : PySem.W.nsIn K mainGlobals "super" = some none) :
    ∃ fd : FuncData, (∀ (s : Shared) (v : Value), BindsTo s fd ⟨[v], []⟩ [("_law_script", v)]) ∧ ∀ base : Heap, K.In base → base.Ns mainGlobals mg → FnOk l.prog w K mg base CX0 11 fa fd ["_law_script"] (spLaw K) := by
  have e := hfa.symm.trans (PySem.W.mg_of X G aLaw)
  cases e
  have g : ∀ {x : Str} {u : Value}, PySem.W.nsIn K mainGlobals x = some (some u) → mg x = some u := fun z => PySem.W.mg_of X G z
  have n : ∀ {x : Str}, PySem.W.nsIn K mainGlobals x = some none → mg x = none := fun z => PySem.W.mg_none_of X G z
  have clCR : L2.Cls K CR := ⟨pgCR, hdCR, poCR, saCR⟩
  have clCC : L2.Cls K CC := ⟨pgCC, hdCC, poCC, saCC⟩
  have clCS : L2.Cls K CS := ⟨pgCS, hdCS, poCS, saCS⟩
  have FIR := fun_mk (st := Pm.cRuleInit) lIR cIR kIR
  have bIR := FIR.binds (ps := ["self", "stone", "conditions"]) fun _ _ _ _ _ _ us hl => match us, hl with | [_, _, _], _ => rfl
  have FIS := fun_mk (st := Pm.cSameRuleInit) lIS cIS kIS
  have bIS := FIS.binds (ps := ["self", "places", "need"]) fun _ _ _ _ _ _ us hl => match us, hl with | [_, _, _], _ => rfl
  have clCB : L2.Cls K CB := ⟨pgCB, hdCB, poCB, saCB⟩
  have FIB := fun_mk (st := Pm.cBookInit) lIB cIB kIB
  have bIB := FIB.binds (ps := ["self", "rules"]) fun _ _ _ _ _ _ us hl => match us, hl with | [_, _], _ => rfl
  have FBr := fun_mk (st := Pm.cBookRead) lBr cBr kBr
  have bBr := FBr.binds (ps := ["cls", "text"]) fun _ _ _ _ _ _ us hl => match us, hl with | [_, _], _ => rfl
  have MBr : ClX.CMet K CB (.type "type") "read" pBr fBr := ⟨aBr, ⟨_, rBr⟩, iBr⟩
  have FBn := fun_mk (st := Pm.cBookLen) lBn cBn kBn
  have bBn := FBn.binds (ps := ["self"]) fun _ _ _ _ _ _ us hl => match us, hl with | [_], _ => rfl
  have FIC : FunS l.prog K "__init__" "CountRule.__init__" cCountRuleInit CC fIC ccIC cdaIC _ := ⟨⟨_, _, _, _, _, _, _, _, _, rfl, lIC, cIC⟩, ⟨_, _, _, xIC⟩, ⟨_, _, _, _, _, _, yIC, vIC, hIC⟩, ⟨_, cxCC⟩, tIC, nIC, ⟨_, rfl, rfl⟩⟩
  have bIC : Binds K (PySem.W.fnX "__init__" "CountRule.__init__" (defArgs cCountRuleInit) (defBody cCountRuleInit) (defScope cCountRuleInit) [("__class__", ccIC)] .none kVIC dcIC pmIC anIC (.ref cdaIC) ctIC) ["self", "stone", "conditions", "need"] [] := .all fun us hl => match us, hl with | [_, _, _, _], _ => rfl
  have FEi := fun_mk (st := Pm.cInvalidRuleInit) lEi cEi kEi
  have bEi := FEi.binds (ps := ["self", "part"]) fun _ _ _ _ _ _ us hl => match us, hl with | [_, _], _ => rfl
  have erCI : ErrC K CI := ⟨by rw [cxCI]; rfl, hgCI, hkCI, svCI, haCI, cn, ct, hmCI, hdCI⟩
  have teCI : PySem.W.exmOne K (.ref CI) (.ref CI) = some true := exm_self svCI icCI tyCI sxCI
  have oxCI : OexC K CI := ⟨⟨nmCI, qnCI, nsCI, bsCI, bmCI, snCI, sbCI, abCI, coCI, ddCI, x0CI, x1CI, x2CI, x3CI, x5CI, lkCI, vbCI⟩, saCI, svCI, tyCI, kpCI⟩
  have FEv := fun_mk (st := Pm.cInvalidBookInit) lEv cEv kEv
  have bEv := FEv.binds (ps := ["self", "line"]) fun _ _ _ _ _ _ us hl => match us, hl with | [_, _], _ => rfl
  have erCV : ErrC K CV := ⟨by rw [cxCV]; rfl, hgCV, hkCV, svCV, haCV, cn, ct, hmCV, hdCV⟩
  have teCV : PySem.W.exmOne K (.ref CV) (.ref CV) = some true := exm_self svCV icCV tyCV sxCV
  have oxCV : OexC K CV := ⟨⟨nmCV, qnCV, nsCV, bsCV, bmCV, snCV, sbCV, abCV, coCV, ddCV, x0CV, x1CV, x2CV, x3CV, x5CV, lkCV, vbCV⟩, saCV, svCV, tyCV, kpCV⟩
  have kitCVCE : PySem.W.kitOne K (.ref CV) (.ref CE) = some true := kit_cls neCVCE cxCE tyCE sbCVCE
  have kitCVCI : PySem.W.kitOne K (.ref CV) (.ref CI) = some false := kit_cls neCVCI cxCI tyCI sbCVCI
  have FIs := fun_mk (st := Pm.gIsStone) lIs cIs kIs
  have bIs := FIs.binds (ps := ["sign"]) fun _ _ _ _ _ _ us hl => match us, hl with | [_], _ => rfl
  have FDf := fun_mk (st := Pm.gAreDifferentSigns) lDf cDf kDf
  have bDf := FDf.binds (ps := ["signs", "besides"]) fun _ _ _ _ _ _ us hl => match us, hl with | [_, _], _ => rfl
  have FAs := fun_mk (st := Pm.gInAsciiOrder) lAs cAs kAs
  have bAs := FAs.binds (ps := ["signs"]) fun _ _ _ _ _ _ us hl => match us, hl with | [_], _ => rfl
  have FPc := fun_mk (st := Pm.gIsPlace) lPc cPc kPc
  have bPc := FPc.binds (ps := ["dx", "dy"]) fun _ _ _ _ _ _ us hl => match us, hl with | [_, _], _ => rfl
  have FCk := fun_mk (st := Pm.gCheckConditions) lCk cCk kCk
  have bCk := FCk.binds (ps := ["conditions"]) fun _ _ _ _ _ _ us hl => match us, hl with | [_], _ => rfl
  have FNd := fun_mk (st := Pm.gCheckNeed) lNd cNd kNd
  have bNd := FNd.binds (ps := ["need", "count"]) fun _ _ _ _ _ _ us hl => match us, hl with | [_, _], _ => rfl
  have FIo := fun_mk (st := Pm.gInOrder) lIo cIo kIo
  have bIo := FIo.binds (ps := ["conditions"]) fun _ _ _ _ _ _ us hl => match us, hl with | [_], _ => rfl
  have FDi := fun_mk (st := Pm.gIsDigit) lDi cDi kDi
  have bDi := FDi.binds (ps := ["text"]) fun _ _ _ _ _ _ us hl => match us, hl with | [_], _ => rfl
  have FNu := fun_mk (st := Pm.gIsNumber) lNu cNu kNu
  have bNu := FNu.binds (ps := ["text"]) fun _ _ _ _ _ _ us hl => match us, hl with | [_], _ => rfl
  have FRp := fun_mk (st := Pm.gReadPlace) lRp cRp kRp
  have bRp := FRp.binds (ps := ["word", "part"]) fun _ _ _ _ _ _ us hl => match us, hl with | [_, _], _ => rfl
  have FRc := fun_mk (st := Pm.gReadCondition) lRc cRc kRc
  have bRc := FRc.binds (ps := ["word", "part"]) fun _ _ _ _ _ _ us hl => match us, hl with | [_, _], _ => rfl
  have FRr := fun_mk (st := Pm.gReadRule) lRr cRr kRr
  have bRr := FRr.binds (ps := ["line"]) fun _ _ _ _ _ _ us hl => match us, hl with | [_], _ => rfl
  have FRl := fun_mk (st := Pm.gReadLine) lRl cRl kRl
  have bRl := FRl.binds (ps := ["text", "line"]) fun _ _ _ _ _ _ us hl => match us, hl with | [_, _], _ => rfl
  have FBag := fun_mk (st := Pm.lBag) lBag cBag kBag
  have bBag := FBag.binds (ps := ["_law_script"]) fun _ _ _ _ _ _ us hl => match us, hl with | [_], _ => rfl
  have FTake := fun_mk (st := Pm.lTake) lTake cTake kTake
  have bTake := FTake.binds (ps := ["_law_bag_here", "_law_size"]) fun _ _ _ _ _ _ us hl => match us, hl with | [_, _], _ => rfl
  have FPal := fun_mk (st := Pm.lPalette) lPal cPal kPal
  have bPal := FPal.binds (ps := ["_law_bag_here"]) fun _ _ _ _ _ _ us hl => match us, hl with | [_], _ => rfl
  have FOf := fun_mk (st := Pm.lOffset) lOf cOf kOf
  have bOf := FOf.binds (ps := ["_law_bag_here"]) fun _ _ _ _ _ _ us hl => match us, hl with | [_], _ => rfl
  have FSg := fun_mk (st := Pm.lSigns) lSg cSg kSg
  have bSg := FSg.binds (ps := ["_law_bag_here", "_law_palette_here"]) fun _ _ _ _ _ _ us hl => match us, hl with | [_, _], _ => rfl
  have FPa := fun_mk (st := Pm.lParts) lPa cPa kPa
  have bPa := FPa.binds (ps := ["_law_bag_here", "_law_palette_here"]) fun _ _ _ _ _ _ us hl => match us, hl with | [_, _], _ => rfl
  have FRu := fun_mk (st := Pm.lRule) lRu cRu kRu
  have bRu := FRu.binds (ps := ["_law_bag_here", "_law_palette_here"]) fun _ _ _ _ _ _ us hl => match us, hl with | [_, _], _ => rfl
  have FRs := fun_mk (st := Pm.lRules) lRs cRs kRs
  have bRs := FRs.binds (ps := ["_law_bag_here", "_law_palette_here"]) fun _ _ _ _ _ _ us hl => match us, hl with | [_, _], _ => rfl
  have FSp := fun_mk (st := Pm.lSortedParts) lSp cSp kSp
  have bSp := FSp.binds (ps := ["_law_rule_here"]) fun _ _ _ _ _ _ us hl => match us, hl with | [_], _ => rfl
  have FWt := fun_mk (st := Pm.lWritten) lWt cWt kWt
  have bWt := FWt.binds (ps := ["_law_rule_here"]) fun _ _ _ _ _ _ us hl => match us, hl with | [_], _ => rfl
  have FLe := fun_mk (st := Pm.lIsLetter) lLe cLe kLe
  have bLe := FLe.binds (ps := ["_law_text"]) fun _ _ _ _ _ _ us hl => match us, hl with | [_], _ => rfl
  have FBp := fun_mk (st := Pm.lBadPart) lBp cBp kBp
  have bBp := FBp.binds (ps := ["_law_part", "_law_earlier"]) fun _ _ _ _ _ _ us hl => match us, hl with | [_, _], _ => rfl
  have FFa := fun_mk (st := Pm.lFault) lFa cFa kFa
  have bFa := FFa.binds (ps := ["_law_rule_here"]) fun _ _ _ _ _ _ us hl => match us, hl with | [_], _ => rfl
  have FNm := fun_mk (st := Pm.lNumber) lNm cNm kNm
  have bNm := FNm.binds (ps := ["_law_word"]) fun _ _ _ _ _ _ us hl => match us, hl with | [_], _ => rfl
  have FWp := fun_mk (st := Pm.lWordPart) lWp cWp kWp
  have bWp := FWp.binds (ps := ["_law_word", "_law_same"]) fun _ _ _ _ _ _ us hl => match us, hl with | [_, _], _ => rfl
  have FLf := fun_mk (st := Pm.lLineFault) lLf cLf kLf
  have bLf := FLf.binds (ps := ["_law_line"]) fun _ _ _ _ _ _ us hl => match us, hl with | [_], _ => rfl
  have FMd := fun_mk (st := Pm.lMade) lMd cMd kMd
  have bMd := FMd.binds (ps := ["_law_rule_here"]) fun _ _ _ _ _ _ us hl => match us, hl with | [_], _ => rfl
  have FMf := fun_mk (st := Pm.lMadeOf) lMf cMf kMf
  have bMf := FMf.binds (ps := ["_law_rules_here"]) fun _ _ _ _ _ _ us hl => match us, hl with | [_], _ => rfl
  have FLo := fun_mk (st := Pm.lLineOf) lLo cLo kLo
  have bLo := FLo.binds (ps := ["_law_text"]) fun _ _ _ _ _ _ us hl => match us, hl with | [_], _ => rfl
  have FDu := fun_mk (st := Pm.lDue) lDu cDu kDu
  have bDu := FDu.binds (ps := ["_law_text"]) fun _ _ _ _ _ _ us hl => match us, hl with | [_], _ => rfl
  have FIi := fun_mk (st := Pm.lIsInt) lIi cIi kIi
  have bIi := FIi.binds (ps := ["_law_value"]) fun _ _ _ _ _ _ us hl => match us, hl with | [_], _ => rfl
  have FLaw := fun_mk (st := Pm.lLaw) lLaw cLaw kLaw
  refine ⟨PySem.W.fnOf "law" "law" (defArgs Pm.lLaw) (defBody Pm.lLaw) (defScope Pm.lLaw) .none kVLaw dcLaw pmLaw anLaw cdLaw ctLaw, fun s v => .of_eq rfl, fun base _ _ => ?_⟩
  have L : LTxt K mg := ⟨n zisinstance, n zint, n zlist, n zlen, n zrange⟩
  have B : BTx mg := ⟨n zbool, n ztuple, n zstr⟩
  have R : STxt K mg := ⟨n zset, n zsorted⟩
  have U : UTx K mg := ⟨⟨_, g aRe, rlRe⟩, ⟨_, g aMc, rlMc⟩⟩
  have T : PTxt K mg C := ⟨g gC, ⟨_, ⟨rdC, gaC⟩, ⟨_, aHo, rlHo⟩, ⟨_, aEd, rlEd⟩⟩, ⟨_, g aSn, rlSn⟩, ⟨_, g aMo, rlMo⟩, n zall, n zenumerate⟩
  have TR : RCls K CR := ⟨clCR, nCR_stone, nCR_conditions, nCR_need⟩
  have TC : RCls K CC := ⟨clCC, nCC_stone, nCC_conditions, nCC_need⟩
  have TS : RCls K CS := ⟨clCS, nCS_stone, nCS_conditions, nCS_need⟩
  have Gt : GTx mg CR CC CS := ⟨g gCR, g gCC, g gCS⟩
  have cIs : Cl l.prog w K mg base CX0 1 "is_stone" ["sign"] spStone fIs _ := ⟨ok_stone FIs L T, kIs, bIs, g aIs⟩
  have cDf : Cl l.prog w K mg base CX0 2 "are_different_signs" ["signs", "besides"] spDiff fDf _ := ⟨ok_differ FDf cIs L T R, kDf, bDf, g aDf⟩
  have cAs : Cl l.prog w K mg base CX0 1 "in_ascii_order" ["signs"] spAsc fAs _ := ⟨ok_asc FAs R, kAs, bAs, g aAs⟩
  have cPc : Cl l.prog w K mg base CX0 1 "_is_place" ["dx", "dy"] spPlace fPc _ := ⟨ok_place FPc U, kPc, bPc, g aPc⟩
  have xI : EMk l.prog w K mg base CI "InvalidRule" ["self", "part"] (spE1 CI "part") fEi _ := ⟨oxCI, atCI, ftCI, okEInvalidRule FEi oxCI nCI_part, bEi, g gCI⟩
  have cCk : Cl l.prog w K mg base (L2.CX l.prog w) 3 "_check_conditions" ["conditions"] (spCheck CI) fCk _ := ⟨ok_check FCk cPc cDf xI T R U, kCk, bCk, g aCk⟩
  have cNd : Cl l.prog w K mg base (L2.CX l.prog w) 3 "_check_need" ["need", "count"] (spNeed CI) fNd _ := ⟨ok_need FNd xI, kNd, bNd, g aNd⟩
  have cIo : Cl l.prog w K mg base CX0 2 "_in_order" ["conditions"] spInOrder fIo _ := ⟨ok_inorder FIo cAs R, kIo, bIo, g aIo⟩
  have cTake : Cl l.prog w K mg base CX0 1 "_law_take" tkNames spTake fTake _ := ⟨ok_take FTake L.len L.int, kTake, bTake, g aTake⟩
  have cOf : Cl l.prog w K mg base CX0 2 "_law_offset" ["_law_bag_here"] spOffset fOf _ := ⟨ok_offset FOf cTake L, kOf, bOf, g aOf⟩
  have cSg : Cl l.prog w K mg base CX0 2 "_law_signs" ["_law_bag_here", "_law_palette_here"] spSigns fSg _ := ⟨ok_signs FSg cTake, kSg, bSg, g aSg⟩
  have cPa : Cl l.prog w K mg base CX0 3 "_law_parts" ["_law_bag_here", "_law_palette_here"] spParts fPa _ := ⟨ok_parts FPa cTake cOf cSg L, kPa, bPa, g aPa⟩
  have cRu : Cl l.prog w K mg base CX0 4 "_law_rule" ["_law_bag_here", "_law_palette_here"] spRule fRu _ := ⟨ok_rule FRu cTake cPa L, kRu, bRu, g aRu⟩
  have W : WTx K mg := ⟨⟨_, g aWa, rlWa⟩, ⟨_, g aWs, rlWs⟩, n zstr⟩
  have DT : DTx K mg := ⟨⟨_, g aDg, rlDg⟩⟩
  have cDi : Cl l.prog w K mg base CX0 1 "_is_digit" ["text"] spDigit fDi _ := ⟨ok_digit FDi L DT, kDi, bDi, g aDi⟩
  have cNu : Cl l.prog w K mg base CX0 2 "_is_number" ["text"] spNumber fNu _ := ⟨ok_number FNu cDi, kNu, bNu, g aNu⟩
  have cNd2 : Cl l.prog w K mg base (L2N.CX l.prog w) 3 "_check_need" ["need", "count"] (spNeed CI) fNd _ := ⟨PmN.ok_need FNd xI, kNd, bNd, g aNd⟩
  have cCk2 : Cl l.prog w K mg base (L2N.CX l.prog w) 3 "_check_conditions" ["conditions"] (spCheck CI) fCk _ := ⟨PmN.ok_check FCk cPc cDf xI T R U, kCk, bCk, g aCk⟩
  have OIR2 := PmN.ok_ruleinit FIR cIs cCk2 cIo xI
  have OIC2 := PmN.ok_countinit FIC (n zsuper) ⟨mIC, sIC, tyIR, fiIR⟩ OIR2 bIR cNd2 L TC
  have OIS2 := PmN.ok_sameinit FIS cCk2 cIo cNd2 L T TS
  have kR2 : PmN.CtorN l.prog w K mg base CR 4 ["self", "stone", "conditions"] (spRuleInit CI K) fIR _ := ⟨⟨mkCR, aIR, iIR, kpCR⟩, OIR2, bIR, TR⟩
  have kC2 : PmN.CtorN l.prog w K mg base CC 5 ["self", "stone", "conditions", "need"] (spCountInit CI CC K) fIC _ := ⟨⟨mkCC, aIC, iIC, kpCC⟩, OIC2, bIC, TC⟩
  have kS2 : PmN.CtorN l.prog w K mg base CS 5 ["self", "places", "need"] (spSameInit CI CS K) fIS _ := ⟨⟨mkCS, aIS, iIS, kpCS⟩, OIS2, bIS, TS⟩
  have cRp : Cl l.prog w K mg base (L2N.CX l.prog w) 3 "_read_place" ["word", "part"] (spReadP CI) fRp _ := ⟨PmN.ok_readp FRp cNu L xI, kRp, bRp, g aRp⟩
  have cRc : Cl l.prog w K mg base (L2N.CX l.prog w) 4 "_read_condition" ["word", "part"] (spReadC CI) fRc _ := ⟨PmN.ok_readc FRc cRp xI, kRc, bRc, g aRc⟩
  have cRx : Cl l.prog w K mg base (L2N.CX l.prog w) 7 "read_rule" ["line"] (spReadX CI CR CC CS) fRr _ := ⟨PmN.ok_readX FRr L W T Gt cDi cIs cRp cRc kR2 kC2 kS2 xI, kRr, bRr, g aRr⟩
  have cSp : Cl l.prog w K mg base CX0 1 "_law_sorted_parts" ["_law_rule_here"] (spG K gSorted) fSp _ := ⟨ok_sorted FSp R, kSp, bSp, g aSp⟩
  have cWt : Cl l.prog w K mg base CX0 2 "_law_written" ["_law_rule_here"] (spG K gWritten) fWt _ := ⟨ok_writtenL FWt cSp R W, kWt, bWt, g aWt⟩
  have MR : MTx mg := ⟨_, g aMr, rlMr⟩
  have TB : BCls K CB := ⟨clCB, nCB_rules⟩
  have xV : EMk l.prog w K mg base CV "InvalidBook" ["self", "line"] (spE1 CV "line") fEv _ := ⟨oxCV, atCV, ftCV, okEInvalidBook FEv oxCV nCV_line, bEv, g gCV⟩
  have MI : Mk K CB fIB := ⟨mkCB, aIB, iIB, kpCB⟩
  have OIB := ok_bookI FIB L MR TB xV
  have cRl : Cl l.prog w K mg base (L2.CX l.prog w) 8 "_read_line" ["text", "line"] (spLineX CV CR CC CS) fRl _ := ⟨ok_lineX FRl cRx (g gCI) teCI oxCV atCV ftCV (hotEInvalidBook FEv oxCV nCV_line) bEv (g gCV), kRl, bRl, g aRl⟩
  have OIBn := ok_bookN (P := l.prog) (w := w) (base := base) FIB L MR TB
  have OBr := ok_readB FBr L T MR cRl xV MI OIBn bIB
  have cRs : Cl l.prog w K mg base CX0 5 "_law_rules" ["_law_bag_here", "_law_palette_here"] spRules fRs _ := ⟨ok_rules FRs cTake cRu L, kRs, bRs, g aRs⟩
  have cLe : Cl l.prog w K mg base CX0 1 "_law_is_letter" ["_law_text"] spStone fLe _ := ⟨ok_letter FLe L, kLe, bLe, g aLe⟩
  have cBp : Cl l.prog w K mg base CX0 1 "_law_bad_part" ["_law_part", "_law_earlier"] spBadP fBp _ := ⟨ok_badpart FBp L, kBp, bBp, g aBp⟩
  have cFa : Cl l.prog w K mg base CX0 2 "_law_fault" ["_law_rule_here"] spFault fFa _ := ⟨ok_fault FFa L cLe cBp, kFa, bFa, g aFa⟩
  have cNm : Cl l.prog w K mg base CX0 1 "_law_number" ["_law_word"] (spG K gNumber) fNm _ := ⟨ok_numberL FNm L, kNm, bNm, g aNm⟩
  have cWp : Cl l.prog w K mg base CX0 2 "_law_word_part" ["_law_word", "_law_same"] (spG K gWordPart) fWp _ := ⟨ok_wordpart FWp L cNm, kWp, bWp, g aWp⟩
  have cLf : Cl l.prog w K mg base CX0 3 "_law_line_fault" ["_law_line"] (spG K gLineF) fLf _ := ⟨ok_linefault FLf L cLe cWp cFa, kLf, bLf, g aLf⟩
  have cIt : Cl l.prog w K mg base CX0 2 "_in_order" ["conditions"] (spG K gInOrd) fIo _ := ⟨ok_inordT FIo cAs R, kIo, bIo, g aIo⟩
  have ORr := ok_ruleI FIR cIs cCk cIt TR
  have ORrC := ok_ruleI FIR cIs cCk cIt TC
  have ORc := ok_countI FIC (n zsuper) ⟨mIC, sIC, tyIR, fiIR⟩ ORrC bIR cNd L TC
  have ORs := ok_sameI FIS cCk cIt cNd L T TS
  have cMd : Cl l.prog w K mg base CX0 7 "_law_made" ["_law_rule_here"] (spG K (gMade CR CC CS)) fMd _ := ⟨ok_madeT FMd L Gt ⟨mkCR, aIR, iIR, kpCR⟩ ORr bIR ⟨mkCC, aIC, iIC, kpCC⟩ ORc bIC ⟨mkCS, aIS, iIS, kpCS⟩ ORs bIS, kMd, bMd, g aMd⟩
  have OBl := ok_blenH (P := l.prog) (w := w) (mg := mg) (base := base) FBn L TB
  have mBl : OwnF K CB "__len__" fBn := ⟨aBn, iBn⟩
  have Y : BTx2 K mg CV CE CI := ⟨g gCV, g gCE, g gCI, erCV, nCV_line, teCV, kitCVCE, kitCVCI⟩
  have cMo : Cl l.prog w K mg base CX0 8 "_law_made_of" ["_law_rules_here"] (spG K gMadeOf) fMf _ := ⟨ok_madeof FMf L Y cMd (g gCB) MI OIB bIB OBl bBn mBl, kMf, bMf, g aMf⟩
  have cLo : Cl l.prog w K mg base CX0 10 "_law_line_of" ["_law_text"] spLineOf fLo _ := ⟨ok_lineof FLo L Y (hot_int FIi L (n zbool)) kIi bIi (g aIi) (g gCB) ⟨rdCB, gaCB⟩ MBr (raw0 OBr bBr) OBl bBn mBl, kLo, bLo, g aLo⟩
  have cDu : Cl l.prog w K mg base CX0 4 "_law_due" ["_law_text"] (spG K gDueT) fDu _ := ⟨ok_due FDu L cLf, kDu, bDu, g aDu⟩
  exact ok_law FLaw L ⟨ok_bag FBag L, kBag, bBag, g aBag⟩ ⟨ok_pal FPal cTake L, kPal, bPal, g aPal⟩ cRs cTake cWt cMo cLo cDu
end Pm
/-! ### the head -/
namespace Hd
open PySem PySem.Spec PyProof.Rows L2 Hm Pm
abbrev d0 : DefM := ⟨fun K => (He.ma K (He.ga K "Rule") "__init__"), "__init__", "Rule.__init__", defArgs Pm.cRuleInit, defBody Pm.cRuleInit, defScope Pm.cRuleInit, fun _ => [], []⟩
abbrev d1 : DefM := ⟨fun K => (He.ma K (He.ga K "SameRule") "__init__"), "__init__", "SameRule.__init__", defArgs Pm.cSameRuleInit, defBody Pm.cSameRuleInit, defScope Pm.cSameRuleInit, fun _ => [], []⟩
abbrev d2 : DefM := ⟨fun K => (He.ma K (He.ga K "Book") "__init__"), "__init__", "Book.__init__", defArgs Pm.cBookInit, defBody Pm.cBookInit, defScope Pm.cBookInit, fun _ => [], []⟩
abbrev d3 : DefM := ⟨fun K => (He5.wf K (He.ga K "Book") "classmethod" "read"), "read", "Book.read", defArgs Pm.cBookRead, defBody Pm.cBookRead, defScope Pm.cBookRead, fun _ => [], []⟩
abbrev d4 : DefM := ⟨fun K => (He.ma K (He.ga K "Book") "__len__"), "__len__", "Book.__len__", defArgs Pm.cBookLen, defBody Pm.cBookLen, defScope Pm.cBookLen, fun _ => [], []⟩
abbrev d5 : DefM := ⟨fun K => (He.ma K (He.ga K "CountRule") "__init__"), "__init__", "CountRule.__init__", defArgs Pm.cCountRuleInit, defBody Pm.cCountRuleInit, defScope Pm.cCountRuleInit, fun K => [("__class__", (Hm.cloOf (fun K => (He.ma K (He.ga K "CountRule") "__init__")) K))], []⟩
abbrev d6 : DefM := ⟨fun K => (He.ma K (He.ga K "InvalidRule") "__init__"), "__init__", "InvalidRule.__init__", defArgs Pm.cInvalidRuleInit, defBody Pm.cInvalidRuleInit, defScope Pm.cInvalidRuleInit, fun _ => [], []⟩
abbrev d7 : DefM := ⟨fun K => (He.ma K (He.ga K "InvalidBook") "__init__"), "__init__", "InvalidBook.__init__", defArgs Pm.cInvalidBookInit, defBody Pm.cInvalidBookInit, defScope Pm.cInvalidBookInit, fun _ => [], []⟩
abbrev d8 : DefM := ⟨fun K => (He.ga K "is_stone"), "is_stone", "is_stone", defArgs Pm.gIsStone, defBody Pm.gIsStone, defScope Pm.gIsStone, fun _ => [], []⟩
abbrev d9 : DefM := ⟨fun K => (He.ga K "are_different_signs"), "are_different_signs", "are_different_signs", defArgs Pm.gAreDifferentSigns, defBody Pm.gAreDifferentSigns, defScope Pm.gAreDifferentSigns, fun _ => [], []⟩
abbrev d10 : DefM := ⟨fun K => (He.ga K "in_ascii_order"), "in_ascii_order", "in_ascii_order", defArgs Pm.gInAsciiOrder, defBody Pm.gInAsciiOrder, defScope Pm.gInAsciiOrder, fun _ => [], []⟩
abbrev d11 : DefM := ⟨fun K => (He.ga K "_is_place"), "_is_place", "_is_place", defArgs Pm.gIsPlace, defBody Pm.gIsPlace, defScope Pm.gIsPlace, fun _ => [], []⟩
abbrev d12 : DefM := ⟨fun K => (He.ga K "_check_conditions"), "_check_conditions", "_check_conditions", defArgs Pm.gCheckConditions, defBody Pm.gCheckConditions, defScope Pm.gCheckConditions, fun _ => [], []⟩
abbrev d13 : DefM := ⟨fun K => (He.ga K "_check_need"), "_check_need", "_check_need", defArgs Pm.gCheckNeed, defBody Pm.gCheckNeed, defScope Pm.gCheckNeed, fun _ => [], []⟩
abbrev d14 : DefM := ⟨fun K => (He.ga K "_in_order"), "_in_order", "_in_order", defArgs Pm.gInOrder, defBody Pm.gInOrder, defScope Pm.gInOrder, fun _ => [], []⟩
abbrev d15 : DefM := ⟨fun K => (He.ga K "_is_digit"), "_is_digit", "_is_digit", defArgs Pm.gIsDigit, defBody Pm.gIsDigit, defScope Pm.gIsDigit, fun _ => [], []⟩
abbrev d16 : DefM := ⟨fun K => (He.ga K "_is_number"), "_is_number", "_is_number", defArgs Pm.gIsNumber, defBody Pm.gIsNumber, defScope Pm.gIsNumber, fun _ => [], []⟩
abbrev d17 : DefM := ⟨fun K => (He.ga K "_read_place"), "_read_place", "_read_place", defArgs Pm.gReadPlace, defBody Pm.gReadPlace, defScope Pm.gReadPlace, fun _ => [], []⟩
abbrev d18 : DefM := ⟨fun K => (He.ga K "_read_condition"), "_read_condition", "_read_condition", defArgs Pm.gReadCondition, defBody Pm.gReadCondition, defScope Pm.gReadCondition, fun _ => [], []⟩
abbrev d19 : DefM := ⟨fun K => (He.ga K "read_rule"), "read_rule", "read_rule", defArgs Pm.gReadRule, defBody Pm.gReadRule, defScope Pm.gReadRule, fun _ => [], []⟩
abbrev d20 : DefM := ⟨fun K => (He.ga K "_read_line"), "_read_line", "_read_line", defArgs Pm.gReadLine, defBody Pm.gReadLine, defScope Pm.gReadLine, fun _ => [], []⟩
abbrev d21 : DefM := ⟨fun K => (He.ga K "_law_bag"), "_law_bag", "_law_bag", defArgs Pm.lBag, defBody Pm.lBag, defScope Pm.lBag, fun _ => [], []⟩
abbrev d22 : DefM := ⟨fun K => (He.ga K "_law_take"), "_law_take", "_law_take", defArgs Pm.lTake, defBody Pm.lTake, defScope Pm.lTake, fun _ => [], []⟩
abbrev d23 : DefM := ⟨fun K => (He.ga K "_law_palette"), "_law_palette", "_law_palette", defArgs Pm.lPalette, defBody Pm.lPalette, defScope Pm.lPalette, fun _ => [], []⟩
abbrev d24 : DefM := ⟨fun K => (He.ga K "_law_offset"), "_law_offset", "_law_offset", defArgs Pm.lOffset, defBody Pm.lOffset, defScope Pm.lOffset, fun _ => [], []⟩
abbrev d25 : DefM := ⟨fun K => (He.ga K "_law_signs"), "_law_signs", "_law_signs", defArgs Pm.lSigns, defBody Pm.lSigns, defScope Pm.lSigns, fun _ => [], []⟩
abbrev d26 : DefM := ⟨fun K => (He.ga K "_law_parts"), "_law_parts", "_law_parts", defArgs Pm.lParts, defBody Pm.lParts, defScope Pm.lParts, fun _ => [], []⟩
abbrev d27 : DefM := ⟨fun K => (He.ga K "_law_rule"), "_law_rule", "_law_rule", defArgs Pm.lRule, defBody Pm.lRule, defScope Pm.lRule, fun _ => [], []⟩
abbrev d28 : DefM := ⟨fun K => (He.ga K "_law_rules"), "_law_rules", "_law_rules", defArgs Pm.lRules, defBody Pm.lRules, defScope Pm.lRules, fun _ => [], []⟩
abbrev d29 : DefM := ⟨fun K => (He.ga K "_law_sorted_parts"), "_law_sorted_parts", "_law_sorted_parts", defArgs Pm.lSortedParts, defBody Pm.lSortedParts, defScope Pm.lSortedParts, fun _ => [], []⟩
abbrev d30 : DefM := ⟨fun K => (He.ga K "_law_written"), "_law_written", "_law_written", defArgs Pm.lWritten, defBody Pm.lWritten, defScope Pm.lWritten, fun _ => [], []⟩
abbrev d31 : DefM := ⟨fun K => (He.ga K "_law_is_letter"), "_law_is_letter", "_law_is_letter", defArgs Pm.lIsLetter, defBody Pm.lIsLetter, defScope Pm.lIsLetter, fun _ => [], []⟩
abbrev d32 : DefM := ⟨fun K => (He.ga K "_law_bad_part"), "_law_bad_part", "_law_bad_part", defArgs Pm.lBadPart, defBody Pm.lBadPart, defScope Pm.lBadPart, fun _ => [], []⟩
abbrev d33 : DefM := ⟨fun K => (He.ga K "_law_fault"), "_law_fault", "_law_fault", defArgs Pm.lFault, defBody Pm.lFault, defScope Pm.lFault, fun _ => [], []⟩
abbrev d34 : DefM := ⟨fun K => (He.ga K "_law_number"), "_law_number", "_law_number", defArgs Pm.lNumber, defBody Pm.lNumber, defScope Pm.lNumber, fun _ => [], []⟩
abbrev d35 : DefM := ⟨fun K => (He.ga K "_law_word_part"), "_law_word_part", "_law_word_part", defArgs Pm.lWordPart, defBody Pm.lWordPart, defScope Pm.lWordPart, fun _ => [], []⟩
abbrev d36 : DefM := ⟨fun K => (He.ga K "_law_line_fault"), "_law_line_fault", "_law_line_fault", defArgs Pm.lLineFault, defBody Pm.lLineFault, defScope Pm.lLineFault, fun _ => [], []⟩
abbrev d37 : DefM := ⟨fun K => (He.ga K "_law_made"), "_law_made", "_law_made", defArgs Pm.lMade, defBody Pm.lMade, defScope Pm.lMade, fun _ => [], []⟩
abbrev d38 : DefM := ⟨fun K => (He.ga K "_law_made_of"), "_law_made_of", "_law_made_of", defArgs Pm.lMadeOf, defBody Pm.lMadeOf, defScope Pm.lMadeOf, fun _ => [], []⟩
abbrev d39 : DefM := ⟨fun K => (He.ga K "_law_line_of"), "_law_line_of", "_law_line_of", defArgs Pm.lLineOf, defBody Pm.lLineOf, defScope Pm.lLineOf, fun _ => [], []⟩
abbrev d40 : DefM := ⟨fun K => (He.ga K "_law_due"), "_law_due", "_law_due", defArgs Pm.lDue, defBody Pm.lDue, defScope Pm.lDue, fun _ => [], []⟩
abbrev d41 : DefM := ⟨fun K => (He.ga K "_law_is_int"), "_law_is_int", "_law_is_int", defArgs Pm.lIsInt, defBody Pm.lIsInt, defScope Pm.lIsInt, fun _ => [], []⟩
abbrev d42 : DefM := ⟨fun K => (He.ga K "law"), "law", "law", defArgs Pm.lLaw, defBody Pm.lLaw, defScope Pm.lLaw, fun _ => [], []⟩
def fns0 : List DefM := [d0, d1, d2, d3, d4, d5, d6, d7, d8, d9, d10, d11, d12, d13, d14, d15, d16, d17, d18, d19]
def fns1 : List DefM := [d20, d21, d22, d23, d24, d25, d26, d27, d28, d29, d30, d31, d32, d33, d34, d35, d36, d37, d38, d39]
def fns2 : List DefM := [d40, d41, d42]
def fns : List DefM := fns0 ++ fns1 ++ fns2
def x0 (K : Fr) : Bool := decide (PySem.W.specialIn K (.builtin "object.__class__") "__get__" = some (some (.builtin "getset_descriptor.__get__"))) && (decide (PySem.W.takesIn K (.builtin "object.__class__") = some true) && (decide (PySem.W.nsIn K mainGlobals "Picture" = some (some (.ref (He.ga K "Picture")))) && (decide (PySem.W.readsIn K (He.ga K "Picture") (.type "type") = true) && (decide (PySem.W.specialIn K (.ref (He.ga K "Picture")) "__getattribute__" = some (some (.builtin "type.__getattribute__"))) && (decide (PySem.W.nsIn K mainGlobals "Rule" = some (some (.ref (He.ga K "Rule")))) && (decide (PySem.W.typeIn K (.ref (He.ga K "Rule")) = some (.type "type")) && (decide (PySem.W.plainGet K (He.ga K "Rule") Str.empty = true) && (decide (PySem.W.hasDictIn K (He.ga K "Rule") = true) && (decide (PySem.W.plainOver K (He.ga K "Rule") = true) && (true))))))))))
theorem x0_ok {K : Fr} (h : x0 K = true) : PySem.W.specialIn K (.builtin "object.__class__") "__get__" = some (some (.builtin "getset_descriptor.__get__")) ∧ PySem.W.takesIn K (.builtin "object.__class__") = some true ∧ PySem.W.nsIn K mainGlobals "Picture" = some (some (.ref (He.ga K "Picture"))) ∧ PySem.W.readsIn K (He.ga K "Picture") (.type "type") = true ∧ PySem.W.specialIn K (.ref (He.ga K "Picture")) "__getattribute__" = some (some (.builtin "type.__getattribute__")) ∧ PySem.W.nsIn K mainGlobals "Rule" = some (some (.ref (He.ga K "Rule"))) ∧ PySem.W.typeIn K (.ref (He.ga K "Rule")) = some (.type "type") ∧ PySem.W.plainGet K (He.ga K "Rule") Str.empty = true ∧ PySem.W.hasDictIn K (He.ga K "Rule") = true ∧ PySem.W.plainOver K (He.ga K "Rule") = true ∧ True := by
  obtain ⟨h0, h⟩ := He.ba h
  obtain ⟨h1, h⟩ := He.ba h
  obtain ⟨h2, h⟩ := He.ba h
  obtain ⟨h3, h⟩ := He.ba h
  obtain ⟨h4, h⟩ := He.ba h
  obtain ⟨h5, h⟩ := He.ba h
  obtain ⟨h6, h⟩ := He.ba h
  obtain ⟨h7, h⟩ := He.ba h
  obtain ⟨h8, h⟩ := He.ba h
  obtain ⟨h9, h⟩ := He.ba h
  exact ⟨of_decide_eq_true h0, of_decide_eq_true h1, of_decide_eq_true h2, of_decide_eq_true h3, of_decide_eq_true h4, of_decide_eq_true h5, of_decide_eq_true h6, of_decide_eq_true h7, of_decide_eq_true h8, of_decide_eq_true h9, trivial⟩
def x1 (K : Fr) : Bool := decide (PySem.W.findIn K (.ref (He.ga K "Rule")) "__setattr__" = some (some (.builtin "object.__setattr__"))) && (decide (PySem.W.makesIn K (He.ga K "Rule") = true) && (decide (PySem.W.keepIn K (.ref (He.ga K "Rule")) = true) && (decide (PySem.W.findIn K (.ref (He.ga K "Rule")) "stone" = some none) && (decide (PySem.W.findIn K (.ref (He.ga K "Rule")) "_conditions" = some none) && (decide (PySem.W.findIn K (.ref (He.ga K "Rule")) "need" = some none) && (decide (PySem.W.nsIn K mainGlobals "CountRule" = some (some (.ref (He.ga K "CountRule")))) && (decide (PySem.W.typeIn K (.ref (He.ga K "CountRule")) = some (.type "type")) && (decide (PySem.W.plainGet K (He.ga K "CountRule") Str.empty = true) && (decide (PySem.W.hasDictIn K (He.ga K "CountRule") = true) && (true))))))))))
theorem x1_ok {K : Fr} (h : x1 K = true) : PySem.W.findIn K (.ref (He.ga K "Rule")) "__setattr__" = some (some (.builtin "object.__setattr__")) ∧ PySem.W.makesIn K (He.ga K "Rule") = true ∧ PySem.W.keepIn K (.ref (He.ga K "Rule")) = true ∧ PySem.W.findIn K (.ref (He.ga K "Rule")) "stone" = some none ∧ PySem.W.findIn K (.ref (He.ga K "Rule")) "_conditions" = some none ∧ PySem.W.findIn K (.ref (He.ga K "Rule")) "need" = some none ∧ PySem.W.nsIn K mainGlobals "CountRule" = some (some (.ref (He.ga K "CountRule"))) ∧ PySem.W.typeIn K (.ref (He.ga K "CountRule")) = some (.type "type") ∧ PySem.W.plainGet K (He.ga K "CountRule") Str.empty = true ∧ PySem.W.hasDictIn K (He.ga K "CountRule") = true ∧ True := by
  obtain ⟨h0, h⟩ := He.ba h
  obtain ⟨h1, h⟩ := He.ba h
  obtain ⟨h2, h⟩ := He.ba h
  obtain ⟨h3, h⟩ := He.ba h
  obtain ⟨h4, h⟩ := He.ba h
  obtain ⟨h5, h⟩ := He.ba h
  obtain ⟨h6, h⟩ := He.ba h
  obtain ⟨h7, h⟩ := He.ba h
  obtain ⟨h8, h⟩ := He.ba h
  obtain ⟨h9, h⟩ := He.ba h
  exact ⟨of_decide_eq_true h0, of_decide_eq_true h1, of_decide_eq_true h2, of_decide_eq_true h3, of_decide_eq_true h4, of_decide_eq_true h5, of_decide_eq_true h6, of_decide_eq_true h7, of_decide_eq_true h8, of_decide_eq_true h9, trivial⟩
def x2 (K : Fr) : Bool := decide (PySem.W.plainOver K (He.ga K "CountRule") = true) && (decide (PySem.W.findIn K (.ref (He.ga K "CountRule")) "__setattr__" = some (some (.builtin "object.__setattr__"))) && (decide (PySem.W.makesIn K (He.ga K "CountRule") = true) && (decide (PySem.W.keepIn K (.ref (He.ga K "CountRule")) = true) && (decide (PySem.W.findIn K (.ref (He.ga K "CountRule")) "stone" = some none) && (decide (PySem.W.findIn K (.ref (He.ga K "CountRule")) "_conditions" = some none) && (decide (PySem.W.findIn K (.ref (He.ga K "CountRule")) "need" = some none) && (decide (PySem.W.nsIn K mainGlobals "SameRule" = some (some (.ref (He.ga K "SameRule")))) && (decide (PySem.W.typeIn K (.ref (He.ga K "SameRule")) = some (.type "type")) && (decide (PySem.W.plainGet K (He.ga K "SameRule") Str.empty = true) && (true))))))))))
theorem x2_ok {K : Fr} (h : x2 K = true) : PySem.W.plainOver K (He.ga K "CountRule") = true ∧ PySem.W.findIn K (.ref (He.ga K "CountRule")) "__setattr__" = some (some (.builtin "object.__setattr__")) ∧ PySem.W.makesIn K (He.ga K "CountRule") = true ∧ PySem.W.keepIn K (.ref (He.ga K "CountRule")) = true ∧ PySem.W.findIn K (.ref (He.ga K "CountRule")) "stone" = some none ∧ PySem.W.findIn K (.ref (He.ga K "CountRule")) "_conditions" = some none ∧ PySem.W.findIn K (.ref (He.ga K "CountRule")) "need" = some none ∧ PySem.W.nsIn K mainGlobals "SameRule" = some (some (.ref (He.ga K "SameRule"))) ∧ PySem.W.typeIn K (.ref (He.ga K "SameRule")) = some (.type "type") ∧ PySem.W.plainGet K (He.ga K "SameRule") Str.empty = true ∧ True := by
  obtain ⟨h0, h⟩ := He.ba h
  obtain ⟨h1, h⟩ := He.ba h
  obtain ⟨h2, h⟩ := He.ba h
  obtain ⟨h3, h⟩ := He.ba h
  obtain ⟨h4, h⟩ := He.ba h
  obtain ⟨h5, h⟩ := He.ba h
  obtain ⟨h6, h⟩ := He.ba h
  obtain ⟨h7, h⟩ := He.ba h
  obtain ⟨h8, h⟩ := He.ba h
  obtain ⟨h9, h⟩ := He.ba h
  exact ⟨of_decide_eq_true h0, of_decide_eq_true h1, of_decide_eq_true h2, of_decide_eq_true h3, of_decide_eq_true h4, of_decide_eq_true h5, of_decide_eq_true h6, of_decide_eq_true h7, of_decide_eq_true h8, of_decide_eq_true h9, trivial⟩
def x3 (K : Fr) : Bool := decide (PySem.W.hasDictIn K (He.ga K "SameRule") = true) && (decide (PySem.W.plainOver K (He.ga K "SameRule") = true) && (decide (PySem.W.findIn K (.ref (He.ga K "SameRule")) "__setattr__" = some (some (.builtin "object.__setattr__"))) && (decide (PySem.W.makesIn K (He.ga K "SameRule") = true) && (decide (PySem.W.keepIn K (.ref (He.ga K "SameRule")) = true) && (decide (PySem.W.findIn K (.ref (He.ga K "SameRule")) "stone" = some none) && (decide (PySem.W.findIn K (.ref (He.ga K "SameRule")) "_conditions" = some none) && (decide (PySem.W.findIn K (.ref (He.ga K "SameRule")) "need" = some none) && (decide (PySem.W.findIn K (.ref (He.ga K "Rule")) "__init__" = some (some (.ref (He.ma K (He.ga K "Rule") "__init__")))) && (decide (PySem.W.isFn K (.ref (He.ma K (He.ga K "Rule") "__init__")) = true) && (true))))))))))
theorem x3_ok {K : Fr} (h : x3 K = true) : PySem.W.hasDictIn K (He.ga K "SameRule") = true ∧ PySem.W.plainOver K (He.ga K "SameRule") = true ∧ PySem.W.findIn K (.ref (He.ga K "SameRule")) "__setattr__" = some (some (.builtin "object.__setattr__")) ∧ PySem.W.makesIn K (He.ga K "SameRule") = true ∧ PySem.W.keepIn K (.ref (He.ga K "SameRule")) = true ∧ PySem.W.findIn K (.ref (He.ga K "SameRule")) "stone" = some none ∧ PySem.W.findIn K (.ref (He.ga K "SameRule")) "_conditions" = some none ∧ PySem.W.findIn K (.ref (He.ga K "SameRule")) "need" = some none ∧ PySem.W.findIn K (.ref (He.ga K "Rule")) "__init__" = some (some (.ref (He.ma K (He.ga K "Rule") "__init__"))) ∧ PySem.W.isFn K (.ref (He.ma K (He.ga K "Rule") "__init__")) = true ∧ True := by
  obtain ⟨h0, h⟩ := He.ba h
  obtain ⟨h1, h⟩ := He.ba h
  obtain ⟨h2, h⟩ := He.ba h
  obtain ⟨h3, h⟩ := He.ba h
  obtain ⟨h4, h⟩ := He.ba h
  obtain ⟨h5, h⟩ := He.ba h
  obtain ⟨h6, h⟩ := He.ba h
  obtain ⟨h7, h⟩ := He.ba h
  obtain ⟨h8, h⟩ := He.ba h
  obtain ⟨h9, h⟩ := He.ba h
  exact ⟨of_decide_eq_true h0, of_decide_eq_true h1, of_decide_eq_true h2, of_decide_eq_true h3, of_decide_eq_true h4, of_decide_eq_true h5, of_decide_eq_true h6, of_decide_eq_true h7, of_decide_eq_true h8, of_decide_eq_true h9, trivial⟩
def x4 (K : Fr) : Bool := decide (PySem.W.keepIn K (.ref (He.ma K (He.ga K "Rule") "__init__")) = true) && (decide (PySem.W.findIn K (.ref (He.ga K "SameRule")) "__init__" = some (some (.ref (He.ma K (He.ga K "SameRule") "__init__")))) && (decide (PySem.W.isFn K (.ref (He.ma K (He.ga K "SameRule") "__init__")) = true) && (decide (PySem.W.keepIn K (.ref (He.ma K (He.ga K "SameRule") "__init__")) = true) && (decide (PySem.W.nsIn K mainGlobals "Book" = some (some (.ref (He.ga K "Book")))) && (decide (PySem.W.plainGet K (He.ga K "Book") Str.empty = true) && (decide (PySem.W.hasDictIn K (He.ga K "Book") = true) && (decide (PySem.W.plainOver K (He.ga K "Book") = true) && (decide (PySem.W.findIn K (.ref (He.ga K "Book")) "__setattr__" = some (some (.builtin "object.__setattr__"))) && (decide (PySem.W.makesIn K (He.ga K "Book") = true) && (true))))))))))
theorem x4_ok {K : Fr} (h : x4 K = true) : PySem.W.keepIn K (.ref (He.ma K (He.ga K "Rule") "__init__")) = true ∧ PySem.W.findIn K (.ref (He.ga K "SameRule")) "__init__" = some (some (.ref (He.ma K (He.ga K "SameRule") "__init__"))) ∧ PySem.W.isFn K (.ref (He.ma K (He.ga K "SameRule") "__init__")) = true ∧ PySem.W.keepIn K (.ref (He.ma K (He.ga K "SameRule") "__init__")) = true ∧ PySem.W.nsIn K mainGlobals "Book" = some (some (.ref (He.ga K "Book"))) ∧ PySem.W.plainGet K (He.ga K "Book") Str.empty = true ∧ PySem.W.hasDictIn K (He.ga K "Book") = true ∧ PySem.W.plainOver K (He.ga K "Book") = true ∧ PySem.W.findIn K (.ref (He.ga K "Book")) "__setattr__" = some (some (.builtin "object.__setattr__")) ∧ PySem.W.makesIn K (He.ga K "Book") = true ∧ True := by
  obtain ⟨h0, h⟩ := He.ba h
  obtain ⟨h1, h⟩ := He.ba h
  obtain ⟨h2, h⟩ := He.ba h
  obtain ⟨h3, h⟩ := He.ba h
  obtain ⟨h4, h⟩ := He.ba h
  obtain ⟨h5, h⟩ := He.ba h
  obtain ⟨h6, h⟩ := He.ba h
  obtain ⟨h7, h⟩ := He.ba h
  obtain ⟨h8, h⟩ := He.ba h
  obtain ⟨h9, h⟩ := He.ba h
  exact ⟨of_decide_eq_true h0, of_decide_eq_true h1, of_decide_eq_true h2, of_decide_eq_true h3, of_decide_eq_true h4, of_decide_eq_true h5, of_decide_eq_true h6, of_decide_eq_true h7, of_decide_eq_true h8, of_decide_eq_true h9, trivial⟩
def x5 (K : Fr) : Bool := decide (PySem.W.keepIn K (.ref (He.ga K "Book")) = true) && (decide (PySem.W.findIn K (.ref (He.ga K "Book")) "_rules" = some none) && (decide (PySem.W.readsIn K (He.ga K "Book") (.type "type") = true) && (decide (PySem.W.specialIn K (.ref (He.ga K "Book")) "__getattribute__" = some (some (.builtin "type.__getattribute__"))) && (decide (PySem.W.findIn K (.ref (He.ga K "Book")) "__init__" = some (some (.ref (He.ma K (He.ga K "Book") "__init__")))) && (decide (PySem.W.isFn K (.ref (He.ma K (He.ga K "Book") "__init__")) = true) && (decide (PySem.W.keepIn K (.ref (He.ma K (He.ga K "Book") "__init__")) = true) && (decide (PySem.W.fnIn K (He5.wf K (He.ga K "Book") "classmethod" "read") = true) && (decide (PySem.W.keepIn K (.ref (He5.wf K (He.ga K "Book") "classmethod" "read")) = true) && (decide (PySem.W.findIn K (.ref (He.ga K "Book")) "__len__" = some (some (.ref (He.ma K (He.ga K "Book") "__len__")))) && (true))))))))))
theorem x5_ok {K : Fr} (h : x5 K = true) : PySem.W.keepIn K (.ref (He.ga K "Book")) = true ∧ PySem.W.findIn K (.ref (He.ga K "Book")) "_rules" = some none ∧ PySem.W.readsIn K (He.ga K "Book") (.type "type") = true ∧ PySem.W.specialIn K (.ref (He.ga K "Book")) "__getattribute__" = some (some (.builtin "type.__getattribute__")) ∧ PySem.W.findIn K (.ref (He.ga K "Book")) "__init__" = some (some (.ref (He.ma K (He.ga K "Book") "__init__"))) ∧ PySem.W.isFn K (.ref (He.ma K (He.ga K "Book") "__init__")) = true ∧ PySem.W.keepIn K (.ref (He.ma K (He.ga K "Book") "__init__")) = true ∧ PySem.W.fnIn K (He5.wf K (He.ga K "Book") "classmethod" "read") = true ∧ PySem.W.keepIn K (.ref (He5.wf K (He.ga K "Book") "classmethod" "read")) = true ∧ PySem.W.findIn K (.ref (He.ga K "Book")) "__len__" = some (some (.ref (He.ma K (He.ga K "Book") "__len__"))) ∧ True := by
  obtain ⟨h0, h⟩ := He.ba h
  obtain ⟨h1, h⟩ := He.ba h
  obtain ⟨h2, h⟩ := He.ba h
  obtain ⟨h3, h⟩ := He.ba h
  obtain ⟨h4, h⟩ := He.ba h
  obtain ⟨h5, h⟩ := He.ba h
  obtain ⟨h6, h⟩ := He.ba h
  obtain ⟨h7, h⟩ := He.ba h
  obtain ⟨h8, h⟩ := He.ba h
  obtain ⟨h9, h⟩ := He.ba h
  exact ⟨of_decide_eq_true h0, of_decide_eq_true h1, of_decide_eq_true h2, of_decide_eq_true h3, of_decide_eq_true h4, of_decide_eq_true h5, of_decide_eq_true h6, of_decide_eq_true h7, of_decide_eq_true h8, of_decide_eq_true h9, trivial⟩
def x6 (K : Fr) : Bool := decide (PySem.W.isFn K (.ref (He.ma K (He.ga K "Book") "__len__")) = true) && (decide (PySem.W.keepIn K (.ref (He.ma K (He.ga K "Book") "__len__")) = true) && (decide (PySem.W.findIn K (.ref (He.ga K "CountRule")) "__init__" = some (some (.ref (He.ma K (He.ga K "CountRule") "__init__")))) && (decide (PySem.W.isFn K (.ref (He.ma K (He.ga K "CountRule") "__init__")) = true) && (decide (PySem.W.nsIn K cStatics "thirdparty.any" = some none) && (decide (PySem.W.mroIn K (He.ga K "CountRule") (.ref (He.ga K "CountRule")) = some true) && (decide (PySem.W.ks_superIn K (He.ga K "CountRule") (He.ga K "CountRule") "__init__" = some (some (.ref (He.ma K (He.ga K "Rule") "__init__")))) && (decide (PySem.W.typeIn K (.ref (He.ma K (He.ga K "Rule") "__init__")) = some (.type "function")) && (decide (PySem.W.fnIn K (He.ma K (He.ga K "Rule") "__init__") = true) && (decide (PySem.W.nsIn K mainGlobals "InvalidRule" = some (some (.ref (He.ga K "InvalidRule")))) && (true))))))))))
theorem x6_ok {K : Fr} (h : x6 K = true) : PySem.W.isFn K (.ref (He.ma K (He.ga K "Book") "__len__")) = true ∧ PySem.W.keepIn K (.ref (He.ma K (He.ga K "Book") "__len__")) = true ∧ PySem.W.findIn K (.ref (He.ga K "CountRule")) "__init__" = some (some (.ref (He.ma K (He.ga K "CountRule") "__init__"))) ∧ PySem.W.isFn K (.ref (He.ma K (He.ga K "CountRule") "__init__")) = true ∧ PySem.W.nsIn K cStatics "thirdparty.any" = some none ∧ PySem.W.mroIn K (He.ga K "CountRule") (.ref (He.ga K "CountRule")) = some true ∧ PySem.W.ks_superIn K (He.ga K "CountRule") (He.ga K "CountRule") "__init__" = some (some (.ref (He.ma K (He.ga K "Rule") "__init__"))) ∧ PySem.W.typeIn K (.ref (He.ma K (He.ga K "Rule") "__init__")) = some (.type "function") ∧ PySem.W.fnIn K (He.ma K (He.ga K "Rule") "__init__") = true ∧ PySem.W.nsIn K mainGlobals "InvalidRule" = some (some (.ref (He.ga K "InvalidRule"))) ∧ True := by
  obtain ⟨h0, h⟩ := He.ba h
  obtain ⟨h1, h⟩ := He.ba h
  obtain ⟨h2, h⟩ := He.ba h
  obtain ⟨h3, h⟩ := He.ba h
  obtain ⟨h4, h⟩ := He.ba h
  obtain ⟨h5, h⟩ := He.ba h
  obtain ⟨h6, h⟩ := He.ba h
  obtain ⟨h7, h⟩ := He.ba h
  obtain ⟨h8, h⟩ := He.ba h
  obtain ⟨h9, h⟩ := He.ba h
  exact ⟨of_decide_eq_true h0, of_decide_eq_true h1, of_decide_eq_true h2, of_decide_eq_true h3, of_decide_eq_true h4, of_decide_eq_true h5, of_decide_eq_true h6, of_decide_eq_true h7, of_decide_eq_true h8, of_decide_eq_true h9, trivial⟩
def x7 (K : Fr) : Bool := decide (PySem.W.findIn K (.ref (He.ga K "InvalidRule")) "__init__" = some (some (.ref (He.ma K (He.ga K "InvalidRule") "__init__")))) && (decide (PySem.W.typeIn K (.ref (He.ma K (He.ga K "InvalidRule") "__init__")) = some (.type "function")) && (decide (PySem.W.keepIn K (.ref (He.ma K (He.ga K "InvalidRule") "__init__")) = true) && (decide (PySem.W.typeIn K (.ref (He.ga K "InvalidRule")) = some (.type "type")) && (decide (PySem.W.findIn K (.ref (He.ga K "InvalidRule")) "__getattribute__" = some (some (.builtin "BaseException.__getattribute__"))) && (decide (PySem.W.findIn K (.ref (He.ga K "InvalidRule")) "__getattr__" = some none) && (decide (PySem.W.subIn K (.ref (He.ga K "InvalidRule")) (.type "BaseException") = some true) && (decide (PySem.W.subIn K (.ref (He.ga K "InvalidRule")) (.ref (He.ga K "InvalidRule")) = some true) && (decide (PySem.W.isClsIn K (He.ga K "InvalidRule") = true) && (decide (PySem.W.findIn K (.ref (He.ga K "InvalidRule")) "__class__" = some (some (.builtin "object.__class__"))) && (true))))))))))
theorem x7_ok {K : Fr} (h : x7 K = true) : PySem.W.findIn K (.ref (He.ga K "InvalidRule")) "__init__" = some (some (.ref (He.ma K (He.ga K "InvalidRule") "__init__"))) ∧ PySem.W.typeIn K (.ref (He.ma K (He.ga K "InvalidRule") "__init__")) = some (.type "function") ∧ PySem.W.keepIn K (.ref (He.ma K (He.ga K "InvalidRule") "__init__")) = true ∧ PySem.W.typeIn K (.ref (He.ga K "InvalidRule")) = some (.type "type") ∧ PySem.W.findIn K (.ref (He.ga K "InvalidRule")) "__getattribute__" = some (some (.builtin "BaseException.__getattribute__")) ∧ PySem.W.findIn K (.ref (He.ga K "InvalidRule")) "__getattr__" = some none ∧ PySem.W.subIn K (.ref (He.ga K "InvalidRule")) (.type "BaseException") = some true ∧ PySem.W.subIn K (.ref (He.ga K "InvalidRule")) (.ref (He.ga K "InvalidRule")) = some true ∧ PySem.W.isClsIn K (He.ga K "InvalidRule") = true ∧ PySem.W.findIn K (.ref (He.ga K "InvalidRule")) "__class__" = some (some (.builtin "object.__class__")) ∧ True := by
  obtain ⟨h0, h⟩ := He.ba h
  obtain ⟨h1, h⟩ := He.ba h
  obtain ⟨h2, h⟩ := He.ba h
  obtain ⟨h3, h⟩ := He.ba h
  obtain ⟨h4, h⟩ := He.ba h
  obtain ⟨h5, h⟩ := He.ba h
  obtain ⟨h6, h⟩ := He.ba h
  obtain ⟨h7, h⟩ := He.ba h
  obtain ⟨h8, h⟩ := He.ba h
  obtain ⟨h9, h⟩ := He.ba h
  exact ⟨of_decide_eq_true h0, of_decide_eq_true h1, of_decide_eq_true h2, of_decide_eq_true h3, of_decide_eq_true h4, of_decide_eq_true h5, of_decide_eq_true h6, of_decide_eq_true h7, of_decide_eq_true h8, of_decide_eq_true h9, trivial⟩
def x8 (K : Fr) : Bool := decide (PySem.W.mroIn K (He.ga K "InvalidRule") (.type "object") = some true) && (decide (PySem.W.hasDictIn K (He.ga K "InvalidRule") = true) && (decide (PySem.W.keepIn K (.ref (He.ga K "InvalidRule")) = true) && (decide (PySem.W.findIn K (.ref (He.ga K "InvalidRule")) "part" = some none) && (decide (PySem.W.findIn K (.ref (He.ga K "InvalidRule")) "__setattr__" = some (some (.builtin "object.__setattr__"))) && (decide (PySem.W.nsIn K mainGlobals "InvalidBook" = some (some (.ref (He.ga K "InvalidBook")))) && (decide (PySem.W.findIn K (.ref (He.ga K "InvalidBook")) "__init__" = some (some (.ref (He.ma K (He.ga K "InvalidBook") "__init__")))) && (decide (PySem.W.typeIn K (.ref (He.ma K (He.ga K "InvalidBook") "__init__")) = some (.type "function")) && (decide (PySem.W.keepIn K (.ref (He.ma K (He.ga K "InvalidBook") "__init__")) = true) && (decide (PySem.W.typeIn K (.ref (He.ga K "InvalidBook")) = some (.type "type")) && (true))))))))))
theorem x8_ok {K : Fr} (h : x8 K = true) : PySem.W.mroIn K (He.ga K "InvalidRule") (.type "object") = some true ∧ PySem.W.hasDictIn K (He.ga K "InvalidRule") = true ∧ PySem.W.keepIn K (.ref (He.ga K "InvalidRule")) = true ∧ PySem.W.findIn K (.ref (He.ga K "InvalidRule")) "part" = some none ∧ PySem.W.findIn K (.ref (He.ga K "InvalidRule")) "__setattr__" = some (some (.builtin "object.__setattr__")) ∧ PySem.W.nsIn K mainGlobals "InvalidBook" = some (some (.ref (He.ga K "InvalidBook"))) ∧ PySem.W.findIn K (.ref (He.ga K "InvalidBook")) "__init__" = some (some (.ref (He.ma K (He.ga K "InvalidBook") "__init__"))) ∧ PySem.W.typeIn K (.ref (He.ma K (He.ga K "InvalidBook") "__init__")) = some (.type "function") ∧ PySem.W.keepIn K (.ref (He.ma K (He.ga K "InvalidBook") "__init__")) = true ∧ PySem.W.typeIn K (.ref (He.ga K "InvalidBook")) = some (.type "type") ∧ True := by
  obtain ⟨h0, h⟩ := He.ba h
  obtain ⟨h1, h⟩ := He.ba h
  obtain ⟨h2, h⟩ := He.ba h
  obtain ⟨h3, h⟩ := He.ba h
  obtain ⟨h4, h⟩ := He.ba h
  obtain ⟨h5, h⟩ := He.ba h
  obtain ⟨h6, h⟩ := He.ba h
  obtain ⟨h7, h⟩ := He.ba h
  obtain ⟨h8, h⟩ := He.ba h
  obtain ⟨h9, h⟩ := He.ba h
  exact ⟨of_decide_eq_true h0, of_decide_eq_true h1, of_decide_eq_true h2, of_decide_eq_true h3, of_decide_eq_true h4, of_decide_eq_true h5, of_decide_eq_true h6, of_decide_eq_true h7, of_decide_eq_true h8, of_decide_eq_true h9, trivial⟩
def x9 (K : Fr) : Bool := decide (PySem.W.findIn K (.ref (He.ga K "InvalidBook")) "__getattribute__" = some (some (.builtin "BaseException.__getattribute__"))) && (decide (PySem.W.findIn K (.ref (He.ga K "InvalidBook")) "__getattr__" = some none) && (decide (PySem.W.subIn K (.ref (He.ga K "InvalidBook")) (.type "BaseException") = some true) && (decide (PySem.W.subIn K (.ref (He.ga K "InvalidBook")) (.ref (He.ga K "InvalidBook")) = some true) && (decide (PySem.W.isClsIn K (He.ga K "InvalidBook") = true) && (decide (PySem.W.findIn K (.ref (He.ga K "InvalidBook")) "__class__" = some (some (.builtin "object.__class__"))) && (decide (PySem.W.mroIn K (He.ga K "InvalidBook") (.type "object") = some true) && (decide (PySem.W.hasDictIn K (He.ga K "InvalidBook") = true) && (decide (PySem.W.keepIn K (.ref (He.ga K "InvalidBook")) = true) && (decide (PySem.W.findIn K (.ref (He.ga K "InvalidBook")) "line" = some none) && (true))))))))))
theorem x9_ok {K : Fr} (h : x9 K = true) : PySem.W.findIn K (.ref (He.ga K "InvalidBook")) "__getattribute__" = some (some (.builtin "BaseException.__getattribute__")) ∧ PySem.W.findIn K (.ref (He.ga K "InvalidBook")) "__getattr__" = some none ∧ PySem.W.subIn K (.ref (He.ga K "InvalidBook")) (.type "BaseException") = some true ∧ PySem.W.subIn K (.ref (He.ga K "InvalidBook")) (.ref (He.ga K "InvalidBook")) = some true ∧ PySem.W.isClsIn K (He.ga K "InvalidBook") = true ∧ PySem.W.findIn K (.ref (He.ga K "InvalidBook")) "__class__" = some (some (.builtin "object.__class__")) ∧ PySem.W.mroIn K (He.ga K "InvalidBook") (.type "object") = some true ∧ PySem.W.hasDictIn K (He.ga K "InvalidBook") = true ∧ PySem.W.keepIn K (.ref (He.ga K "InvalidBook")) = true ∧ PySem.W.findIn K (.ref (He.ga K "InvalidBook")) "line" = some none ∧ True := by
  obtain ⟨h0, h⟩ := He.ba h
  obtain ⟨h1, h⟩ := He.ba h
  obtain ⟨h2, h⟩ := He.ba h
  obtain ⟨h3, h⟩ := He.ba h
  obtain ⟨h4, h⟩ := He.ba h
  obtain ⟨h5, h⟩ := He.ba h
  obtain ⟨h6, h⟩ := He.ba h
  obtain ⟨h7, h⟩ := He.ba h
  obtain ⟨h8, h⟩ := He.ba h
  obtain ⟨h9, h⟩ := He.ba h
  exact ⟨of_decide_eq_true h0, of_decide_eq_true h1, of_decide_eq_true h2, of_decide_eq_true h3, of_decide_eq_true h4, of_decide_eq_true h5, of_decide_eq_true h6, of_decide_eq_true h7, of_decide_eq_true h8, of_decide_eq_true h9, trivial⟩
def x10 (K : Fr) : Bool := decide (PySem.W.findIn K (.ref (He.ga K "InvalidBook")) "__setattr__" = some (some (.builtin "object.__setattr__"))) && (decide (PySem.W.nsIn K mainGlobals "SmaltiError" = some (some (.ref (He.ga K "SmaltiError")))) && (decide (PySem.W.typeIn K (.ref (He.ga K "SmaltiError")) = some (.type "type")) && (decide (PySem.W.subIn K (.ref (He.ga K "InvalidBook")) (.ref (He.ga K "SmaltiError")) = some true) && (decide (((He.ga K "InvalidBook") == (He.ga K "SmaltiError")) = false) && (decide (PySem.W.subIn K (.ref (He.ga K "InvalidBook")) (.ref (He.ga K "InvalidRule")) = some false) && (decide (((He.ga K "InvalidBook") == (He.ga K "InvalidRule")) = false) && (decide (PySem.W.nsIn K mainGlobals "is_stone" = some (some (.ref (He.ga K "is_stone")))) && (decide (PySem.W.keepIn K (.ref (He.ga K "is_stone")) = true) && (decide (PySem.W.nsIn K mainGlobals "are_different_signs" = some (some (.ref (He.ga K "are_different_signs")))) && (true))))))))))
theorem x10_ok {K : Fr} (h : x10 K = true) : PySem.W.findIn K (.ref (He.ga K "InvalidBook")) "__setattr__" = some (some (.builtin "object.__setattr__")) ∧ PySem.W.nsIn K mainGlobals "SmaltiError" = some (some (.ref (He.ga K "SmaltiError"))) ∧ PySem.W.typeIn K (.ref (He.ga K "SmaltiError")) = some (.type "type") ∧ PySem.W.subIn K (.ref (He.ga K "InvalidBook")) (.ref (He.ga K "SmaltiError")) = some true ∧ ((He.ga K "InvalidBook") == (He.ga K "SmaltiError")) = false ∧ PySem.W.subIn K (.ref (He.ga K "InvalidBook")) (.ref (He.ga K "InvalidRule")) = some false ∧ ((He.ga K "InvalidBook") == (He.ga K "InvalidRule")) = false ∧ PySem.W.nsIn K mainGlobals "is_stone" = some (some (.ref (He.ga K "is_stone"))) ∧ PySem.W.keepIn K (.ref (He.ga K "is_stone")) = true ∧ PySem.W.nsIn K mainGlobals "are_different_signs" = some (some (.ref (He.ga K "are_different_signs"))) ∧ True := by
  obtain ⟨h0, h⟩ := He.ba h
  obtain ⟨h1, h⟩ := He.ba h
  obtain ⟨h2, h⟩ := He.ba h
  obtain ⟨h3, h⟩ := He.ba h
  obtain ⟨h4, h⟩ := He.ba h
  obtain ⟨h5, h⟩ := He.ba h
  obtain ⟨h6, h⟩ := He.ba h
  obtain ⟨h7, h⟩ := He.ba h
  obtain ⟨h8, h⟩ := He.ba h
  obtain ⟨h9, h⟩ := He.ba h
  exact ⟨of_decide_eq_true h0, of_decide_eq_true h1, of_decide_eq_true h2, of_decide_eq_true h3, of_decide_eq_true h4, of_decide_eq_true h5, of_decide_eq_true h6, of_decide_eq_true h7, of_decide_eq_true h8, of_decide_eq_true h9, trivial⟩
def x11 (K : Fr) : Bool := decide (PySem.W.keepIn K (.ref (He.ga K "are_different_signs")) = true) && (decide (PySem.W.nsIn K mainGlobals "in_ascii_order" = some (some (.ref (He.ga K "in_ascii_order")))) && (decide (PySem.W.keepIn K (.ref (He.ga K "in_ascii_order")) = true) && (decide (PySem.W.nsIn K mainGlobals "_is_place" = some (some (.ref (He.ga K "_is_place")))) && (decide (PySem.W.keepIn K (.ref (He.ga K "_is_place")) = true) && (decide (PySem.W.nsIn K mainGlobals "_check_conditions" = some (some (.ref (He.ga K "_check_conditions")))) && (decide (PySem.W.keepIn K (.ref (He.ga K "_check_conditions")) = true) && (decide (PySem.W.nsIn K mainGlobals "_check_need" = some (some (.ref (He.ga K "_check_need")))) && (decide (PySem.W.keepIn K (.ref (He.ga K "_check_need")) = true) && (decide (PySem.W.nsIn K mainGlobals "_in_order" = some (some (.ref (He.ga K "_in_order")))) && (true))))))))))
theorem x11_ok {K : Fr} (h : x11 K = true) : PySem.W.keepIn K (.ref (He.ga K "are_different_signs")) = true ∧ PySem.W.nsIn K mainGlobals "in_ascii_order" = some (some (.ref (He.ga K "in_ascii_order"))) ∧ PySem.W.keepIn K (.ref (He.ga K "in_ascii_order")) = true ∧ PySem.W.nsIn K mainGlobals "_is_place" = some (some (.ref (He.ga K "_is_place"))) ∧ PySem.W.keepIn K (.ref (He.ga K "_is_place")) = true ∧ PySem.W.nsIn K mainGlobals "_check_conditions" = some (some (.ref (He.ga K "_check_conditions"))) ∧ PySem.W.keepIn K (.ref (He.ga K "_check_conditions")) = true ∧ PySem.W.nsIn K mainGlobals "_check_need" = some (some (.ref (He.ga K "_check_need"))) ∧ PySem.W.keepIn K (.ref (He.ga K "_check_need")) = true ∧ PySem.W.nsIn K mainGlobals "_in_order" = some (some (.ref (He.ga K "_in_order"))) ∧ True := by
  obtain ⟨h0, h⟩ := He.ba h
  obtain ⟨h1, h⟩ := He.ba h
  obtain ⟨h2, h⟩ := He.ba h
  obtain ⟨h3, h⟩ := He.ba h
  obtain ⟨h4, h⟩ := He.ba h
  obtain ⟨h5, h⟩ := He.ba h
  obtain ⟨h6, h⟩ := He.ba h
  obtain ⟨h7, h⟩ := He.ba h
  obtain ⟨h8, h⟩ := He.ba h
  obtain ⟨h9, h⟩ := He.ba h
  exact ⟨of_decide_eq_true h0, of_decide_eq_true h1, of_decide_eq_true h2, of_decide_eq_true h3, of_decide_eq_true h4, of_decide_eq_true h5, of_decide_eq_true h6, of_decide_eq_true h7, of_decide_eq_true h8, of_decide_eq_true h9, trivial⟩
def x12 (K : Fr) : Bool := decide (PySem.W.keepIn K (.ref (He.ga K "_in_order")) = true) && (decide (PySem.W.nsIn K mainGlobals "_is_digit" = some (some (.ref (He.ga K "_is_digit")))) && (decide (PySem.W.keepIn K (.ref (He.ga K "_is_digit")) = true) && (decide (PySem.W.nsIn K mainGlobals "_is_number" = some (some (.ref (He.ga K "_is_number")))) && (decide (PySem.W.keepIn K (.ref (He.ga K "_is_number")) = true) && (decide (PySem.W.nsIn K mainGlobals "_read_place" = some (some (.ref (He.ga K "_read_place")))) && (decide (PySem.W.keepIn K (.ref (He.ga K "_read_place")) = true) && (decide (PySem.W.nsIn K mainGlobals "_read_condition" = some (some (.ref (He.ga K "_read_condition")))) && (decide (PySem.W.keepIn K (.ref (He.ga K "_read_condition")) = true) && (decide (PySem.W.nsIn K mainGlobals "read_rule" = some (some (.ref (He.ga K "read_rule")))) && (true))))))))))
theorem x12_ok {K : Fr} (h : x12 K = true) : PySem.W.keepIn K (.ref (He.ga K "_in_order")) = true ∧ PySem.W.nsIn K mainGlobals "_is_digit" = some (some (.ref (He.ga K "_is_digit"))) ∧ PySem.W.keepIn K (.ref (He.ga K "_is_digit")) = true ∧ PySem.W.nsIn K mainGlobals "_is_number" = some (some (.ref (He.ga K "_is_number"))) ∧ PySem.W.keepIn K (.ref (He.ga K "_is_number")) = true ∧ PySem.W.nsIn K mainGlobals "_read_place" = some (some (.ref (He.ga K "_read_place"))) ∧ PySem.W.keepIn K (.ref (He.ga K "_read_place")) = true ∧ PySem.W.nsIn K mainGlobals "_read_condition" = some (some (.ref (He.ga K "_read_condition"))) ∧ PySem.W.keepIn K (.ref (He.ga K "_read_condition")) = true ∧ PySem.W.nsIn K mainGlobals "read_rule" = some (some (.ref (He.ga K "read_rule"))) ∧ True := by
  obtain ⟨h0, h⟩ := He.ba h
  obtain ⟨h1, h⟩ := He.ba h
  obtain ⟨h2, h⟩ := He.ba h
  obtain ⟨h3, h⟩ := He.ba h
  obtain ⟨h4, h⟩ := He.ba h
  obtain ⟨h5, h⟩ := He.ba h
  obtain ⟨h6, h⟩ := He.ba h
  obtain ⟨h7, h⟩ := He.ba h
  obtain ⟨h8, h⟩ := He.ba h
  obtain ⟨h9, h⟩ := He.ba h
  exact ⟨of_decide_eq_true h0, of_decide_eq_true h1, of_decide_eq_true h2, of_decide_eq_true h3, of_decide_eq_true h4, of_decide_eq_true h5, of_decide_eq_true h6, of_decide_eq_true h7, of_decide_eq_true h8, of_decide_eq_true h9, trivial⟩
def x13 (K : Fr) : Bool := decide (PySem.W.keepIn K (.ref (He.ga K "read_rule")) = true) && (decide (PySem.W.nsIn K mainGlobals "_read_line" = some (some (.ref (He.ga K "_read_line")))) && (decide (PySem.W.keepIn K (.ref (He.ga K "_read_line")) = true) && (decide (PySem.W.nsIn K mainGlobals "_law_bag" = some (some (.ref (He.ga K "_law_bag")))) && (decide (PySem.W.keepIn K (.ref (He.ga K "_law_bag")) = true) && (decide (PySem.W.nsIn K mainGlobals "_law_take" = some (some (.ref (He.ga K "_law_take")))) && (decide (PySem.W.keepIn K (.ref (He.ga K "_law_take")) = true) && (decide (PySem.W.nsIn K mainGlobals "_law_palette" = some (some (.ref (He.ga K "_law_palette")))) && (decide (PySem.W.keepIn K (.ref (He.ga K "_law_palette")) = true) && (decide (PySem.W.nsIn K mainGlobals "_law_offset" = some (some (.ref (He.ga K "_law_offset")))) && (true))))))))))
theorem x13_ok {K : Fr} (h : x13 K = true) : PySem.W.keepIn K (.ref (He.ga K "read_rule")) = true ∧ PySem.W.nsIn K mainGlobals "_read_line" = some (some (.ref (He.ga K "_read_line"))) ∧ PySem.W.keepIn K (.ref (He.ga K "_read_line")) = true ∧ PySem.W.nsIn K mainGlobals "_law_bag" = some (some (.ref (He.ga K "_law_bag"))) ∧ PySem.W.keepIn K (.ref (He.ga K "_law_bag")) = true ∧ PySem.W.nsIn K mainGlobals "_law_take" = some (some (.ref (He.ga K "_law_take"))) ∧ PySem.W.keepIn K (.ref (He.ga K "_law_take")) = true ∧ PySem.W.nsIn K mainGlobals "_law_palette" = some (some (.ref (He.ga K "_law_palette"))) ∧ PySem.W.keepIn K (.ref (He.ga K "_law_palette")) = true ∧ PySem.W.nsIn K mainGlobals "_law_offset" = some (some (.ref (He.ga K "_law_offset"))) ∧ True := by
  obtain ⟨h0, h⟩ := He.ba h
  obtain ⟨h1, h⟩ := He.ba h
  obtain ⟨h2, h⟩ := He.ba h
  obtain ⟨h3, h⟩ := He.ba h
  obtain ⟨h4, h⟩ := He.ba h
  obtain ⟨h5, h⟩ := He.ba h
  obtain ⟨h6, h⟩ := He.ba h
  obtain ⟨h7, h⟩ := He.ba h
  obtain ⟨h8, h⟩ := He.ba h
  obtain ⟨h9, h⟩ := He.ba h
  exact ⟨of_decide_eq_true h0, of_decide_eq_true h1, of_decide_eq_true h2, of_decide_eq_true h3, of_decide_eq_true h4, of_decide_eq_true h5, of_decide_eq_true h6, of_decide_eq_true h7, of_decide_eq_true h8, of_decide_eq_true h9, trivial⟩
def x14 (K : Fr) : Bool := decide (PySem.W.keepIn K (.ref (He.ga K "_law_offset")) = true) && (decide (PySem.W.nsIn K mainGlobals "_law_signs" = some (some (.ref (He.ga K "_law_signs")))) && (decide (PySem.W.keepIn K (.ref (He.ga K "_law_signs")) = true) && (decide (PySem.W.nsIn K mainGlobals "_law_parts" = some (some (.ref (He.ga K "_law_parts")))) && (decide (PySem.W.keepIn K (.ref (He.ga K "_law_parts")) = true) && (decide (PySem.W.nsIn K mainGlobals "_law_rule" = some (some (.ref (He.ga K "_law_rule")))) && (decide (PySem.W.keepIn K (.ref (He.ga K "_law_rule")) = true) && (decide (PySem.W.nsIn K mainGlobals "_law_rules" = some (some (.ref (He.ga K "_law_rules")))) && (decide (PySem.W.keepIn K (.ref (He.ga K "_law_rules")) = true) && (decide (PySem.W.nsIn K mainGlobals "_law_sorted_parts" = some (some (.ref (He.ga K "_law_sorted_parts")))) && (true))))))))))
theorem x14_ok {K : Fr} (h : x14 K = true) : PySem.W.keepIn K (.ref (He.ga K "_law_offset")) = true ∧ PySem.W.nsIn K mainGlobals "_law_signs" = some (some (.ref (He.ga K "_law_signs"))) ∧ PySem.W.keepIn K (.ref (He.ga K "_law_signs")) = true ∧ PySem.W.nsIn K mainGlobals "_law_parts" = some (some (.ref (He.ga K "_law_parts"))) ∧ PySem.W.keepIn K (.ref (He.ga K "_law_parts")) = true ∧ PySem.W.nsIn K mainGlobals "_law_rule" = some (some (.ref (He.ga K "_law_rule"))) ∧ PySem.W.keepIn K (.ref (He.ga K "_law_rule")) = true ∧ PySem.W.nsIn K mainGlobals "_law_rules" = some (some (.ref (He.ga K "_law_rules"))) ∧ PySem.W.keepIn K (.ref (He.ga K "_law_rules")) = true ∧ PySem.W.nsIn K mainGlobals "_law_sorted_parts" = some (some (.ref (He.ga K "_law_sorted_parts"))) ∧ True := by
  obtain ⟨h0, h⟩ := He.ba h
  obtain ⟨h1, h⟩ := He.ba h
  obtain ⟨h2, h⟩ := He.ba h
  obtain ⟨h3, h⟩ := He.ba h
  obtain ⟨h4, h⟩ := He.ba h
  obtain ⟨h5, h⟩ := He.ba h
  obtain ⟨h6, h⟩ := He.ba h
  obtain ⟨h7, h⟩ := He.ba h
  obtain ⟨h8, h⟩ := He.ba h
  obtain ⟨h9, h⟩ := He.ba h
  exact ⟨of_decide_eq_true h0, of_decide_eq_true h1, of_decide_eq_true h2, of_decide_eq_true h3, of_decide_eq_true h4, of_decide_eq_true h5, of_decide_eq_true h6, of_decide_eq_true h7, of_decide_eq_true h8, of_decide_eq_true h9, trivial⟩
def x15 (K : Fr) : Bool := decide (PySem.W.keepIn K (.ref (He.ga K "_law_sorted_parts")) = true) && (decide (PySem.W.nsIn K mainGlobals "_law_written" = some (some (.ref (He.ga K "_law_written")))) && (decide (PySem.W.keepIn K (.ref (He.ga K "_law_written")) = true) && (decide (PySem.W.nsIn K mainGlobals "_law_is_letter" = some (some (.ref (He.ga K "_law_is_letter")))) && (decide (PySem.W.keepIn K (.ref (He.ga K "_law_is_letter")) = true) && (decide (PySem.W.nsIn K mainGlobals "_law_bad_part" = some (some (.ref (He.ga K "_law_bad_part")))) && (decide (PySem.W.keepIn K (.ref (He.ga K "_law_bad_part")) = true) && (decide (PySem.W.nsIn K mainGlobals "_law_fault" = some (some (.ref (He.ga K "_law_fault")))) && (decide (PySem.W.keepIn K (.ref (He.ga K "_law_fault")) = true) && (decide (PySem.W.nsIn K mainGlobals "_law_number" = some (some (.ref (He.ga K "_law_number")))) && (true))))))))))
theorem x15_ok {K : Fr} (h : x15 K = true) : PySem.W.keepIn K (.ref (He.ga K "_law_sorted_parts")) = true ∧ PySem.W.nsIn K mainGlobals "_law_written" = some (some (.ref (He.ga K "_law_written"))) ∧ PySem.W.keepIn K (.ref (He.ga K "_law_written")) = true ∧ PySem.W.nsIn K mainGlobals "_law_is_letter" = some (some (.ref (He.ga K "_law_is_letter"))) ∧ PySem.W.keepIn K (.ref (He.ga K "_law_is_letter")) = true ∧ PySem.W.nsIn K mainGlobals "_law_bad_part" = some (some (.ref (He.ga K "_law_bad_part"))) ∧ PySem.W.keepIn K (.ref (He.ga K "_law_bad_part")) = true ∧ PySem.W.nsIn K mainGlobals "_law_fault" = some (some (.ref (He.ga K "_law_fault"))) ∧ PySem.W.keepIn K (.ref (He.ga K "_law_fault")) = true ∧ PySem.W.nsIn K mainGlobals "_law_number" = some (some (.ref (He.ga K "_law_number"))) ∧ True := by
  obtain ⟨h0, h⟩ := He.ba h
  obtain ⟨h1, h⟩ := He.ba h
  obtain ⟨h2, h⟩ := He.ba h
  obtain ⟨h3, h⟩ := He.ba h
  obtain ⟨h4, h⟩ := He.ba h
  obtain ⟨h5, h⟩ := He.ba h
  obtain ⟨h6, h⟩ := He.ba h
  obtain ⟨h7, h⟩ := He.ba h
  obtain ⟨h8, h⟩ := He.ba h
  obtain ⟨h9, h⟩ := He.ba h
  exact ⟨of_decide_eq_true h0, of_decide_eq_true h1, of_decide_eq_true h2, of_decide_eq_true h3, of_decide_eq_true h4, of_decide_eq_true h5, of_decide_eq_true h6, of_decide_eq_true h7, of_decide_eq_true h8, of_decide_eq_true h9, trivial⟩
def x16 (K : Fr) : Bool := decide (PySem.W.keepIn K (.ref (He.ga K "_law_number")) = true) && (decide (PySem.W.nsIn K mainGlobals "_law_word_part" = some (some (.ref (He.ga K "_law_word_part")))) && (decide (PySem.W.keepIn K (.ref (He.ga K "_law_word_part")) = true) && (decide (PySem.W.nsIn K mainGlobals "_law_line_fault" = some (some (.ref (He.ga K "_law_line_fault")))) && (decide (PySem.W.keepIn K (.ref (He.ga K "_law_line_fault")) = true) && (decide (PySem.W.nsIn K mainGlobals "_law_made" = some (some (.ref (He.ga K "_law_made")))) && (decide (PySem.W.keepIn K (.ref (He.ga K "_law_made")) = true) && (decide (PySem.W.nsIn K mainGlobals "_law_made_of" = some (some (.ref (He.ga K "_law_made_of")))) && (decide (PySem.W.keepIn K (.ref (He.ga K "_law_made_of")) = true) && (decide (PySem.W.nsIn K mainGlobals "_law_line_of" = some (some (.ref (He.ga K "_law_line_of")))) && (true))))))))))
theorem x16_ok {K : Fr} (h : x16 K = true) : PySem.W.keepIn K (.ref (He.ga K "_law_number")) = true ∧ PySem.W.nsIn K mainGlobals "_law_word_part" = some (some (.ref (He.ga K "_law_word_part"))) ∧ PySem.W.keepIn K (.ref (He.ga K "_law_word_part")) = true ∧ PySem.W.nsIn K mainGlobals "_law_line_fault" = some (some (.ref (He.ga K "_law_line_fault"))) ∧ PySem.W.keepIn K (.ref (He.ga K "_law_line_fault")) = true ∧ PySem.W.nsIn K mainGlobals "_law_made" = some (some (.ref (He.ga K "_law_made"))) ∧ PySem.W.keepIn K (.ref (He.ga K "_law_made")) = true ∧ PySem.W.nsIn K mainGlobals "_law_made_of" = some (some (.ref (He.ga K "_law_made_of"))) ∧ PySem.W.keepIn K (.ref (He.ga K "_law_made_of")) = true ∧ PySem.W.nsIn K mainGlobals "_law_line_of" = some (some (.ref (He.ga K "_law_line_of"))) ∧ True := by
  obtain ⟨h0, h⟩ := He.ba h
  obtain ⟨h1, h⟩ := He.ba h
  obtain ⟨h2, h⟩ := He.ba h
  obtain ⟨h3, h⟩ := He.ba h
  obtain ⟨h4, h⟩ := He.ba h
  obtain ⟨h5, h⟩ := He.ba h
  obtain ⟨h6, h⟩ := He.ba h
  obtain ⟨h7, h⟩ := He.ba h
  obtain ⟨h8, h⟩ := He.ba h
  obtain ⟨h9, h⟩ := He.ba h
  exact ⟨of_decide_eq_true h0, of_decide_eq_true h1, of_decide_eq_true h2, of_decide_eq_true h3, of_decide_eq_true h4, of_decide_eq_true h5, of_decide_eq_true h6, of_decide_eq_true h7, of_decide_eq_true h8, of_decide_eq_true h9, trivial⟩
def x17 (K : Fr) : Bool := decide (PySem.W.keepIn K (.ref (He.ga K "_law_line_of")) = true) && (decide (PySem.W.nsIn K mainGlobals "_law_due" = some (some (.ref (He.ga K "_law_due")))) && (decide (PySem.W.keepIn K (.ref (He.ga K "_law_due")) = true) && (decide (PySem.W.nsIn K mainGlobals "_law_is_int" = some (some (.ref (He.ga K "_law_is_int")))) && (decide (PySem.W.keepIn K (.ref (He.ga K "_law_is_int")) = true) && (decide (PySem.W.nsIn K mainGlobals "law" = some (some (.ref (He.ga K "law")))) && (decide (PySem.W.keepIn K (.ref (He.ga K "law")) = true) && (decide (PySem.W.nsIn K mainGlobals "isinstance" = some none) && (decide (PySem.W.nsIn K mainGlobals "int" = some none) && (decide (PySem.W.nsIn K mainGlobals "bool" = some none) && (true))))))))))
theorem x17_ok {K : Fr} (h : x17 K = true) : PySem.W.keepIn K (.ref (He.ga K "_law_line_of")) = true ∧ PySem.W.nsIn K mainGlobals "_law_due" = some (some (.ref (He.ga K "_law_due"))) ∧ PySem.W.keepIn K (.ref (He.ga K "_law_due")) = true ∧ PySem.W.nsIn K mainGlobals "_law_is_int" = some (some (.ref (He.ga K "_law_is_int"))) ∧ PySem.W.keepIn K (.ref (He.ga K "_law_is_int")) = true ∧ PySem.W.nsIn K mainGlobals "law" = some (some (.ref (He.ga K "law"))) ∧ PySem.W.keepIn K (.ref (He.ga K "law")) = true ∧ PySem.W.nsIn K mainGlobals "isinstance" = some none ∧ PySem.W.nsIn K mainGlobals "int" = some none ∧ PySem.W.nsIn K mainGlobals "bool" = some none ∧ True := by
  obtain ⟨h0, h⟩ := He.ba h
  obtain ⟨h1, h⟩ := He.ba h
  obtain ⟨h2, h⟩ := He.ba h
  obtain ⟨h3, h⟩ := He.ba h
  obtain ⟨h4, h⟩ := He.ba h
  obtain ⟨h5, h⟩ := He.ba h
  obtain ⟨h6, h⟩ := He.ba h
  obtain ⟨h7, h⟩ := He.ba h
  obtain ⟨h8, h⟩ := He.ba h
  obtain ⟨h9, h⟩ := He.ba h
  exact ⟨of_decide_eq_true h0, of_decide_eq_true h1, of_decide_eq_true h2, of_decide_eq_true h3, of_decide_eq_true h4, of_decide_eq_true h5, of_decide_eq_true h6, of_decide_eq_true h7, of_decide_eq_true h8, of_decide_eq_true h9, trivial⟩
def x18 (K : Fr) : Bool := decide (PySem.W.nsIn K mainGlobals "tuple" = some none) && (decide (PySem.W.nsIn K mainGlobals "list" = some none) && (decide (PySem.W.nsIn K mainGlobals "len" = some none) && (decide (PySem.W.nsIn K mainGlobals "range" = some none) && (decide (PySem.W.nsIn K mainGlobals "all" = some none) && (decide (PySem.W.nsIn K mainGlobals "enumerate" = some none) && (decide (PySem.W.nsIn K mainGlobals "sorted" = some none) && (decide (PySem.W.nsIn K mainGlobals "set" = some none) && (decide (PySem.W.nsIn K mainGlobals "str" = some none) && (decide (PySem.W.nsIn K mainGlobals "super" = some none) && (true))))))))))
theorem x18_ok {K : Fr} (h : x18 K = true) : PySem.W.nsIn K mainGlobals "tuple" = some none ∧ PySem.W.nsIn K mainGlobals "list" = some none ∧ PySem.W.nsIn K mainGlobals "len" = some none ∧ PySem.W.nsIn K mainGlobals "range" = some none ∧ PySem.W.nsIn K mainGlobals "all" = some none ∧ PySem.W.nsIn K mainGlobals "enumerate" = some none ∧ PySem.W.nsIn K mainGlobals "sorted" = some none ∧ PySem.W.nsIn K mainGlobals "set" = some none ∧ PySem.W.nsIn K mainGlobals "str" = some none ∧ PySem.W.nsIn K mainGlobals "super" = some none ∧ True := by
  obtain ⟨h0, h⟩ := He.ba h
  obtain ⟨h1, h⟩ := He.ba h
  obtain ⟨h2, h⟩ := He.ba h
  obtain ⟨h3, h⟩ := He.ba h
  obtain ⟨h4, h⟩ := He.ba h
  obtain ⟨h5, h⟩ := He.ba h
  obtain ⟨h6, h⟩ := He.ba h
  obtain ⟨h7, h⟩ := He.ba h
  obtain ⟨h8, h⟩ := He.ba h
  obtain ⟨h9, h⟩ := He.ba h
  exact ⟨of_decide_eq_true h0, of_decide_eq_true h1, of_decide_eq_true h2, of_decide_eq_true h3, of_decide_eq_true h4, of_decide_eq_true h5, of_decide_eq_true h6, of_decide_eq_true h7, of_decide_eq_true h8, of_decide_eq_true h9, trivial⟩
def y0 (K : Fr) : Bool := Hm.cvalB K (He.ga K "Picture") "HOLE" ((.str "."))
def y1 (K : Fr) : Bool := Hm.cvalB K (He.ga K "Picture") "EDGE" ((.str "#"))
def y2 (K : Fr) : Bool := Hm.globB K "STONES" ((.str alphaS))
def y3 (K : Fr) : Bool := Hm.globB K "MOST" ((.int 8))
def y4 (K : Fr) : Bool := Hm.globB K "REACH" ((.int 3))
def y5 (K : Fr) : Bool := Hm.globB K "MOST_CONDITIONS" ((.int 8))
def y6 (K : Fr) : Bool := Hm.globB K "_DIGITS" ((.str digS))
def y7 (K : Fr) : Bool := Hm.globB K "_ALL" ((.str "all"))
def y8 (K : Fr) : Bool := Hm.globB K "_SAME" ((.str "same"))
def y9 (K : Fr) : Bool := Hm.globB K "MOST_RULES" ((.int 20))
def y10 (K : Fr) : Bool := Hm.clsB K (He.ga K "Rule")
def y11 (K : Fr) : Bool := Hm.ivalB K (He.ga K "Rule") "KIND" ((.str "all"))
def y12 (K : Fr) : Bool := Hm.clsB K (He.ga K "CountRule")
def y13 (K : Fr) : Bool := Hm.ivalB K (He.ga K "CountRule") "KIND" ((.str "count"))
def y14 (K : Fr) : Bool := Hm.clsB K (He.ga K "SameRule")
def y15 (K : Fr) : Bool := Hm.ivalB K (He.ga K "SameRule") "KIND" ((.str "same"))
def y16 (K : Fr) : Bool := He5.wrapB K (He.ga K "Book") "classmethod" "classmethod.__get__" "read"
def y17 (K : Fr) : Bool := Hm.excB K (He.ga K "InvalidRule")
def y18 (K : Fr) : Bool := Hm.clsB K (He.ga K "InvalidRule")
def y19 (K : Fr) : Bool := Hm.excB K (He.ga K "InvalidBook")
def y20 (K : Fr) : Bool := Hm.clsB K (He.ga K "InvalidBook")
def y21 (K : Fr) : Bool := Hm.clsB K (He.ga K "SmaltiError")
def y22 (K : Fr) : Bool := Hm.cellB K (Hm.cloOf (fun K => (He.ma K (He.ga K "CountRule") "__init__")) K) (He.ga K "CountRule")
def y23 (K : Fr) : Bool := Hm.fileB K (He.ma K (He.ga K "CountRule") "__init__") "/claim/cut.py"
def exs : List (Fr → Bool) := [x0, x1, x2, x3, x4, x5, x6, x7, x8, x9, x10, x11, x12, x13, x14, x15, x16, x17, x18, y0, y1, y2, y3, y4, y5, y6, y7, y8, y9, y10] ++ [y11, y12, y13, y14, y15, y16, y17, y18, y19, y20, y21, y22, y23]
def loose0 : List Str := ["_wall", "SmaltiError", "InvalidPicture", "InvalidRule", "InvalidBook", "OutOfPicture", "NoRule", "WrongStone", "UnequalSize", "_GROUP", "_GROUP_DIGITS", "decimal", "Region", "STONES", "MOST", "is_stone", "is_stone_or_hole", "are_different_signs", "in_ascii_order", "_is_bad_row", "_bad_line", "Picture", "check_cell", "REACH", "MOST_CONDITIONS", "_ALL", "_SAME", "_DIGITS", "_is_place", "_check_conditions"]
def loose1 : List Str := ["_check_need", "_in_order", "_clashes_at", "Rule", "CountRule", "SameRule", "_is_digit", "_is_number", "_read_place", "_read_condition", "read_rule", "MOST_RULES", "_read_line", "Book", "_law_bag", "_law_take", "_law_is_int", "_law_palette", "_law_offset", "_law_signs", "_law_parts", "_law_rule", "_law_rules", "_law_sorted_parts", "_law_written", "_law_is_letter", "_law_made", "_law_bad_part", "_law_fault", "_law_number"]
def loose2 : List Str := ["_law_word_part", "_law_line_fault", "_law_line_of", "_law_due", "_law_made_of"]
def loose : List Str := loose0 ++ loose1 ++ loose2
def as0 : List Addr := [3, 2, 31, 30, 51, 50, 70, 69, 89, 88, 108, 107, 127, 126, 146, 145, 158, 157, 263, 262, 416, 415, 532, 531, 570, 569, 604, 603, 705, 704]
def as1 : List Addr := [274, 273, 286, 285, 293, 292, 434, 433, 441, 440, 448, 447, 453, 452, 613, 612, 620, 619, 627, 626, 634, 633, 639, 638, 646, 645, 714, 713, 721, 720]
def as2 : List Addr := [728, 727, 735, 734, 742, 741, 749, 748, 754, 753, 761, 760, 768, 767, 773, 772, 780, 779, 787, 786, 792, 791, 797, 796, 804, 803, 811, 810, 818, 817]
def as3 : List Addr := [825, 824, 832, 831, 839, 838, 844, 843, 849, 848, 67, 66, 86, 85, 474, 473, 552, 551, 584, 583, 660, 659, 695, 694, 665, 664, 188, 328, 338, 482]
def as4 : List Addr := [540, 560, 667]
def asK : List Addr := as0 ++ as1 ++ as2 ++ as3 ++ as4
abbrev R : PySem.W.OpenRow := PySem.W.OpenLaw.row PySem.Challenge.rw_smalti_k16_book_refused
abbrev hk : PySem.W.Hook := hookM asK fns exs
def ob (s : PySem.W.SharedT) : AlM := obsMG asK fns exs (HandSHeadRun.getT s)
theorem ob_eq (s : PySem.W.SharedT) : ob s = hk.obs s.abs := obsMG_eq (HandSHeadRun.getT_eq s)
theorem run (w : World) : HandSHeadRun.RunEq R (PySem.W.view R.prog [71]) hk ob 12000 loose w := by
  intro os
  kernel_rfl
theorem facts {w : World} {K : Fr} {h : Heap} {mg : Str → Option Value} {fa : Addr} (X : K.In h) (G : h.Ns mainGlobals mg) (hfa : mg "law" = some (.ref fa)) (c : SaysM fns exs K) :
    ∃ fd : FuncData, (∀ (s : Shared) (v : Value), BindsTo s fd ⟨[v], []⟩ [("_law_script", v)]) ∧ ∀ base : Heap, K.In base → base.Ns mainGlobals mg → FnOk (PySem.Challenge.rw_smalti_k16_book_refused).prog w K mg base CX0 11 fa fd ["_law_script"] (spLaw K) := by
  obtain ⟨_, _, _, _, _, _, _, _, _, lIR, cIR, _⟩ := c.fn 0 (d := d0) rfl
  obtain ⟨_, _, _, _, _, _, _, _, _, lIS, cIS, _⟩ := c.fn 1 (d := d1) rfl
  obtain ⟨_, _, _, _, _, _, _, _, _, lIB, cIB, _⟩ := c.fn 2 (d := d2) rfl
  obtain ⟨_, _, _, _, _, _, _, _, _, lBr, cBr, _⟩ := c.fn 3 (d := d3) rfl
  obtain ⟨_, _, _, _, _, _, _, _, _, lBn, cBn, _⟩ := c.fn 4 (d := d4) rfl
  obtain ⟨_, _, _, _, _, _, _, cdIC, _, lIC, cIC, _⟩ := c.fn 5 (d := d5) rfl
  obtain ⟨_, _, _, _, _, _, _, _, _, lEi, cEi, _⟩ := c.fn 6 (d := d6) rfl
  obtain ⟨_, _, _, _, _, _, _, _, _, lEv, cEv, _⟩ := c.fn 7 (d := d7) rfl
  obtain ⟨_, _, _, _, _, _, _, _, _, lIs, cIs, _⟩ := c.fn 8 (d := d8) rfl
  obtain ⟨_, _, _, _, _, _, _, _, _, lDf, cDf, _⟩ := c.fn 9 (d := d9) rfl
  obtain ⟨_, _, _, _, _, _, _, _, _, lAs, cAs, _⟩ := c.fn 10 (d := d10) rfl
  obtain ⟨_, _, _, _, _, _, _, _, _, lPc, cPc, _⟩ := c.fn 11 (d := d11) rfl
  obtain ⟨_, _, _, _, _, _, _, _, _, lCk, cCk, _⟩ := c.fn 12 (d := d12) rfl
  obtain ⟨_, _, _, _, _, _, _, _, _, lNd, cNd, _⟩ := c.fn 13 (d := d13) rfl
  obtain ⟨_, _, _, _, _, _, _, _, _, lIo, cIo, _⟩ := c.fn 14 (d := d14) rfl
  obtain ⟨_, _, _, _, _, _, _, _, _, lDi, cDi, _⟩ := c.fn 15 (d := d15) rfl
  obtain ⟨_, _, _, _, _, _, _, _, _, lNu, cNu, _⟩ := c.fn 16 (d := d16) rfl
  obtain ⟨_, _, _, _, _, _, _, _, _, lRp, cRp, _⟩ := c.fn 17 (d := d17) rfl
  obtain ⟨_, _, _, _, _, _, _, _, _, lRc, cRc, _⟩ := c.fn 18 (d := d18) rfl
  obtain ⟨_, _, _, _, _, _, _, _, _, lRr, cRr, _⟩ := c.fn 19 (d := d19) rfl
  obtain ⟨_, _, _, _, _, _, _, _, _, lRl, cRl, _⟩ := c.fn 20 (d := d20) rfl
  obtain ⟨_, _, _, _, _, _, _, _, _, lBag, cBag, _⟩ := c.fn 21 (d := d21) rfl
  obtain ⟨_, _, _, _, _, _, _, _, _, lTake, cTake, _⟩ := c.fn 22 (d := d22) rfl
  obtain ⟨_, _, _, _, _, _, _, _, _, lPal, cPal, _⟩ := c.fn 23 (d := d23) rfl
  obtain ⟨_, _, _, _, _, _, _, _, _, lOf, cOf, _⟩ := c.fn 24 (d := d24) rfl
  obtain ⟨_, _, _, _, _, _, _, _, _, lSg, cSg, _⟩ := c.fn 25 (d := d25) rfl
  obtain ⟨_, _, _, _, _, _, _, _, _, lPa, cPa, _⟩ := c.fn 26 (d := d26) rfl
  obtain ⟨_, _, _, _, _, _, _, _, _, lRu, cRu, _⟩ := c.fn 27 (d := d27) rfl
  obtain ⟨_, _, _, _, _, _, _, _, _, lRs, cRs, _⟩ := c.fn 28 (d := d28) rfl
  obtain ⟨_, _, _, _, _, _, _, _, _, lSp, cSp, _⟩ := c.fn 29 (d := d29) rfl
  obtain ⟨_, _, _, _, _, _, _, _, _, lWt, cWt, _⟩ := c.fn 30 (d := d30) rfl
  obtain ⟨_, _, _, _, _, _, _, _, _, lLe, cLe, _⟩ := c.fn 31 (d := d31) rfl
  obtain ⟨_, _, _, _, _, _, _, _, _, lBp, cBp, _⟩ := c.fn 32 (d := d32) rfl
  obtain ⟨_, _, _, _, _, _, _, _, _, lFa, cFa, _⟩ := c.fn 33 (d := d33) rfl
  obtain ⟨_, _, _, _, _, _, _, _, _, lNm, cNm, _⟩ := c.fn 34 (d := d34) rfl
  obtain ⟨_, _, _, _, _, _, _, _, _, lWp, cWp, _⟩ := c.fn 35 (d := d35) rfl
  obtain ⟨_, _, _, _, _, _, _, _, _, lLf, cLf, _⟩ := c.fn 36 (d := d36) rfl
  obtain ⟨_, _, _, _, _, _, _, _, _, lMd, cMd, _⟩ := c.fn 37 (d := d37) rfl
  obtain ⟨_, _, _, _, _, _, _, _, _, lMf, cMf, _⟩ := c.fn 38 (d := d38) rfl
  obtain ⟨_, _, _, _, _, _, _, _, _, lLo, cLo, _⟩ := c.fn 39 (d := d39) rfl
  obtain ⟨_, _, _, _, _, _, _, _, _, lDu, cDu, _⟩ := c.fn 40 (d := d40) rfl
  obtain ⟨_, _, _, _, _, _, _, _, _, lIi, cIi, _⟩ := c.fn 41 (d := d41) rfl
  obtain ⟨_, _, _, _, _, _, _, _, _, lLaw, cLaw, _⟩ := c.fn 42 (d := d42) rfl
  obtain ⟨cn, ct, gC, rdC, gaC, gCR, tyCR, pgCR, hdCR, poCR, _⟩ := x0_ok (c.ex (b := x0) (List.mem_of_getElem? (i := 0) rfl))
  obtain ⟨saCR, mkCR, kpCR, nCR_stone, nCR_conditions, nCR_need, gCC, tyCC, pgCC, hdCC, _⟩ := x1_ok (c.ex (b := x1) (List.mem_of_getElem? (i := 1) rfl))
  obtain ⟨poCC, saCC, mkCC, kpCC, nCC_stone, nCC_conditions, nCC_need, gCS, tyCS, pgCS, _⟩ := x2_ok (c.ex (b := x2) (List.mem_of_getElem? (i := 2) rfl))
  obtain ⟨hdCS, poCS, saCS, mkCS, kpCS, nCS_stone, nCS_conditions, nCS_need, aIR, iIR, _⟩ := x3_ok (c.ex (b := x3) (List.mem_of_getElem? (i := 3) rfl))
  obtain ⟨kIR, aIS, iIS, kIS, gCB, pgCB, hdCB, poCB, saCB, mkCB, _⟩ := x4_ok (c.ex (b := x4) (List.mem_of_getElem? (i := 4) rfl))
  obtain ⟨kpCB, nCB_rules, rdCB, gaCB, aIB, iIB, kIB, iBr, kBr, aBn, _⟩ := x5_ok (c.ex (b := x5) (List.mem_of_getElem? (i := 5) rfl))
  obtain ⟨iBn, kBn, aIC, iIC, nIC, mIC, sIC, tyIR, fiIR, gCI, _⟩ := x6_ok (c.ex (b := x6) (List.mem_of_getElem? (i := 6) rfl))
  obtain ⟨atCI, ftCI, kEi, tyCI, hgCI, hkCI, svCI, sxCI, icCI, haCI, _⟩ := x7_ok (c.ex (b := x7) (List.mem_of_getElem? (i := 7) rfl))
  obtain ⟨hmCI, hdCI, kpCI, nCI_part, saCI, gCV, atCV, ftCV, kEv, tyCV, _⟩ := x8_ok (c.ex (b := x8) (List.mem_of_getElem? (i := 8) rfl))
  obtain ⟨hgCV, hkCV, svCV, sxCV, icCV, haCV, hmCV, hdCV, kpCV, nCV_line, _⟩ := x9_ok (c.ex (b := x9) (List.mem_of_getElem? (i := 9) rfl))
  obtain ⟨saCV, gCE, tyCE, sbCVCE, neCVCE, sbCVCI, neCVCI, aIs, kIs, aDf, _⟩ := x10_ok (c.ex (b := x10) (List.mem_of_getElem? (i := 10) rfl))
  obtain ⟨kDf, aAs, kAs, aPc, kPc, aCk, kCk, aNd, kNd, aIo, _⟩ := x11_ok (c.ex (b := x11) (List.mem_of_getElem? (i := 11) rfl))
  obtain ⟨kIo, aDi, kDi, aNu, kNu, aRp, kRp, aRc, kRc, aRr, _⟩ := x12_ok (c.ex (b := x12) (List.mem_of_getElem? (i := 12) rfl))
  obtain ⟨kRr, aRl, kRl, aBag, kBag, aTake, kTake, aPal, kPal, aOf, _⟩ := x13_ok (c.ex (b := x13) (List.mem_of_getElem? (i := 13) rfl))
  obtain ⟨kOf, aSg, kSg, aPa, kPa, aRu, kRu, aRs, kRs, aSp, _⟩ := x14_ok (c.ex (b := x14) (List.mem_of_getElem? (i := 14) rfl))
  obtain ⟨kSp, aWt, kWt, aLe, kLe, aBp, kBp, aFa, kFa, aNm, _⟩ := x15_ok (c.ex (b := x15) (List.mem_of_getElem? (i := 15) rfl))
  obtain ⟨kNm, aWp, kWp, aLf, kLf, aMd, kMd, aMf, kMf, aLo, _⟩ := x16_ok (c.ex (b := x16) (List.mem_of_getElem? (i := 16) rfl))
  obtain ⟨kLo, aDu, kDu, aIi, kIi, aLaw, kLaw, zisinstance, zint, zbool, _⟩ := x17_ok (c.ex (b := x17) (List.mem_of_getElem? (i := 17) rfl))
  obtain ⟨ztuple, zlist, zlen, zrange, zall, zenumerate, zsorted, zset, zstr, zsuper, _⟩ := x18_ok (c.ex (b := x18) (List.mem_of_getElem? (i := 18) rfl))
  obtain ⟨uHo, aHo, rlHo⟩ := Hm.cvalB_ok (c.ex (b := y0) (List.mem_of_getElem? (i := 19) rfl))
  obtain ⟨uEd, aEd, rlEd⟩ := Hm.cvalB_ok (c.ex (b := y1) (List.mem_of_getElem? (i := 20) rfl))
  obtain ⟨uSn, aSn, rlSn⟩ := Hm.globB_ok (c.ex (b := y2) (List.mem_of_getElem? (i := 21) rfl))
  obtain ⟨uMo, aMo, rlMo⟩ := Hm.globB_ok (c.ex (b := y3) (List.mem_of_getElem? (i := 22) rfl))
  obtain ⟨uRe, aRe, rlRe⟩ := Hm.globB_ok (c.ex (b := y4) (List.mem_of_getElem? (i := 23) rfl))
  obtain ⟨uMc, aMc, rlMc⟩ := Hm.globB_ok (c.ex (b := y5) (List.mem_of_getElem? (i := 24) rfl))
  obtain ⟨uDg, aDg, rlDg⟩ := Hm.globB_ok (c.ex (b := y6) (List.mem_of_getElem? (i := 25) rfl))
  obtain ⟨uWa, aWa, rlWa⟩ := Hm.globB_ok (c.ex (b := y7) (List.mem_of_getElem? (i := 26) rfl))
  obtain ⟨uWs, aWs, rlWs⟩ := Hm.globB_ok (c.ex (b := y8) (List.mem_of_getElem? (i := 27) rfl))
  obtain ⟨uMr, aMr, rlMr⟩ := Hm.globB_ok (c.ex (b := y9) (List.mem_of_getElem? (i := 28) rfl))
  obtain ⟨cdtCR, cxCR⟩ := Hm.clsB_ok (c.ex (b := y10) (List.mem_of_getElem? (i := 29) rfl))
  obtain ⟨uCRK, aCRK, rlCRK, ggCRK⟩ := Hm.ivalB_ok (c.ex (b := y11) (List.mem_of_getElem? (i := 30) rfl))
  obtain ⟨cdtCC, cxCC⟩ := Hm.clsB_ok (c.ex (b := y12) (List.mem_of_getElem? (i := 31) rfl))
  obtain ⟨uCCK, aCCK, rlCCK, ggCCK⟩ := Hm.ivalB_ok (c.ex (b := y13) (List.mem_of_getElem? (i := 32) rfl))
  obtain ⟨cdtCS, cxCS⟩ := Hm.clsB_ok (c.ex (b := y14) (List.mem_of_getElem? (i := 33) rfl))
  obtain ⟨uCSK, aCSK, rlCSK, ggCSK⟩ := Hm.ivalB_ok (c.ex (b := y15) (List.mem_of_getElem? (i := 34) rfl))
  obtain ⟨aBr, restBr, rBr⟩ := He5.wrapB_ok (c.ex (b := y16) (List.mem_of_getElem? (i := 35) rfl))
  obtain ⟨nmCI, qnCI, nsCI, bsCI, bmCI, snCI, sbCI, abCI, coCI, ddCI, x0CI, x1CI, x2CI, x3CI, x5CI, lkCI, vbCI⟩ := Hm.excB_ok (c.ex (b := y17) (List.mem_of_getElem? (i := 36) rfl))
  obtain ⟨cdtCI, cxCI⟩ := Hm.clsB_ok (c.ex (b := y18) (List.mem_of_getElem? (i := 37) rfl))
  obtain ⟨nmCV, qnCV, nsCV, bsCV, bmCV, snCV, sbCV, abCV, coCV, ddCV, x0CV, x1CV, x2CV, x3CV, x5CV, lkCV, vbCV⟩ := Hm.excB_ok (c.ex (b := y19) (List.mem_of_getElem? (i := 38) rfl))
  obtain ⟨cdtCV, cxCV⟩ := Hm.clsB_ok (c.ex (b := y20) (List.mem_of_getElem? (i := 39) rfl))
  obtain ⟨cdtCE, cxCE⟩ := Hm.clsB_ok (c.ex (b := y21) (List.mem_of_getElem? (i := 40) rfl))
  obtain ⟨_, _, _, xIC⟩ := Hm.cellB_ok (c.ex (b := y22) (List.mem_of_getElem? (i := 41) rfl))
  have fileIC := (c.ex (b := y23) (List.mem_of_getElem? (i := 42) rfl))
  obtain ⟨_, _, _, _, _, _, eIC, yIC, vIC⟩ := Hm.fileB_ok fileIC lIC
  have eIC2 : cdIC = _ := eIC
  subst eIC2
  have hIC : (((PySem.Challenge.rw_smalti_k16_book_refused).prog.main.file : Str) == ("/claim/cut.py" : Str)) = true := by decide +kernel
  have tIC : ((PySem.Challenge.rw_smalti_k16_book_refused).prog.main.scope.names.lookup ("super" : Str)).isSome = false := by decide +kernel
  exact Pm.all_mk (l := PySem.Challenge.rw_smalti_k16_book_refused) X G hfa cn ct gC rdC gaC aHo rlHo aEd rlEd aSn rlSn aMo rlMo aRe rlRe aMc rlMc aDg rlDg aWa rlWa aWs rlWs aMr rlMr gCR cxCR tyCR pgCR hdCR poCR saCR mkCR kpCR nCR_stone nCR_conditions nCR_need aCRK rlCRK ggCRK gCC cxCC tyCC pgCC hdCC poCC saCC mkCC kpCC nCC_stone nCC_conditions nCC_need aCCK rlCCK ggCCK gCS cxCS tyCS pgCS hdCS poCS saCS mkCS kpCS nCS_stone nCS_conditions nCS_need aCSK rlCSK ggCSK aIR iIR lIR cIR kIR aIS iIS lIS cIS kIS gCB pgCB hdCB poCB saCB mkCB kpCB nCB_rules rdCB gaCB aIB iIB lIB cIB kIB aBr rBr iBr lBr cBr kBr aBn iBn lBn cBn kBn aIC iIC lIC cIC xIC yIC vIC hIC tIC nIC mIC sIC tyIR fiIR gCI lkCI vbCI atCI ftCI lEi cEi kEi cxCI tyCI hgCI hkCI svCI sxCI icCI haCI hmCI hdCI kpCI nCI_part saCI gCV lkCV vbCV atCV ftCV lEv cEv kEv cxCV tyCV hgCV hkCV svCV sxCV icCV haCV hmCV hdCV kpCV nCV_line saCV gCE cxCE tyCE sbCVCE neCVCE sbCVCI neCVCI aIs lIs cIs kIs aDf lDf cDf kDf aAs lAs cAs kAs aPc lPc cPc kPc aCk lCk cCk kCk aNd lNd cNd kNd aIo lIo cIo kIo aDi lDi cDi kDi aNu lNu cNu kNu aRp lRp cRp kRp aRc lRc cRc kRc aRr lRr cRr kRr aRl lRl cRl kRl aBag lBag cBag kBag aTake lTake cTake kTake aPal lPal cPal kPal aOf lOf cOf kOf aSg lSg cSg kSg aPa lPa cPa kPa aRu lRu cRu kRu aRs lRs cRs kRs aSp lSp cSp kSp aWt lWt cWt kWt aLe lLe cLe kLe aBp lBp cBp kBp aFa lFa cFa kFa aNm lNm cNm kNm aWp lWp cWp kWp aLf lLf cLf kLf aMd lMd cMd kMd aMf lMf cMf kMf aLo lLo cLo kLo aDu lDu cDu kDu aIi lIi cIi kIi aLaw lLaw cLaw kLaw zisinstance zint zbool ztuple zlist zlen zrange zall zenumerate zsorted zset zstr zsuper
end Hd

open PySem PySem.W PySem.Calls PyProof.Rows in
set_option maxRecDepth 100000 in
set_option maxHeartbeats 0 in
theorem PySem.Challenge.cw_smalti_k16_book_refused_holds : PySem.Challenge.rw_smalti_k16_book_refused.Holds := by
  w_on; o_law
  refine HandSHeadRun.head_any (r := OpenLaw.row PySem.Challenge.rw_smalti_k16_book_refused) (q := view (OpenLaw.row PySem.Challenge.rw_smalti_k16_book_refused).prog [71]) (H := Hd.hk) (ob := Hd.ob) (M := 12000) (loose := Hd.loose) (d := HandSHeadRun.topDef (OpenLaw.row PySem.Challenge.rw_smalti_k16_book_refused).prog 71) (kwd := []) Hd.ob_eq
    (by kernel_rfl) (fun s => by kernel_rfl) Hd.run (by kernel_rfl) (by kernel_rfl) (by kernel_rfl) (by rfl) (by first | assumption | decide +kernel) (by decide +kernel) ⟨rfl, rfl, rfl, rfl, rfl, by decide +kernel⟩ ?hw ?hc
  case hw => w_witness2
  case hc =>
    refine L2.walk_ofE (l := PySem.Challenge.rw_smalti_k16_book_refused) (n := 63) (k := 11) (x := "_law_script") (CX := L2.CX0) rfl (by decide) (by kernel_rfl) ⟨rfl, by decide, by decide⟩ ?F (fun _ _ _ _ z => z)
    intro w mg fa h Y G hmg0
    obtain ⟨K, KX, c⟩ := Y
    have hmg : mg ("law" : PySem.Str) = some (.ref fa) := by
      have e : (HandSHeadRun.topDef (OpenLaw.row PySem.Challenge.rw_smalti_k16_book_refused).prog 71).name = ("law" : PySem.Str) := by kernel_rfl
      rw [← e]
      exact hmg0
    obtain ⟨fd, hb, hF⟩ := Hd.facts (w := w) KX G hmg c
    exact ⟨K, fd, Pm.spLaw K, KX, hb, fun H a ns hl _ hS => ⟨a, ns, rfl, hS, hl, fun _ => rfl⟩, hF⟩
