import PyProof.Rows.All
import Wide.All
import OpenK.AllK
import Wide.FinOn
import HandS.ForMost
import HandS.Codes
import HandS.SetBool
import HandS.TupSets
import HandS.DictComp
import HandS.SortRule
import HandS.Conv
import HandS.ClsMeth
import HandS.OwnEq
import HandS.IsInst
import HandS.Star
import HandS.Deep
import KE.KEqDict
import HandS.FStr
import HandS.Small
import HandS.Walk
import HandS.TupLen
import KE.KCallOwn
import PyProof.DictTruth
import HandS.Style
import PyProof.Rows.StrDigitsNeg
import KE.KOpsOwn
import HandS.TupLe
import PySem.Challenge.RW_smalti_k02_region_operators
set_option Elab.async false
set_option linter.all false
set_option maxRecDepth 100000
set_option maxHeartbeats 8000000
namespace Sm
open PySem L2
/-! ### the text by places -/
def top (i : Nat) : Stmt := PySem.Challenge.pw_smalti_k02_region_operators.main.body.getD i (.Pass ⟨0, 0, 0, 0⟩)
abbrev sBag : Stmt := top 6
abbrev sTake : Stmt := top 7
/-! ### the bag of drawn numbers -/
/-- the bag at b: four places; the first a list of ints, the second a place in it or its end, the third at least 0 -/
abbrev BagL (H : Hp) (b l : Addr) : Prop := ∃ (ns : List Int) (i p q : Int),
  H b = some (.lst [.ref l, .int i, .int p, .int q]) ∧ H l = some (.lst (ns.map V.int)) ∧ 0 ≤ i ∧ 0 ≤ p ∧ l ≠ b ∧ ns.length ≤ 63
/-- all but b stands as it stood -/
def But (b : Addr) (H H' : Hp) : Prop := ∀ a, a ≠ b → H' a = H a
theorem But.refl (b : Addr) (H : Hp) : But b H H := fun _ _ => rfl
theorem But.trans {b : Addr} {H H1 H2 : Hp} (x : But b H H1) (y : But b H1 H2) : But b H H2 := fun a h => (y a h).trans (x a h)
theorem But.upd {b : Addr} {H : Hp} {o : HO} : But b H (upd H b o) := fun _ h => upd_ne h
def spTake : Sp := fun vs H Q _ => ∃ (b l : Addr) (size : Int), vs = [.ref b, .int size] ∧ BagL H b l ∧ 0 < size ∧ size < 1073741824 ∧
  ∀ (n : Int) (H' : Hp), 0 ≤ n → n < size → But b H H' → BagL H' b l → Q (.int n) H'
theorem scTake : FnScope ["_law_bag_here", "_law_size", "_law_cell", "_law_digit"] ["_law_bag_here", "_law_size"] (defScope sTake) := ⟨rfl, rfl, rfl, by decide +kernel, rfl, by decide +kernel, by decide +kernel⟩
theorem at4 {a b c d : V} : atI [a, b, c, d] 0 = some a ∧ atI [a, b, c, d] 1 = some b ∧ atI [a, b, c, d] 2 = some c ∧ atI [a, b, c, d] 3 = some d := ⟨rfl, rfl, rfl, rfl⟩
section
variable {P : Program} {w : World} {K : PySem.W.Frag} {mg : Str → Option Value} {base : Heap}
theorem ok_take {f : Addr} {fd : FuncData} (F : Fun K "_law_take" "_law_take" sTake f fd) (mlen : mg "len" = none) (mint : mg "int" = none) : FnOk P w K mg base CX0 1 f fd ["_law_bag_here", "_law_size"] spTake := by
  refine F.ok scTake (fun vs H Q E h => ?_) (fun cdv A outer s H vs Q E hr h => ?_)
  · obtain ⟨b, l, size, rfl, _⟩ := h
    rfl
  · obtain ⟨b, l, size, rfl, ⟨ns, i, p, q, hb, hl, i0, p0, nlb, n63⟩, s0, s1, k⟩ := h
    refine ⟨_, C8.pss_cut (ps_if (PW.pt (pw_and (pt_cmpR op_eq (pe_ix ix_list (pv 0) pe_int (fun _ _ => rfl)) pe_int (nomark _))
          (pw_and1 (pt_cmpR op_lt (pe_ix ix_list (pv 0) pe_int (fun _ _ => rfl)) (pe_callB call_len_seq (by rfl) mlen PySem.boot_len (pa_cons (pe_ix ix_list (pv 0) pe_int (fun _ _ => rfl)) pa_nil)) (nomark _)))))
        (pss_cons (ps_set (i := 2) scTake.nd rfl (.inl rfl) (pe_ix ix_list (pe_ix ix_list (pv 0) pe_int (fun _ _ => rfl)) (pe_ix ix_list (pv 0) pe_int (fun _ _ => rfl)) (fun _ _ => rfl)))
        (pss_cons (ps_asg (pe_op op_add (pe_ix ix_list (pv 0) pe_int (fun _ _ => rfl)) pe_int) (pg_sub (pv 0) pe_int set_list))
        (pss_one (ps_if (pt_cmpR op_ge (pv 2) (pe_op op_pow pe_int pe_int) (nomark _))
          (pss_one (ps_asg (pv 2) (pg_sub (pv 0) pe_int set_list)))
          (pss_one (ps_asg (pe_op op_mod (pe_callTy call_int1 (by rfl) mint (by decide +kernel) (pa_cons (pe_op op_add (pe_op op_add (pe_op op_mul (pe_ix ix_list (pv 0) pe_int (fun _ _ => rfl)) pe_int) (pe_op op_mul (pv 2) pe_int)) pe_int) pa_nil)) pe_int) (pg_sub (pv 0) pe_int set_list)))))))
        pss_nil)
      (pss_cons (ps_if (pt_cmpR op_gt (pe_ix ix_list (pv 0) pe_int (fun _ _ => rfl)) pe_int (nomark _))
        (pss_cons (ps_set (i := 3) scTake.nd rfl (.inl rfl) (pe_op op_mod (pe_callTy call_int1 (by rfl) mint (by decide +kernel) (pa_cons (pe_ix ix_list (pv 0) pe_int (fun _ _ => rfl)) pa_nil)) (pv 1)))
        (pss_cons (ps_asg (pe_op op_fdiv (pe_ix ix_list (pv 0) pe_int (fun _ _ => rfl)) (pv 1)) (pg_sub (pv 0) pe_int set_list))
        (pss_one (ps_ret (pv 3)))))
        pss_nil)
      (pss_cons (ps_asg (pe_op op_mod (pe_callTy call_int1 (by rfl) mint (by decide +kernel) (pa_cons (pe_op op_add (pe_op op_mul (pe_ix ix_list (pv 0) pe_int (fun _ _ => rfl)) pe_int) pe_int) pa_nil)) pe_int) (pg_sub (pv 0) pe_int set_list))
      (pss_one (ps_ret (pe_op op_mod (pe_callTy call_int1 (by rfl) mint (by decide +kernel) (pa_cons (pe_op op_fdiv (pe_ix ix_list (pv 0) pe_int (fun _ _ => rfl)) pe_int) pa_nil)) (pv 1)))))), ?_⟩
    have seven : ∀ q' : Int, (0 : Int) < 2147483647 := fun _ => by decide
    refine ⟨fun σ H1 => ∃ (c : Option V) (i' p' q' : Int), σ = [some (.ref b), some (.int size), c, Option.none] ∧ But b H H1 ∧ H1 b = some (.lst [.ref l, .int i', .int p', .int q']) ∧ 0 ≤ i' ∧ 0 ≤ p', ?_, ?_⟩
    · -- if bag[2] == 0 and bag[1] < len(bag[0])
      refine ⟨_, rfl, b, _, 2, _, rfl, rfl, SqL.of hb, rfl, rfl, _, rfl, ite2 (fun _ => ?_) (fun _ => ⟨_, i, p, q, rfl, But.refl b H, hb, i0, p0⟩)⟩
      refine ⟨_, rfl, b, _, 1, _, rfl, rfl, SqL.of hb, rfl, _, rfl, b, _, 0, _, rfl, rfl, SqL.of hb, rfl, l, _, rfl, .inl (SqL.of hl), _, _, rfl, rfl, _, rfl, ite2 (fun e => ?_) (fun _ => ⟨_, i, p, q, rfl, But.refl b H, hb, i0, p0⟩)⟩
      have elt : i < ((ns.map V.int).length : Int) := of_decide_eq_true e
      rw [List.length_map] at elt
      obtain ⟨j, rfl⟩ : ∃ j : Nat, i = (j : Int) := ⟨i.toNat, by omega⟩
      have hj : j < ns.length := by omega
      have gj : (ns.map V.int)[j]? = some (.int ns[j]) := by
        rw [List.getElem?_map, List.getElem?_eq_getElem hj]
        rfl
      -- cell = bag[0][bag[1]]
      refine ⟨_, rfl, b, _, 0, _, rfl, rfl, SqL.of hb, rfl, _, rfl, b, _, 1, _, rfl, rfl, SqL.of hb, rfl, l, _, (j : Int), _, rfl, rfl, SqL.of hl, atI_nat gj, ?_⟩
      -- bag[1] = bag[1] + 1
      refine ⟨_, rfl, b, _, 1, _, rfl, rfl, SqL.of hb, rfl, _, _, rfl, rfl, _, rfl, b, _, 1, 1, rfl, rfl, hb, rfl, ?_⟩
      have hb1 : (upd H b (.lst [.ref l, .int ((j : Int) + 1), .int p, .int q])) b = some (.lst [.ref l, .int ((j : Int) + 1), .int p, .int q]) := upd_same
      have bu : But b H (upd H b (.lst [.ref l, .int ((j : Int) + 1), .int p, .int q])) := But.upd
      refine ⟨_, rfl, _, _, rfl, rfl, ⟨by decide, by decide, by decide⟩, _, _, rfl, rfl, _, rfl, ite2 (fun e2 => ?_) (fun _ => ?_)⟩
      · have big : (10 : Int) ^ (18 : Int).toNat ≤ ns[j] := of_decide_eq_true e2
        have pos : (0 : Int) ≤ (10 : Int) ^ (18 : Int).toNat := by decide
        refine ⟨_, rfl, _, rfl, b, _, 2, 2, rfl, rfl, hb1, rfl, ?_⟩
        exact ⟨_, (j : Int) + 1, ns[j], q, rfl, bu.trans But.upd, upd_same, by omega, by omega⟩
      · refine ⟨_, rfl, b, _, 3, _, rfl, rfl, SqL.of hb1, rfl, _, _, rfl, rfl, .inr ⟨by decide, by decide⟩, _, rfl, _, _, rfl, rfl, .inr ⟨by decide, by decide⟩, _, _, rfl, rfl, _, _, rfl, rfl, .inl ⟨_, rfl, _, _, rfl, rfl, seven 0, _, rfl, b, _, 3, 3, rfl, rfl, hb1, rfl, ?_⟩⟩
        exact ⟨_, (j : Int) + 1, p, _, rfl, bu.trans But.upd, upd_same, by omega, p0⟩
    · rintro σ H1 ⟨c, i', p', q', rfl, bu, hb1, i1, p1⟩
      have hl1 : H1 l = some (.lst (ns.map V.int)) := (bu l nlb).trans hl
      refine ⟨_, rfl, b, _, 2, _, rfl, rfl, SqL.of hb1, rfl, _, _, rfl, rfl, _, rfl, ite2 (fun _ => ?_) (fun _ => ?_)⟩
      · -- digit = int(bag[2]) % size; bag[2] = bag[2] // size; return digit
        refine ⟨_, rfl, b, _, 2, _, rfl, rfl, SqL.of hb1, rfl, .inl ⟨_, rfl, _, rfl, _, _, rfl, rfl, s0, ?_⟩⟩
        refine ⟨_, rfl, b, _, 2, _, rfl, rfl, SqL.of hb1, rfl, _, rfl, _, _, rfl, rfl, ⟨s0, s1⟩, _, rfl, b, _, 2, 2, rfl, rfl, hb1, rfl, _, rfl, ?_⟩
        refine k _ _ (Int.emod_nonneg _ (by omega)) (Int.emod_lt_of_pos _ s0) (bu.trans But.upd) ⟨ns, i', p' / size, q', upd_same, ?_, i1, Int.ediv_nonneg p1 (by omega), nlb, n63⟩
        rw [upd_ne nlb]
        exact hl1
      · refine ⟨_, rfl, b, _, 3, _, rfl, rfl, SqL.of hb1, rfl, _, _, rfl, rfl, .inr ⟨by decide, by decide⟩, _, _, rfl, rfl, .inl ⟨_, rfl, _, _, rfl, rfl, seven 0, _, rfl, b, _, 3, 3, rfl, rfl, hb1, rfl, ?_⟩⟩
        have hb2 : (upd H1 b (.lst [.ref l, .int i', .int p', .int ((q' * 48271 + 11) % 2147483647)])) b = some (.lst [.ref l, .int i', .int p', .int ((q' * 48271 + 11) % 2147483647)]) := upd_same
        refine ⟨_, rfl, b, _, 3, _, rfl, rfl, SqL.of hb2, rfl, _, _, rfl, rfl, ⟨by decide, by decide⟩, .inl ⟨_, rfl, _, rfl, _, _, rfl, rfl, s0, ?_⟩⟩
        refine k _ _ (Int.emod_nonneg _ (by omega)) (Int.emod_lt_of_pos _ s0) (bu.trans But.upd) ⟨ns, i', p', _, upd_same, ?_, i1, p1, nlb, n63⟩
        rw [upd_ne nlb]
        exact hl1
end
end Sm
namespace SmL
open PySem PySem.Spec PyProof.Rows L2 PpSet
/-! ### sets of pairs -/
section
variable {X : Cx} {pins : List (Addr × Obj)} {σ : L2.St} {H : Hp} {s : Shared}
/-- D.add(t), t a tuple of ints -/
theorem put_tup {E : Value → Shared → Prop} {D t : Addr} {k : List Int} {L : List (Addr × List Int)} {Q : Value → Shared → Prop} (J : Inv X pins σ H s) (hD : H D = some (SetTO X.prog X.w D L))
    (hL : ∀ p ∈ L, SqT X.K H p.1 (p.2.map V.int)) (ht : SqT X.K H t (k.map V.int)) (few : L.length + 1 < 64) (hu : X.A.units + 1 < cLine)
    (go : ∀ L' s', (k ∈ L.map (·.2) → L' = L) → (k ∉ L.map (·.2) → L'.Perm ((t, k) :: L)) → Inv X pins σ (upd H D (SetTO X.prog X.w D L')) s' → Q .none s') :
    wpAny (model X.prog X.w) X.A (call (.builtin "set.add") [.ref D, .ref t]) Q E s := by
  have R0 : SetT0 X.prog X.w s.heap D L := (J.hok D _ hD).1
  obtain ⟨es, ep, tb, R⟩ := R0.full fun p hp => J.isT (hL p hp)
  have hk : L2.IsT X.prog X.w s.heap k t := J.isT ht
  have hT : s.TypeIs (.ref D) "set" := by
    obtain ⟨o, ho, hx, _⟩ := R.ob
    exact ⟨o, ho, hx.1⟩
  refine wpAny_call_entry F.slot_set_add hT F.entry_set_add ?_ (F.args_set_add_2 _ _)
  unfold Builtin.«set.add» Builtin.Frozenset.oneOther
  simp only [bind_assoc, List.isEmpty_nil]
  unfold setAdd Builtin.Frozenset.addrOf
  refine wpAny_bind (wpAny_pure ?_)
  try dsimp only
  refine wpAny_bind (wpAny_pure ?_)
  try dsimp only
  refine wpAny_bind (wpAny_holding (wpAny_bind (wpAny_pyHash_tuple hu hk ?_)))
  refine add_at (s := { s with toks := s.toks + (k.length + 1) }) R hk hu few fun b h' L' es' ep' t' sb R2 c1 c2 => ?_
  show wpAny _ _ (ret Value.none) _ _ _
  have there : ∃ u, h'.get? D = some u := by
    obtain ⟨o, ho, _⟩ := R2.ob
    exact ⟨o, ho⟩
  exact wpAny_pure ⟨_, rfl, go L' _ c1 c2 (J.write (e := D) (t' := s.toks + (k.length + 1)) (by rw [hD]; trivial) (.inl rfl) (fun b u hb q => (sb.2 b hb).trans q) there (setTO_new R2.t0))⟩
/-- {elt for target in iter}, elt a tuple of ints: D the new set; L its members, each with its address -/
def tSct (P : Program) (w : World) (K : PySem.W.Frag) (walk : TI) (g : TG) (tt : TT) (te : TE) (vs : List Nat) : TE := fun σ H Q => walk σ H fun J H1 => ∀ D, H1 D = none →
  ∃ W : Nat → Nat → Hp → Prop, (∃ m, W 0 m (upd H1 D (SetTO P w D []))) ∧ ∀ i m G, W i m G →
    (J.stop i G ∧ Q (.ref D) G) ∨ (J.go i G ∧ ∃ Nx : Hp → Prop, (∀ G', Nx G' → ∃ m', m' < m ∧ W (i + 1) m' G') ∧
      ∀ x G1, J.yld i G x G1 → g x (wipe σ vs) G1 fun σ2 G2 => wipe σ2 vs = wipe σ vs ∧ tt σ2 G2 fun b G3 => if b = true then te σ2 G3 fun y G4 =>
        ∃ (t : Addr) (k : List Int) (L : List (Addr × List Int)), y = .ref t ∧ SqT K G4 t (k.map V.int) ∧ G4 D = some (SetTO P w D L) ∧ (∀ p ∈ L, SqT K G4 p.1 (p.2.map V.int)) ∧ L.length + 1 < 64 ∧
          ∀ L', (k ∈ L.map (·.2) → L' = L) → (k ∉ L.map (·.2) → L'.Perm ((t, k) :: L)) → Nx (upd G4 D (SetTO P w D L')) else Nx G3)
/-- the set that a comprehension begins with -/
abbrev noSet (w : World) : Obj := { cls := .type "set", dict := none, data := .set #[] 0 (.fresh 0 0 (!w.params.followText "set-order")) }
theorem pe_sct {elt tg iter : Expr} {ifs : List Expr} {scope : Scope} {own : List (PySem.Str × Nat)} {pos : Pos} {walk : TI} {g : TG} {tt : TT} {te : TE} (calm : X.calm = true) (hu : X.A.units + 1 < cLine) (nd : X.N.Nodup) (hi : PI X tg iter walk)
    (ok : BlkOk X.N X.env.scope scope own)
    (hg : ∀ (s0 : Shared) (H0 : Hp) (C : Addr) (cl : List (PySem.Str × Addr)) (fp : List Addr), PG (X.blk s0 H0 scope (compEnvC scope cl C X.env) fp) tg g)
    (ht : ∀ (s0 : Shared) (H0 : Hp) (C : Addr) (cl : List (PySem.Str × Addr)) (fp : List Addr), PTs (X.blk s0 H0 scope (compEnvC scope cl C X.env) fp) ifs tt)
    (he : ∀ (s0 : Shared) (H0 : Hp) (C : Addr) (cl : List (PySem.Str × Addr)) (fp : List Addr), PE (X.blk s0 H0 scope (compEnvC scope cl C X.env) fp) elt te)
    (plain : ∀ x, foldedSetIterable iter X.env x = pure x := by intro _; rfl) :
    PE X (.SetComp elt [⟨tg, iter, ifs, 0⟩] scope pos) (tSct X.prog X.w X.K walk g tt te (own.map (·.2))) := by
  refine ⟨fun pins s σ H Q J0 h => ?_⟩
  rw [eval_SetComp]
  have frees : ∀ y ∈ scope.names, y.2 = .free → ∃ c, X.env.cells.lookup y.1 = some c := fun y hy e => (ok.free y hy e).elim (fun z => J0.ok.has _ (.inl z)) fun z => J0.ok.has _ (.inr z)
  refine wpAny_comprehension_free rfl plain (closure_ok frees) ok.kind (fun y hy e => by rw [ok.uniq y hy, e]) (thn (hi.run pins s σ H _ J0 h) fun xv sa hx => thn hx fun itv sb h2 => ?_)
  obtain ⟨it, fp, tn, J, Ha, e, Ia, T, sta, fa, q⟩ := h2
  subst e
  refine newSet_ok (newEnv_comp ?_)
  generalize eD : sb.heap.objs.size = D
  obtain ⟨W, ⟨m0, w0⟩, turn⟩ := q D (Ia.hok.fresh (Nat.le_of_eq eD))
  generalize es1 : ({ sb with heap := sb.heap.push (noSet X.w) } : Shared) = s1
  have hp1 : s1.heap = sb.heap.push (noSet X.w) := by rw [← es1]
  have I1 : L2.Inv X pins σ (upd Ha D (SetTO X.prog X.w D [])) s1 := by
    rw [← es1]
    refine Ia.laid (t' := sb.toks) (fun b o z => Heap.get?_push_of_some _ z) (Nat.le_of_eq eD) (setTO_new (SetTR.t0 (es := #[]) (ep := 0) (setTR_fresh ?_)))
    rw [← eD]
    exact Heap.get?_push_size _ rfl
  have fpOk : ∀ b ∈ fp, FpOk X pins (upd Ha D (SetTO X.prog X.w D [])) b ∧ b < s1.heap.objs.size := fun b hb => by
    obtain ⟨o, z, _⟩ := T.obj _ _ sta b hb
    have lt := Heap.lt_size z
    refine ⟨⟨?_, (fa b hb).2⟩, by rw [hp1, Heap.size_push]; exact Nat.lt_succ_of_lt lt⟩
    rw [upd_ne (by rw [← eD]; exact Nat.ne_of_lt lt)]
    exact (fa b hb).1
  have st1 : tn 0 s1.heap := T.keep _ _ _ sta fun b _ o z => by
    rw [hp1]
    exact Heap.get?_push_of_some _ z
  have I2 := block_start I1 ok nd fpOk
  have rg := hg s1 (upd Ha D (SetTO X.prog X.w D [])) s1.heap.objs.size (cellsFrom (s1.heap.objs.size + 1) scope.names (cloFrom X.env.cells scope.names [])) fp
  have rt := ht s1 (upd Ha D (SetTO X.prog X.w D [])) s1.heap.objs.size (cellsFrom (s1.heap.objs.size + 1) scope.names (cloFrom X.env.cells scope.names [])) fp
  have re := he s1 (upd Ha D (SetTO X.prog X.w D [])) s1.heap.objs.size (cellsFrom (s1.heap.objs.size + 1) scope.names (cloFrom X.env.cells scope.names [])) fp
  show codeAny _ _ (.compStart (.SetComp elt [⟨tg, iter, ifs, 0⟩] scope pos) 0 (.ref it) (.ref D) (compEnvC scope (cellsFrom (s1.heap.objs.size + 1) scope.names (cloFrom X.env.cells scope.names [])) s1.heap.objs.size X.env))
    (compPost (model X.prog X.w) X.A X.xe none (EP X pins σ Q) (.ref D) s1.heap.objs.size) { s1 with heap := pushCells (s1.heap.push { cls := .type "dict", data := .dict #[] }) scope.names }
  have nofp : ∀ b ∈ fp, (upd Ha D (SetTO X.prog X.w D [])) b = none := fun b hb => (fpOk b hb).1.1
  generalize ece : compEnvC scope (cellsFrom (s1.heap.objs.size + 1) scope.names (cloFrom X.env.cells scope.names [])) s1.heap.objs.size X.env = ce at I2 rg rt re ⊢
  have cL : ce.locals = s1.heap.objs.size := by subst ece; rfl
  generalize eHb : upd Ha D (SetTO X.prog X.w D []) = Hb at I1 I2 rg rt re w0 nofp fpOk
  generalize es2 : ({ s1 with heap := pushCells (s1.heap.push { cls := .type "dict", data := .dict #[] }) scope.names } : Shared) = s2 at I2 ⊢
  have st2 : tn 0 s2.heap := T.keep _ _ _ st1 fun b _ o z => by
    rw [← es2]
    exact pushCells_keeps _ _ _ _ (Heap.get?_push_of_some _ z)
  have fpB : ∀ {σ' : L2.St} {H' : Hp} {s' : Shared}, L2.Inv (X.blk s1 Hb scope ce fp) [] σ' H' s' → (∀ b ∈ fp, H' b = none) → ∀ b ∈ fp, FpOk (X.blk s1 Hb scope ce fp) [] H' b := fun {σ' H' s'} I' hn b hb =>
    ⟨hn b hb, (I'.ok.exf b hb).1, I'.ok.exfs b hb, .inl hb, fun x c z => (I'.ok.exf b hb).2 x c z, fun p hp => absurd (show p ∈ ([] : List (Addr × Obj)) ++ [] from hp) (by simp)⟩
  have loop : codeAny (model X.prog X.w) X.A (.compLoop (.SetComp elt [⟨tg, iter, ifs, 0⟩] scope pos) 0 (.ref it) (.ref D) ce) (compPost (model X.prog X.w) X.A X.xe none (EP X pins σ Q) (.ref D) s1.heap.objs.size) s2 := by
    refine compLoopS_any (fun n z => ∃ i G, L2.Inv (X.blk s1 Hb scope ce fp) [] (wipe σ (own.map (·.2))) G z ∧ tn i z.heap ∧ (∀ b ∈ fp, G b = none) ∧ W i n G) ?_ m0 ⟨0, Hb, I2, st2, nofp, w0⟩
    rintro n s3 ⟨i, G, I3, st3, n3, w3⟩
    rcases turn i n G w3 with ⟨stop, qq⟩ | ⟨go, Nx, hNx, step⟩
    · refine thnF (T.done (X.blk s1 Hb scope ce fp) rfl rfl rfl calm i [] s3 _ G (fun _ _ => False) I3 (fpB I3 n3) st3 stop) fun r s4 ⟨hr, I4⟩ => ?_
      subst hr
      have I5 : L2.Inv X pins σ G s4 := I1.call' (ch := fp) I4.os I4.base I4.hok I4.bare fun b hb => ⟨(fpOk b hb).1.2.2.2.1, (fpOk b hb).1.2.1, (fpOk b hb).1.2.2.2.2.1, (fpOk b hb).1.2.2.2.2.2⟩
      have nC : G s1.heap.objs.size = none := by
        have z : G ce.locals = none := I4.free
        rw [cL] at z
        exact z
      obtain ⟨mm, hn, _⟩ := I4.loc
      have hn' : s4.heap.Ns ce.locals mm := hn
      rw [cL] at hn'
      refine ⟨mm, hn', fun h'' sbt => ?_⟩
      obtain ⟨f0, f1, f2, f3, f4, f5⟩ := I1.fpOk (Nat.le_refl _) nC
      exact ⟨.ref D, G, I5.turned (t' := s4.toks) (fun b o hb z => (sbt.2 b hb).trans z) f0 f1 f3 f4 f5, rfl, qq⟩
    · refine thnF (T.item (X.blk s1 Hb scope ce fp) rfl rfl rfl calm i [] s3 _ G (fun _ _ => False) I3 (fpB I3 n3) st3 go) fun r s4 ⟨u, hr, h4⟩ => ?_
      subst hr
      refine thnF h4 fun _ s5 ⟨x, G1, I5, r5, y5, st5, n5⟩ => ?_
      refine thnF (rg.run _ s5 _ G1 x u _ (I5.pinned (fpB I5 n5) (T.obj _ _ st5)) r5 (step x G1 y5)) fun _ s6 ⟨σ6, G2, I6, hw, q6⟩ => ?_
      refine thnF (rt.run _ s6 σ6 G2 _ I6 q6) fun b s7 ⟨G3, I7, q7⟩ => ?_
      have fin : ∀ {s' : Shared} {G' : Hp}, L2.Inv (X.blk s1 Hb scope ce fp) ([] ++ pinsAt fp s5.heap) σ6 G' s' → Nx G' → ∃ m, m < n ∧ ∃ i G, L2.Inv (X.blk s1 Hb scope ce fp) [] (wipe σ (own.map (·.2))) G s' ∧ tn i s'.heap ∧ (∀ b ∈ fp, G b = none) ∧ W i m G := fun {s' G'} I' nx => by
        obtain ⟨m', hm, w'⟩ := hNx G' nx
        have pn : ∀ b ∈ fp, ∀ o, s5.heap.get? b = some o → s'.heap.get? b = some o ∧ G' b = none := fun b hb o z =>
          let y := I'.pin (b, o) (List.mem_append_right _ (List.mem_append_right _ (mem_pinsAt hb z)))
          ⟨y.1, y.2.1⟩
        refine ⟨m', hm, i + 1, G', (I'.unpinned (pins := [])).weak (by rw [← hw, wipe_length]) (fun j v z => ?_), T.keep _ _ _ st5 fun b hb o z => (pn b hb o z).1, fun b hb => ?_, w'⟩
        · rw [← hw] at z
          exact (wipe_some z).1
        · obtain ⟨o, z, _⟩ := T.obj _ _ st5 b hb
          exact (pn b hb o z).2
      cases b with
      | false =>
        simp only [if_false, Bool.false_eq_true] at q7 ⊢
        exact fin I7 q7
      | true =>
        simp only [if_true] at q7 ⊢
        refine thnF (re.run _ s7 σ6 G3 _ I7 q7) fun z s8 ⟨yv, G4, I8, r8, t, k, L, ey, htk, hD, hL, few, nx⟩ => ?_
        subst ey
        cases (show z = Value.ref t from r8)
        exact put_tup (X := X.blk s1 Hb scope ce fp) I8 hD hL htk few hu fun L' s9 c1 c2 I9 => fin I9 (nx L' c1 c2)
  exact codeAny_compStart_set loop (T.self X.A 0 _ _ _ st2 loop)
end
end SmL
namespace SmL
open PySem PySem.Spec PyProof.Rows L2 PpSet SrtO
/-! ### sorted of a set of pairs -/
def pr (l : List Int) : Int × Int := (l.getD 0 0, l.getD 1 0)
section
variable {P : Program} {w : World} {A : Around} {E : Value → Shared → Prop} {s : Shared}
theorem pair_of {h : Heap} {b : Addr} {k : List Int} (x : L2.IsT P w h k b) (hl : k.length = 2) : Srt.IsPair h (.ref b) (pr k).1 (pr k).2 := by
  obtain ⟨a, xs, e, ⟨o, ho, hc, n, hd⟩, i⟩ := tupInts_of x
  injection e with e
  subst e
  obtain ⟨u, v, rfl⟩ : ∃ u v, k = [u, v] := match k, hl with | [u, v], _ => ⟨u, v, rfl⟩
  generalize exs : xs.toList = l at i
  cases i with
  | cons _ t1 i =>
    cases i with
    | cons _ t2 i =>
      cases i
      have ex : xs = #[Value.int u t1, Value.int v t2] := by
        rw [← Array.toArray_toList (xs := xs), exs]
      subst ex
      exact ⟨_, o, _, _, n, rfl, ho, hc, hd⟩
variable {a : Addr} {L : List (Addr × List Int)} {es : Array (Int × Value)} {ep : Nat} {t : SetTable}
theorem sorted_setP {Q : Value → Shared → Prop} (R : SetTR P w s.heap a L es ep t) (hh : A.handled = none) (two : ∀ p ∈ L, p.2.length = 2)
    (go : ∀ s' p (out : Array Value) (c : Nat) (M : List (Addr × List Int)), (∀ b o, s.heap.get? b = some o → s'.heap.get? b = some o) → s'.gens = s.gens → s'.os = s.os → s.heap.objs.size ≤ p → s'.heap.get? p = some (seqObj "list" out c) →
      out.toList = M.map (fun q => Value.ref q.1) → M.Perm L → M.Pairwise (fun q r => lexB (pr r.2) (pr q.2) = false) → Q (.ref p) s') :
    wpAny (model P w) A (call (.builtin "sorted") [.ref a]) Q E s := by
  obtain ⟨o, ho, hex, hd⟩ := R.ob
  have few := R.few
  have sz := R.size
  refine Calls.call_function_entry kind_sorted plain_sorted entry_sorted (args_sorted1 _) ?_
  unfold Builtin.«sorted»
  refine wpAny_bind (m := checkCount "sorted" 1 1 _) (wpAny_pure (wpAny_bind ?_))
  refine collect_set (A := A.in1) hh ⟨o, ho, hex.1, hd⟩ R.fits (by unfold scanBound; omega) R.tab.ris R.led fun s1 vs k1 hz g1 o1 pm => ?_
  have rows : es.toList.map (·.2) = L.map fun q => Value.ref q.1 := by
    rw [R.rows, rowsOf, List.map_map] <;> rfl
  rw [rows] at pm
  have lv : vs.length < 64 := by
    rw [pm.length_eq, List.length_map]
    exact few
  refine wpAny_bind (wpAny_newList ?_ (by rw [sizeLine_eq]; omega))
  have hoL : (s1.heap.push (seqObj "list" vs.toArray 0)).get? s1.heap.objs.size = some (seqObj "list" vs.toArray 0) := Heap.get?_push_size _ rfl
  have tk : ∀ q ∈ L, L2.IsT P w (s1.heap.push (seqObj "list" vs.toArray 0)) q.2 q.1 := fun q hq => isT_keep (R.tup q hq) fun b u e => Heap.get?_push_of_some _ (k1 b u e)
  generalize eh : s1.heap.push (seqObj "list" vs.toArray 0) = h1 at hoL tk
  have fromL : ∀ v ∈ vs, ∃ q ∈ L, v = Value.ref q.1 := fun v hv => by
    obtain ⟨q, hq, e⟩ := List.mem_map.mp (pm.mem_iff.mp hv)
    exact ⟨q, hq, e.symm⟩
  have isP : ∀ v ∈ vs, Srt.IsPair h1 v (pr (TS.intsOf h1 v)).1 (pr (TS.intsOf h1 v)).2 := fun v hv => by
    obtain ⟨q, hq, e⟩ := fromL v hv
    rw [e, (tupInts_of (tk q hq)).ints]
    exact pair_of (tk q hq) (two q hq)
  refine wpAny_bind (wpAny_holding (wpAny_call_entry slot_list_sort ⟨_, hoL, rfl⟩ entry_list_sort (list_sort_ord (s := { s1 with heap := h1 }) (swo_lex fun v => pr (TS.intsOf h1 v)) hoL (by rw [sizeLine_eq]; omega)
    (fun h2 => pairs_sortableO (by omega) isP fun o e => ?_) fun out hs hb => ⟨_, rfl, ?_⟩) (args_list_sort _)))
  · have e' : some o = some (seqObj "list" vs.toArray 0) := e.symm.trans hoL
    cases e'
    intro c
    exact absurd (Value.type.inj c) (by decide)
  · -- the rows behind the values
    have pick : ∀ us : List Value, (∀ v ∈ us, ∃ q ∈ L, v = Value.ref q.1) → ∃ M : List (Addr × List Int), us = M.map (fun q => Value.ref q.1) ∧ ∀ q ∈ M, q ∈ L := by
      intro us
      induction us with
      | nil => exact fun _ => ⟨[], rfl, fun q hq => nomatch hq⟩
      | cons v us ih =>
        intro hv
        obtain ⟨q, hq, e⟩ := hv v List.mem_cons_self
        obtain ⟨M, e1, hM⟩ := ih fun u hu => hv u (List.mem_cons_of_mem _ hu)
        exact ⟨q :: M, by rw [e, e1, List.map_cons], fun r hr => (List.mem_cons.mp hr).elim (fun z => z ▸ hq) (hM r)⟩
    have same : ∀ q ∈ L, ∀ r ∈ L, q.1 = r.1 → q = r := fun q hq r hr e => by
      have a1 := R.tup q hq
      rw [e] at a1
      exact Prod.ext e (a1.inj (R.tup r hr))
    obtain ⟨M, eM, hM⟩ := pick out fun v hv => fromL v (hb.perm.mem_iff.mp hv)
    have pmM : (M.map fun q => Value.ref q.1).Perm (L.map fun q => Value.ref q.1) := by
      rw [← eM]
      exact hb.perm.trans pm
    have nL : L.Nodup := nodup_of_map R.nd
    have nR : (L.map fun q => Value.ref q.1).Nodup := List.pairwise_map.mpr (List.Pairwise.imp_of_mem (fun {q r} hq hr hne e => by
      injection e with e
      exact hne (same q hq r hr e)) nL)
    have nM : M.Nodup := nodup_of_map (pmM.nodup_iff.mpr nR)
    have pL : M.Perm L := (List.perm_ext_iff_of_nodup nM nL).mpr fun q => ⟨hM q, fun hq => by
      obtain ⟨r, hr, e⟩ := List.mem_map.mp (pmM.mem_iff.mpr (List.mem_map.mpr ⟨q, hq, rfl⟩))
      injection e with e
      rw [← same r (hM r hr) q hq e]
      exact hr⟩
    have pw : M.Pairwise (fun q r => lexB (pr r.2) (pr q.2) = false) := by
      have z : List.Pairwise (fun x y => lexB (pr (TS.intsOf h1 y)) (pr (TS.intsOf h1 x)) = false) out := hs
      rw [eM] at z
      refine List.Pairwise.imp_of_mem (fun {q r} hq hr c => ?_) (List.pairwise_map.mp z)
      rw [(tupInts_of (tk q (hM q hq))).ints, (tupInts_of (tk r (hM r hr))).ints] at c
      exact c
    obtain ⟨c, hc⟩ := sortedHeap_at (vs := vs) (out := out.toArray) hoL
    refine wpAny_pure ⟨_, rfl, go _ s1.heap.objs.size out.toArray c M (fun b u e => ?_) g1 o1 hz hc (by rw [List.toList_toArray]; exact eM) pL pw⟩
    have q := k1 b u e
    have lt := Heap.lt_size q
    show (sortedHeap h1 s1.heap.objs.size vs out.toArray).get? b = some u
    have sz1 : h1.objs.size = s1.heap.objs.size + 1 := by rw [← eh, size_push']
    rw [sortedHeap_old (Nat.ne_of_lt lt) (by rw [sz1]; exact Nat.lt_succ_of_lt lt), ← eh]
    exact Heap.get?_push_of_some _ q
end
/-- sorted(set) of pairs: a new list, ascending by the first int, then by the second -/
def rSortedSP (K : PySem.W.Frag) (P : Program) (w : World) : List V → Hp → VK → Prop := fun vs H Q => ∃ (a : Addr) (L : List (Addr × List Int)), vs = [V.ref a] ∧ H a = some (SetTO P w a L) ∧ (∀ p ∈ L, SqT K H p.1 (p.2.map V.int) ∧ p.2.length = 2) ∧
  ∀ (M : List (Addr × List Int)) (p : Addr), M.Perm L → (M.map (·.2)).Nodup → M.Pairwise (fun q r => lexB (pr r.2) (pr q.2) = false) → H p = none → Q (.ref p) (upd H p (.lst (M.map fun q => V.ref q.1)))
theorem cr_sortedSP {X : Cx} (calm : X.calm = true) : CallR X (.builtin "sorted") (rSortedSP X.K X.prog X.w) := by
  intro pins s σ H vs us Q I r h
  obtain ⟨a, L, rfl, ha, hk, q⟩ := h
  have R0 : SetT0 X.prog X.w s.heap a L := (I.hok a _ ha).1
  obtain ⟨es, ep, t, R⟩ := R0.full fun p hp => I.isT (hk p hp).1
  rw [Vals.ref1 r]
  refine sorted_setP R (I.ok.hd calm) (fun p hp => (hk p hp).2) fun s' p out c M kp g o hp hg hout pm pw => ?_
  have lM : (M.map fun q => V.ref q.1).length ≤ sizeLine := by
    have := R.few
    rw [List.length_map, sizeLine_eq, pm.length_eq]
    omega
  have hn : H p = none := I.hok.fresh hp
  have hv : Vals (M.map fun q => V.ref q.1) out.toList := by
    rw [hout]
    exact vals_of_refs M
  have J : L2.Inv X pins σ (upd H p (.lst (M.map fun q => V.ref q.1))) { s with heap := s'.heap, gens := s'.gens, drawn := s'.drawn, toks := s'.toks } :=
    I.call (ch := []) (Un.laid kp hp hn) (I.hok.laid kp hp ⟨lM, out.toList, c, hv, hg⟩) (by rw [g]; exact I.bare) (fun _ z => nomatch z)
  have e : s' = { s with heap := s'.heap, gens := s'.gens, drawn := s'.drawn, toks := s'.toks } := by
    cases s'
    cases s
    cases o
    rfl
  rw [e]
  exact ⟨.ref p, _, J, rfl, q M p pm ((pm.map (·.2)).nodup_iff.mpr R.nd) pw hn⟩
end SmL
namespace SmL
open PySem PySem.Spec PyProof.Rows L2 PpSet
/-! ### dict comprehensions whose keys are tuples -/
abbrev noDict : Obj := { cls := .type "dict", data := .dict #[] }
section
variable {X : Cx} {pins : List (Addr × Obj)} {σ : L2.St} {H : Hp} {s : Shared}
/-- D[t] = v by a comprehension, t a tuple -/
theorem put_dt {E : Value → Shared → Prop} {D t : Addr} {k : List L2.Key} {kvs : List (List L2.Key × V)} {v : V} {r : Value} {Q : Unit → Shared → Prop} (J : Inv X pins σ H s) (hD : H D = some (.dT kvs)) (ht : H t = some (.tup (k.map kV)))
    (few : kvs.length < sizeLine) (hu : X.A.units + 1 < cLine) (rv : RelV v r) (go : ∀ s', Inv X pins σ (upd H D (.dT (putK kvs k v))) s' → Q () s') :
    wpAny (model X.prog X.w) X.A (dictSet D (.ref t) r) Q E s := by
  obtain ⟨z, hd, xs, rel, dd⟩ := dt_of J.hok hD
  have lk : (putK kvs k v).length ≤ sizeLine := by
    have := length_putK kvs k v
    omega
  refine wpAny_dictSet_heap (hsz := by rw [← Paired.length rel]; exact z) (show X.A.units < cLine by omega) (key_of J.hok ht) dd fun h' dd' sb => go _ ?_
  obtain ⟨q, es, ep, hq, h2, h3, h4, _, h5⟩ := dd'
  refine d_write J (by rw [hD]; trivial) sb ⟨q, hq⟩ ⟨lk, hd, _, (rel.put k ht rv).keeps fun c ys ec => ?_, q, es, ep, hq, h2, h3, h4, h5⟩
  rw [upd_ne (ne_of ec hD (fun y => nomatch y))]
  exact ec
/-- {k: v for target in iter}, k a tuple: D the new dict -/
def tDct (walk : TI) (g : TG) (tt : TT) (tk te : TE) (vs : List Nat) : TE := fun σ H Q => walk σ H fun J H1 => ∀ D, H1 D = none →
  ∃ W : Nat → Nat → Hp → Prop, (∃ m, W 0 m (upd H1 D (.dT []))) ∧ ∀ i m G, W i m G →
    (J.stop i G ∧ Q (.ref D) G) ∨ (J.go i G ∧ ∃ Nx : Hp → Prop, (∀ G', Nx G' → ∃ m', m' < m ∧ W (i + 1) m' G') ∧
      ∀ x G1, J.yld i G x G1 → g x (wipe σ vs) G1 fun σ2 G2 => wipe σ2 vs = wipe σ vs ∧ tt σ2 G2 fun b G3 => if b = true then tk σ2 G3 fun y G4 => te σ2 G4 fun v G5 =>
        ∃ (t : Addr) (k : List L2.Key) (kvs : List (List L2.Key × V)), y = .ref t ∧ G5 t = some (.tup (k.map kV)) ∧ G5 D = some (.dT kvs) ∧ kvs.length < sizeLine ∧ Nx (upd G5 D (.dT (putK kvs k v))) else Nx G3)
theorem pe_dct {kx vx tg iter : Expr} {ifs : List Expr} {scope : Scope} {own : List (PySem.Str × Nat)} {pos : Pos} {walk : TI} {g : TG} {tt : TT} {tk te : TE} (calm : X.calm = true) (hu : X.A.units + 1 < cLine) (nd : X.N.Nodup) (hi : PI X tg iter walk)
    (ok : BlkOk X.N X.env.scope scope own)
    (hg : ∀ (s0 : Shared) (H0 : Hp) (C : Addr) (cl : List (PySem.Str × Addr)) (fp : List Addr), PG (X.blk s0 H0 scope (compEnvC scope cl C X.env) fp) tg g)
    (ht : ∀ (s0 : Shared) (H0 : Hp) (C : Addr) (cl : List (PySem.Str × Addr)) (fp : List Addr), PTs (X.blk s0 H0 scope (compEnvC scope cl C X.env) fp) ifs tt)
    (hk : ∀ (s0 : Shared) (H0 : Hp) (C : Addr) (cl : List (PySem.Str × Addr)) (fp : List Addr), PE (X.blk s0 H0 scope (compEnvC scope cl C X.env) fp) kx tk)
    (he : ∀ (s0 : Shared) (H0 : Hp) (C : Addr) (cl : List (PySem.Str × Addr)) (fp : List Addr), PE (X.blk s0 H0 scope (compEnvC scope cl C X.env) fp) vx te)
    (plain : ∀ x, foldedSetIterable iter X.env x = pure x := by intro _; rfl) :
    PE X (.DictComp kx vx [⟨tg, iter, ifs, 0⟩] scope pos) (tDct walk g tt tk te (own.map (·.2))) := by
  refine ⟨fun pins s σ H Q J0 h => ?_⟩
  rw [arm_eval_DictComp]
  have frees : ∀ y ∈ scope.names, y.2 = .free → ∃ c, X.env.cells.lookup y.1 = some c := fun y hy e => (ok.free y hy e).elim (fun z => J0.ok.has _ (.inl z)) fun z => J0.ok.has _ (.inr z)
  refine wpAny_comprehension_free rfl plain (closure_ok frees) ok.kind (fun y hy e => by rw [ok.uniq y hy, e]) (thn (hi.run pins s σ H _ J0 h) fun xv sa hx => thn hx fun itv sb h2 => ?_)
  obtain ⟨it, fp, tn, J, Ha, e, Ia, T, sta, fa, q⟩ := h2
  subst e
  refine wpAny_newObj_type (newEnv_comp ?_)
  generalize eD : sb.heap.objs.size = D
  obtain ⟨W, ⟨m0, w0⟩, turn⟩ := q D (Ia.hok.fresh (Nat.le_of_eq eD))
  generalize es1 : ({ sb with heap := sb.heap.push (noDict) } : Shared) = s1
  have hp1 : s1.heap = sb.heap.push (noDict) := by rw [← es1]
  have I1 : L2.Inv X pins σ (upd Ha D (.dT [])) s1 := by
    rw [← es1]
    refine Ia.laid (t' := sb.toks) (fun b o z => Heap.get?_push_of_some _ z) (Nat.le_of_eq eD) ?_
    rw [← eD]
    exact dt_empty sb.heap Ia.big
  have fpOk : ∀ b ∈ fp, FpOk X pins (upd Ha D (.dT [])) b ∧ b < s1.heap.objs.size := fun b hb => by
    obtain ⟨o, z, _⟩ := T.obj _ _ sta b hb
    have lt := Heap.lt_size z
    refine ⟨⟨?_, (fa b hb).2⟩, by rw [hp1, Heap.size_push]; exact Nat.lt_succ_of_lt lt⟩
    rw [upd_ne (by rw [← eD]; exact Nat.ne_of_lt lt)]
    exact (fa b hb).1
  have st1 : tn 0 s1.heap := T.keep _ _ _ sta fun b _ o z => by
    rw [hp1]
    exact Heap.get?_push_of_some _ z
  have I2 := block_start I1 ok nd fpOk
  have rg := hg s1 (upd Ha D (.dT [])) s1.heap.objs.size (cellsFrom (s1.heap.objs.size + 1) scope.names (cloFrom X.env.cells scope.names [])) fp
  have rt := ht s1 (upd Ha D (.dT [])) s1.heap.objs.size (cellsFrom (s1.heap.objs.size + 1) scope.names (cloFrom X.env.cells scope.names [])) fp
  have rk := hk s1 (upd Ha D (.dT [])) s1.heap.objs.size (cellsFrom (s1.heap.objs.size + 1) scope.names (cloFrom X.env.cells scope.names [])) fp
  have re := he s1 (upd Ha D (.dT [])) s1.heap.objs.size (cellsFrom (s1.heap.objs.size + 1) scope.names (cloFrom X.env.cells scope.names [])) fp
  show codeAny _ _ (.compStart (.DictComp kx vx [⟨tg, iter, ifs, 0⟩] scope pos) 0 (.ref it) (.ref D) (compEnvC scope (cellsFrom (s1.heap.objs.size + 1) scope.names (cloFrom X.env.cells scope.names [])) s1.heap.objs.size X.env))
    (compPost (model X.prog X.w) X.A X.xe none (EP X pins σ Q) (.ref D) s1.heap.objs.size) { s1 with heap := pushCells (s1.heap.push { cls := .type "dict", data := .dict #[] }) scope.names }
  have nofp : ∀ b ∈ fp, (upd Ha D (.dT [])) b = none := fun b hb => (fpOk b hb).1.1
  generalize ece : compEnvC scope (cellsFrom (s1.heap.objs.size + 1) scope.names (cloFrom X.env.cells scope.names [])) s1.heap.objs.size X.env = ce at I2 rg rt rk re ⊢
  have cL : ce.locals = s1.heap.objs.size := by subst ece; rfl
  generalize eHb : upd Ha D (.dT []) = Hb at I1 I2 rg rt rk re w0 nofp fpOk
  generalize es2 : ({ s1 with heap := pushCells (s1.heap.push { cls := .type "dict", data := .dict #[] }) scope.names } : Shared) = s2 at I2 ⊢
  have st2 : tn 0 s2.heap := T.keep _ _ _ st1 fun b _ o z => by
    rw [← es2]
    exact pushCells_keeps _ _ _ _ (Heap.get?_push_of_some _ z)
  have fpB : ∀ {σ' : L2.St} {H' : Hp} {s' : Shared}, L2.Inv (X.blk s1 Hb scope ce fp) [] σ' H' s' → (∀ b ∈ fp, H' b = none) → ∀ b ∈ fp, FpOk (X.blk s1 Hb scope ce fp) [] H' b := fun {σ' H' s'} I' hn b hb =>
    ⟨hn b hb, (I'.ok.exf b hb).1, I'.ok.exfs b hb, .inl hb, fun x c z => (I'.ok.exf b hb).2 x c z, fun p hp => absurd (show p ∈ ([] : List (Addr × Obj)) ++ [] from hp) (by simp)⟩
  have loop : codeAny (model X.prog X.w) X.A (.compLoop (.DictComp kx vx [⟨tg, iter, ifs, 0⟩] scope pos) 0 (.ref it) (.ref D) ce) (compPost (model X.prog X.w) X.A X.xe none (EP X pins σ Q) (.ref D) s1.heap.objs.size) s2 := by
    refine compLoop_anyD (fun n z => ∃ i G, L2.Inv (X.blk s1 Hb scope ce fp) [] (wipe σ (own.map (·.2))) G z ∧ tn i z.heap ∧ (∀ b ∈ fp, G b = none) ∧ W i n G) ?_ m0 ⟨0, Hb, I2, st2, nofp, w0⟩
    rintro n s3 ⟨i, G, I3, st3, n3, w3⟩
    rcases turn i n G w3 with ⟨stop, qq⟩ | ⟨go, Nx, hNx, step⟩
    · refine thnF (T.done (X.blk s1 Hb scope ce fp) rfl rfl rfl calm i [] s3 _ G (fun _ _ => False) I3 (fpB I3 n3) st3 stop) fun r s4 ⟨hr, I4⟩ => ?_
      subst hr
      have I5 : L2.Inv X pins σ G s4 := I1.call' (ch := fp) I4.os I4.base I4.hok I4.bare fun b hb => ⟨(fpOk b hb).1.2.2.2.1, (fpOk b hb).1.2.1, (fpOk b hb).1.2.2.2.2.1, (fpOk b hb).1.2.2.2.2.2⟩
      have nC : G s1.heap.objs.size = none := by
        have z : G ce.locals = none := I4.free
        rw [cL] at z
        exact z
      obtain ⟨mm, hn, _⟩ := I4.loc
      have hn' : s4.heap.Ns ce.locals mm := hn
      rw [cL] at hn'
      refine ⟨mm, hn', fun h'' sbt => ?_⟩
      obtain ⟨f0, f1, f2, f3, f4, f5⟩ := I1.fpOk (Nat.le_refl _) nC
      exact ⟨.ref D, G, I5.turned (t' := s4.toks) (fun b o hb z => (sbt.2 b hb).trans z) f0 f1 f3 f4 f5, rfl, qq⟩
    · refine thnF (T.item (X.blk s1 Hb scope ce fp) rfl rfl rfl calm i [] s3 _ G (fun _ _ => False) I3 (fpB I3 n3) st3 go) fun r s4 ⟨u, hr, h4⟩ => ?_
      subst hr
      refine thnF h4 fun _ s5 ⟨x, G1, I5, r5, y5, st5, n5⟩ => ?_
      refine thnF (rg.run _ s5 _ G1 x u _ (I5.pinned (fpB I5 n5) (T.obj _ _ st5)) r5 (step x G1 y5)) fun _ s6 ⟨σ6, G2, I6, hw, q6⟩ => ?_
      refine thnF (rt.run _ s6 σ6 G2 _ I6 q6) fun b s7 ⟨G3, I7, q7⟩ => ?_
      have fin : ∀ {s' : Shared} {G' : Hp}, L2.Inv (X.blk s1 Hb scope ce fp) ([] ++ pinsAt fp s5.heap) σ6 G' s' → Nx G' → ∃ m, m < n ∧ ∃ i G, L2.Inv (X.blk s1 Hb scope ce fp) [] (wipe σ (own.map (·.2))) G s' ∧ tn i s'.heap ∧ (∀ b ∈ fp, G b = none) ∧ W i m G := fun {s' G'} I' nx => by
        obtain ⟨m', hm, w'⟩ := hNx G' nx
        have pn : ∀ b ∈ fp, ∀ o, s5.heap.get? b = some o → s'.heap.get? b = some o ∧ G' b = none := fun b hb o z =>
          let y := I'.pin (b, o) (List.mem_append_right _ (List.mem_append_right _ (mem_pinsAt hb z)))
          ⟨y.1, y.2.1⟩
        refine ⟨m', hm, i + 1, G', (I'.unpinned (pins := [])).weak (by rw [← hw, wipe_length]) (fun j v z => ?_), T.keep _ _ _ st5 fun b hb o z => (pn b hb o z).1, fun b hb => ?_, w'⟩
        · rw [← hw] at z
          exact (wipe_some z).1
        · obtain ⟨o, z, _⟩ := T.obj _ _ st5 b hb
          exact (pn b hb o z).2
      cases b with
      | false =>
        simp only [if_false, Bool.false_eq_true] at q7 ⊢
        exact fin I7 q7
      | true =>
        simp only [if_true] at q7 ⊢
        refine thnF (rk.run _ s7 σ6 G3 _ I7 q7) fun z s8 ⟨yk, G4, I8, r8, q8⟩ => ?_
        refine thnF (re.run _ s8 σ6 G4 _ I8 q8) fun z2 s9 ⟨yv, G5, I9, r9, t, k, kvs, ey, htk, hD, few, nx⟩ => ?_
        subst ey
        cases (show z = Value.ref t from r8)
        exact put_dt (X := X.blk s1 Hb scope ce fp) I9 hD htk few hu r9 fun s10 J10 => fin J10 nx
  exact codeAny_compStart_dict loop (T.self X.A 0 _ _ _ st2 loop)
end
end SmL
namespace SmL
open PySem PySem.Spec PyProof.Rows L2 ClX StX
/-! ### a staticmethod called on its class -/
structure SMet (K : PySem.W.Frag) (C : Addr) (mc : Value) (m : Str) (p f : Addr) : Prop where
  at_ : PySem.W.findCls K (.ref C) mc m = some (.get (.builtin "staticmethod.__get__") (.ref p) .none (.ref C))
  rc : ∃ rest, PySem.W.recIn K p "staticmethod" = some (.ref f :: rest)
  kp : PySem.W.keepIn K (.ref f) = true
section
variable {X : Cx} {CX : CXT} {k : Nat} {C p f : Addr} {mc : Value} {m : Str} {sp : Sp} {E : XK} {o e : Expr} {es : List Expr} {pos apos : Pos} {ta : TE} {t : TA} {pl : Sem Bool}
def tStat (C : Addr) (sp : Sp) (E : XK) (ta : TE) (t : TA) : TE := fun σ H Q => ta σ H fun x H1 => x = .ref C ∧ t σ H1 fun vs H2 => sp vs H2 Q E
theorem getstat {pins : List (Addr × Obj)} {σ : L2.St} {H : Hp} {s : Shared} {A : Around} {Ex : Value → Shared → Prop} {Q : Value × List Value → Shared → Prop} (I : L2.Inv X pins σ H s) (r : CRead X.K C mc) (c : SMet X.K C mc m p f)
    (h : ∀ s', L2.Inv X pins σ H s' → Q (.ref f, []) s') : wpAny (model X.prog X.w) A (getMethod (.ref C) m pl) Q Ex s := by
  obtain ⟨rest, hp⟩ := c.rc
  refine PySem.W.method_cls I.kIn r.ga (PySem.W.cls_bind I.kIn r.rd c.at_ (wpAny_call (PySem.W.sm_get (s := { s with toks := s.toks + 1 }) I.kIn hp (PySem.W.handed_on rfl ?_))))
  exact h _ (I.tok _)
theorem pe_stat (he : PE X o ta) (r : CRead X.K C mc) (c : SMet X.K C mc m p f) (F : FnR X.prog X.w X.K X.mg X.base CX k f sp) (hr : Room k X.A) (hx : Passes CX X E) (ha : PA X (e :: es) t)
    (hst : starEach (e :: es) X.env = (false, eval e X.env) :: starEach es X.env := by rfl) (hpl : (backTo pos (starEach es X.env)).any (·.1) = false := by rfl)
    (ht : eval (.Call (.Attribute o m apos) (e :: es) [] pos) X.env = (do
      let ov ← eval o X.env
      standAt apos.atName
      let (f, first) ← holding [ov] (getMethod ov m pl)
      callWith pos f first (backTo pos (starEach (e :: es) X.env)) (backToKw pos (keywordEach [] X.env))) := by rfl) :
    PE X (.Call (.Attribute o m apos) (e :: es) [] pos) (tStat C sp E ta t) := by
  refine ⟨fun pins s σ H Q I h => ?_⟩
  refine PySem.W.methodCall_KW (pl := pl) (thn (he.run pins s σ H _ I h) fun u s1 ⟨x, H1, I1, rx, ex, q⟩ => ?_) ht
  subst ex
  obtain rfl : u = Value.ref C := rx
  refine getstat I1 r c fun s2 I2 => ?_
  refine PySem.W.callWith_K (h₀ := X.base) (first := []) I2.ok.mod.kin c.kp (thn (ha.run pos pins s2 σ H1 _ I2 q) fun us s3 ⟨vs, H3, I3, rv, q3⟩ => ⟨I3.kIn, ?_⟩) hst hpl
  exact wpAny_call (run_fnR F hr hx I3 rv q3)
theorem pe_stat0 (he : PE X o ta) (r : CRead X.K C mc) (c : SMet X.K C mc m p f) (F : FnR X.prog X.w X.K X.mg X.base CX k f sp) (hr : Room k X.A) (hx : Passes CX X E)
    (ht : eval (.Call (.Attribute o m apos) [] [] pos) X.env = (do
      let ov ← eval o X.env
      standAt apos.atName
      let (f, first) ← holding [ov] (getMethod ov m pl)
      callWith pos f first (backTo pos (starEach [] X.env)) (backToKw pos (keywordEach [] X.env))) := by rfl) :
    PE X (.Call (.Attribute o m apos) [] [] pos) (tStat C sp E ta tNil) := by
  refine ⟨fun pins s σ H Q I h => ?_⟩
  refine PySem.W.methodCall_KW (pl := pl) (thn (he.run pins s σ H _ I h) fun u s1 ⟨x, H1, I1, rx, ex, q⟩ => ?_) ht
  subst ex
  obtain rfl : u = Value.ref C := rx
  refine getstat I1 r c fun s2 I2 => ?_
  exact PySem.W.callWith_K0 (first := []) I2.kIn c.kp (wpAny_call (run_fnR (us := []) (vs := []) F hr hx I2 .nil q))
end
/-! ### a def called from any place around, with the caller's frames -/
section
variable {X : Cx} {CX : CXT} {k : Nat} {f : Addr} {fd : FuncData} {ps : List Str} {sp : Sp} {E : XK} {pins : List (Addr × Obj)} {σ : L2.St} {H : Hp} {s : Shared}
theorem run_at {A : Around} {Q : VK} {us : List Value} {vs : List V} (F : FnOk X.prog X.w X.K X.mg X.base CX k f fd ps sp) (hr : Room k A) (fr : A.frames = X.A.frames) (hb : Binds X.K fd ps []) (hx : Passes CX X E) (I : L2.Inv X pins σ H s)
    (r : Vals vs us) (h : sp vs H Q E) : wpAny (model X.prog X.w) A (call (.ref f) us) (EP X pins σ Q) X.xe s := by
  have e0 : Env0 X.prog X.w X.K X.mg X.base A X.stack s H := by
    have e := I.env0
    exact ⟨by rw [fr]; exact e.frames, e.mod, e.bs, e.bsz, e.funs, e.frf, e.hok, e.bare⟩
  have hl := F.len _ _ _ _ h
  refine wpAny_call (codeAny_mono (F.run A X.stack s H ⟨us, []⟩ us vs _ E hr e0 (by
    have := hb s us I.kIn (by rw [List.append_nil, ← r.length]; exact hl)
    simpa using this) r h) fun q s' hq => ?_)
  cases q with
  | error e => exact hx pins σ H s e s' I hq
  | ok fl =>
    cases fl with
    | ret u => exact I.after hq
    | next => exact False.elim hq
    | brk => exact False.elim hq
    | cont => exact False.elim hq
end
/-! ### != where the class has an own == and no own != -/
theorem on_plain : plainId "object.__ne__" = true := by decide +kernel
theorem on_bind (self : Value) : bindSpecial (.builtin "object.__ne__") self = pure (.builtin "object.__ne__", [self]) := rfl
section
variable {prog : Program} {w : World} {A : Around} {E : Value → Shared → Prop} {s : Shared} {K : PySem.W.Frag} {x C f : Addr} {ox : Obj} {od : Option Obj} {b tb : Value}
theorem ne_own {Q : Value → Shared → Prop} (hu : A.units + 1 < cLine) (X : K.In s.heap) (I : PySem.W.InstAt s.heap x ox C od) (hb : PySem.W.Looks (model prog w) s.heap (typeOf b) tb) (hn : PySem.W.notFirst K C tb = true)
    (sub : PySem.W.subIn K (.ref C) (.type "object") = some true) (ne : PySem.W.findIn K (.ref C) "__ne__" = some (some (.builtin "object.__ne__"))) (hs : PySem.W.findIn K (.ref C) "__eq__" = some (some (.ref f))) (hf : PySem.W.isFn K (.ref f) = true)
    (h : wpAny (model prog w) A.in1 (call (.ref f) [.ref x, b]) (fun v s' => ∃ c, v = .bool c ∧ Q (.bool (!c)) s') E s) : wpAny (model prog w) A (richCompare .NotEq (.ref x) b) Q E s := by
  have inst : PySem.W.Looks (model prog w) s.heap (isInstance (.ref x) (.type "object")) true := I.type.andThen (PySem.W.looks_subIn X sub)
  have body : wpAny (model prog w) A.in1 (Builtin.«object.__ne__» ⟨[.ref x, b], []⟩) (fun fin s' => ∃ v, fin = .done (.ret v) ∧ ∃ c, v = .bool c ∧ Q v s') E s := by
    unfold Builtin.«object.__ne__»
    refine wpAny_bind (m := slotArgs "__ne__" 1 _) (wpAny_pure ?_)
    refine wpAny_bind (wpAny_cRoomFor hu ?_)
    refine wpAny_bind (PySem.W.ifBound_K X I hs hf (wpAny_mono h (fun v s' hv => ?_) fun _ _ e => e))
    obtain ⟨c, rfl, q⟩ := hv
    refine wpAny_bind (wpAny_truthy_bool ?_)
    exact wpAny_pure ⟨_, rfl, _, rfl, q⟩
  have one : wpAny (model prog w) A (tryCompare (.ref x) "__ne__" b) (fun r s' => ∃ v, r = some v ∧ Q v s') E s := by
    unfold tryCompare
    simp only [callSpecialIfBound?, bindSpecialIfBound?]
    have fin : wpAny (model prog w) A (call (.builtin "object.__ne__") ([.ref x] ++ [b])) (fun v s' => ∃ c, v = .bool c ∧ Q v s') E s := by
      refine wpAny_call (codeAny_call_builtin on_plain F.cmpEntry_ne (PySem.W.check_slot F.cmpKind_ne F.cmpSplit_ne inst (F.cmpArgs_ne _ _) (wpAny_mono body (fun fin s' z => ?_) fun _ _ e => e)))
      obtain ⟨v, rfl, c, rfl, q⟩ := z
      exact ⟨c, rfl, q⟩
    refine wpAny_bind (wpAny_holding (wpAny_bind (wpAny_bind (wpAny_bind (I.type.here ((PySem.W.looks_findIn X ne).here ?_))))))
    refine wpAny_bind (wpAny_askSetting (wpAny_ite ?_))
    have go : wpAny (model prog w) A (call (.builtin "object.__ne__") ([.ref x] ++ [b]) >>= fun v => pure (some v)) (fun r s' => wpAny (model prog w) A (match r with
      | some .notImplemented | none => pure none
      | some v => pure (some v)) (fun r s' => ∃ v, r = some v ∧ Q v s') E s') E s := by
      refine wpAny_bind (wpAny_mono fin (fun v s' z => ?_) fun _ _ e => e)
      obtain ⟨c, rfl, q⟩ := z
      exact wpAny_pure (wpAny_pure ⟨_, rfl, q⟩)
    split
    · rw [on_bind]
      exact wpAny_bind (wpAny_pure (wpAny_pure go))
    · rw [on_bind]
      exact wpAny_tryCatch (wpAny_bind (wpAny_pure (wpAny_pure go)))
  unfold richCompare
  simp only [oneThing_ref]
  refine wpAny_holding (wpAny_bind (wpAny_cRoomFor (by omega) ?_))
  refine wpAny_bind (I.type.here (wpAny_bind (hb.here ?_)))
  have fin : wpAny (model prog w) A (tryCompare (.ref x) (cmpInfo .NotEq).2.1 b) (fun r s' => ∃ v, r = some v ∧ Q v s') E s := one
  split
  · rename_i q
    have e : PySem.W.subIn K tb (.ref C) = some false := by
      rcases Bool.or_eq_true_iff.mp hn with e | e
      · rw [beq_iff_eq.mp e] at q
        simp at q
      · exact beq_iff_eq.mp e
    refine wpAny_bind ((PySem.W.looks_subIn X e).here ?_)
    simp only [if_false, Bool.false_eq_true]
    refine wpAny_bind (wpAny_mono fin (fun r s' z => ?_) fun _ _ e => e)
    obtain ⟨v, rfl, hq⟩ := z
    exact wpAny_pure hq
  · refine wpAny_bind (wpAny_pure ?_)
    simp only [if_false, Bool.false_eq_true]
    refine wpAny_bind (wpAny_mono fin (fun r s' z => ?_) fun _ _ e => e)
    obtain ⟨v, rfl, hq⟩ := z
    exact wpAny_pure hq
end
end SmL
namespace SmL
open PySem L2 SrtO
/-! ### reading order -/
abbrev Cell := Int × Int
/-- c stands before d in reading order -/
def bef (c d : Cell) : Prop := c.2 < d.2 ∨ (c.2 = d.2 ∧ c.1 < d.1)
theorem bef_irr (c : Cell) : ¬ bef c c := fun h => by
  unfold bef at h
  omega
theorem bef_tr {a b c : Cell} (h : bef a b) (k : bef b c) : bef a c := by
  unfold bef at *
  omega
theorem bef_tot {a b : Cell} (h : a ≠ b) : bef a b ∨ bef b a := by
  unfold bef
  obtain ⟨x, y⟩ := a
  obtain ⟨u, v⟩ := b
  by_cases e : y = v
  · by_cases e2 : x = u
    · exact absurd (by rw [e, e2]) h
    · show (y < v ∨ y = v ∧ x < u) ∨ (v < y ∨ v = y ∧ u < x)
      omega
  · show (y < v ∨ y = v ∧ x < u) ∨ (v < y ∨ v = y ∧ u < x)
    omega
/-- M: the cells of cs, each once, in reading order -/
structure Reading (cs M : List Cell) : Prop where
  asc : M.Pairwise bef
  mem : ∀ c, c ∈ M ↔ c ∈ cs
theorem asc_uniq : ∀ {M N : List Cell}, M.Pairwise bef → N.Pairwise bef → (∀ c, c ∈ M ↔ c ∈ N) → M = N
  | [], [], _, _, _ => rfl
  | [], c :: N, _, _, h => absurd ((h c).mpr List.mem_cons_self) (by simp)
  | c :: M, [], _, _, h => absurd ((h c).mp List.mem_cons_self) (by simp)
  | c :: M, d :: N, hM, hN, h => by
    obtain ⟨m1, m2⟩ := List.pairwise_cons.mp hM
    obtain ⟨n1, n2⟩ := List.pairwise_cons.mp hN
    have e : c = d := by
      rcases List.mem_cons.mp ((h c).mp List.mem_cons_self) with z | z
      · exact z
      · rcases List.mem_cons.mp ((h d).mpr List.mem_cons_self) with y | y
        · exact y.symm
        · exact absurd (bef_tr (n1 c z) (m1 d y)) (bef_irr d)
    subst e
    have r : M = N := asc_uniq m2 n2 fun x => by
      constructor
      · intro hx
        rcases List.mem_cons.mp ((h x).mp (List.mem_cons_of_mem _ hx)) with z | z
        · subst z
          exact absurd (m1 x hx) (bef_irr x)
        · exact z
      · intro hx
        rcases List.mem_cons.mp ((h x).mpr (List.mem_cons_of_mem _ hx)) with z | z
        · subst z
          exact absurd (n1 x hx) (bef_irr x)
        · exact z
    rw [r]
theorem Reading.uniq {cs ds M N : List Cell} (h : Reading cs M) (k : Reading ds N) (e : ∀ c, c ∈ cs ↔ c ∈ ds) : M = N := asc_uniq h.asc k.asc fun c => (h.mem c).trans ((e c).trans (k.mem c).symm)
theorem Reading.nodup {cs M : List Cell} (h : Reading cs M) : M.Nodup := List.Pairwise.imp (fun {a b} (hb : bef a b) => show a ≠ b from fun e => bef_irr b (by rw [e] at hb; exact hb)) h.asc
/-- flipped pairs, ascending and different, are cells in reading order -/
theorem flip_asc : ∀ {l : List (Int × Int)}, l.Nodup → l.Pairwise (fun p q => lexB q p = false) → (l.map fun p => ((p.2, p.1) : Cell)).Pairwise bef
  | [], _, _ => List.Pairwise.nil
  | p :: l, hn, hp => by
    obtain ⟨n1, n2⟩ := List.nodup_cons.mp hn
    obtain ⟨p1, p2⟩ := List.pairwise_cons.mp hp
    rw [List.map_cons]
    refine List.pairwise_cons.mpr ⟨fun c hc => ?_, flip_asc n2 p2⟩
    obtain ⟨q, hq, rfl⟩ := List.mem_map.mp hc
    have h1 := lexB_no.mp (p1 q hq)
    have ne : p ≠ q := fun e => n1 (by rw [e]; exact hq)
    obtain ⟨a, b⟩ := p
    obtain ⟨u, v⟩ := q
    show a < u ∨ (a = u ∧ b < v)
    simp only at h1
    by_cases e : a = u
    · by_cases e2 : b = v
      · exact absurd (by rw [e, e2]) ne
      · omega
    · omega
/-! ### dicts of cells -/
def keyC (c : Cell) : List L2.Key := [.inl c.1, .inl c.2]
def memO (M : List Cell) : HO := .dT (M.map fun c => (keyC c, V.bl true))
theorem keyC_inj {c d : Cell} (h : keyC c = keyC d) : c = d := by
  obtain ⟨x, y⟩ := c
  obtain ⟨u, v⟩ := d
  injection h with h1 h2
  injection h2 with h2 _
  injection h1 with h1
  injection h2 with h2
  exact Prod.ext h1 h2
theorem keyC_kV (c : Cell) : (keyC c).map kV = [.int c.1, .int c.2] := rfl
theorem put_new {M : List Cell} {c : Cell} (h : c ∉ M) : putK (M.map fun c => (keyC c, V.bl true)) (keyC c) (V.bl true) = (M ++ [c]).map fun c => (keyC c, V.bl true) := by
  unfold putK
  have e : ((M.map fun c => (keyC c, V.bl true)).any fun kv => decide (kv.1 = keyC c)) = false := by
    rw [List.any_eq_false]
    intro p hp
    obtain ⟨d, hd, rfl⟩ := List.mem_map.mp hp
    intro z
    exact h (by rw [← keyC_inj (of_decide_eq_true z)]; exact hd)
  rw [e]
  simp
theorem val_mem (M : List Cell) (c : Cell) : (valV (M.map fun c => (keyC c, V.bl true)) (keyC c)).isSome = decide (c ∈ M) := by
  unfold valV
  rw [Option.isSome_map]
  by_cases h : c ∈ M
  · rw [decide_eq_true h, List.find?_isSome]
    exact ⟨(keyC c, V.bl true), List.mem_map.mpr ⟨c, h, rfl⟩, decide_eq_true rfl⟩
  · rw [decide_eq_false h]
    have z : ((M.map fun c => (keyC c, V.bl true)).find? fun kv => decide (kv.1 = keyC c)) = none := by
      rw [List.find?_eq_none]
      intro p hp
      obtain ⟨d, hd, rfl⟩ := List.mem_map.mp hp
      intro y
      exact h (by rw [← keyC_inj (of_decide_eq_true y)]; exact hd)
    rw [z]
    rfl
end SmL
namespace SmL
open PySem PySem.Spec PyProof.Rows L2 PpSet
/-! ### comprehensions over a list -/
theorem sct_list {P : Program} {w : World} {K : PySem.W.Frag} {a : Addr} {xs : List V} {g : TG} {tt : TT} {te : TE} {vs : List Nat} {σ : L2.St} {H1 : Hp} {D : Addr} {Qd : Hp → Prop} (Pv : Nat → Hp → Prop)
    (h0 : Pv 0 (upd H1 D (SetTO P w D []))) (hl : ∀ i H, i ≤ xs.length → Pv i H → SqL K H a xs)
    (hs : ∀ i x H, xs[i]? = some x → Pv i H → g x (wipe σ vs) H fun σ2 G2 => wipe σ2 vs = wipe σ vs ∧ tt σ2 G2 fun b G3 => if b = true then te σ2 G3 fun y G4 =>
        ∃ (t : Addr) (k : List Int) (L : List (Addr × List Int)), y = .ref t ∧ SqT K G4 t (k.map V.int) ∧ G4 D = some (SetTO P w D L) ∧ (∀ p ∈ L, SqT K G4 p.1 (p.2.map V.int)) ∧ L.length + 1 < 64 ∧
          ∀ L', (k ∈ L.map (·.2) → L' = L) → (k ∉ L.map (·.2) → L'.Perm ((t, k) :: L)) → Pv (i + 1) (upd G4 D (SetTO P w D L')) else Pv (i + 1) G3)
    (hd : ∀ H, Pv xs.length H → Qd H) :
    ∃ W : Nat → Nat → Hp → Prop, (∃ m, W 0 m (upd H1 D (SetTO P w D []))) ∧ ∀ i m G, W i m G →
      ((Itl K a).stop i G ∧ Qd G) ∨ ((Itl K a).go i G ∧ ∃ Nx : Hp → Prop, (∀ G', Nx G' → ∃ m', m' < m ∧ W (i + 1) m' G') ∧
        ∀ x G1, (Itl K a).yld i G x G1 → g x (wipe σ vs) G1 fun σ2 G2 => wipe σ2 vs = wipe σ vs ∧ tt σ2 G2 fun b G3 => if b = true then te σ2 G3 fun y G4 =>
          ∃ (t : Addr) (k : List Int) (L : List (Addr × List Int)), y = .ref t ∧ SqT K G4 t (k.map V.int) ∧ G4 D = some (SetTO P w D L) ∧ (∀ p ∈ L, SqT K G4 p.1 (p.2.map V.int)) ∧ L.length + 1 < 64 ∧
            ∀ L', (k ∈ L.map (·.2) → L' = L) → (k ∉ L.map (·.2) → L'.Perm ((t, k) :: L)) → Nx (upd G4 D (SetTO P w D L')) else Nx G3) := by
  refine ⟨fun i m G => m = xs.length - i ∧ i ≤ xs.length ∧ Pv i G, ⟨xs.length, Nat.sub_zero _ |>.symm, Nat.zero_le _, h0⟩, ?_⟩
  rintro i m G ⟨rfl, hi, p⟩
  have q := hl i G hi p
  rcases Nat.lt_or_ge i xs.length with lt | ge
  · refine .inr ⟨⟨xs, xs[i], q, List.getElem?_eq_getElem lt⟩, Pv (i + 1), fun G' p' => ⟨xs.length - (i + 1), by omega, rfl, lt, p'⟩, fun x G1 y => ?_⟩
    obtain ⟨rfl, y⟩ := y
    exact hs i x _ (y xs q) p
  · obtain rfl : i = xs.length := by omega
    exact .inl ⟨⟨xs, q, Nat.le_refl _⟩, hd G p⟩
theorem dct_list {K : PySem.W.Frag} {a : Addr} {xs : List V} {g : TG} {tt : TT} {tk te : TE} {vs : List Nat} {σ : L2.St} {H1 : Hp} {D : Addr} {Qd : Hp → Prop} (Pv : Nat → Hp → Prop)
    (h0 : Pv 0 (upd H1 D (.dT []))) (hl : ∀ i H, i ≤ xs.length → Pv i H → SqL K H a xs)
    (hs : ∀ i x H, xs[i]? = some x → Pv i H → g x (wipe σ vs) H fun σ2 G2 => wipe σ2 vs = wipe σ vs ∧ tt σ2 G2 fun b G3 => if b = true then tk σ2 G3 fun y G4 => te σ2 G4 fun v G5 =>
        ∃ (t : Addr) (k : List L2.Key) (kvs : List (List L2.Key × V)), y = .ref t ∧ G5 t = some (.tup (k.map kV)) ∧ G5 D = some (.dT kvs) ∧ kvs.length < sizeLine ∧ Pv (i + 1) (upd G5 D (.dT (putK kvs k v))) else Pv (i + 1) G3)
    (hd : ∀ H, Pv xs.length H → Qd H) :
    ∃ W : Nat → Nat → Hp → Prop, (∃ m, W 0 m (upd H1 D (.dT []))) ∧ ∀ i m G, W i m G →
      ((Itl K a).stop i G ∧ Qd G) ∨ ((Itl K a).go i G ∧ ∃ Nx : Hp → Prop, (∀ G', Nx G' → ∃ m', m' < m ∧ W (i + 1) m' G') ∧
        ∀ x G1, (Itl K a).yld i G x G1 → g x (wipe σ vs) G1 fun σ2 G2 => wipe σ2 vs = wipe σ vs ∧ tt σ2 G2 fun b G3 => if b = true then tk σ2 G3 fun y G4 => te σ2 G4 fun v G5 =>
          ∃ (t : Addr) (k : List L2.Key) (kvs : List (List L2.Key × V)), y = .ref t ∧ G5 t = some (.tup (k.map kV)) ∧ G5 D = some (.dT kvs) ∧ kvs.length < sizeLine ∧ Nx (upd G5 D (.dT (putK kvs k v))) else Nx G3) := by
  refine ⟨fun i m G => m = xs.length - i ∧ i ≤ xs.length ∧ Pv i G, ⟨xs.length, Nat.sub_zero _ |>.symm, Nat.zero_le _, h0⟩, ?_⟩
  rintro i m G ⟨rfl, hi, p⟩
  have q := hl i G hi p
  rcases Nat.lt_or_ge i xs.length with lt | ge
  · refine .inr ⟨⟨xs, xs[i], q, List.getElem?_eq_getElem lt⟩, Pv (i + 1), fun G' p' => ⟨xs.length - (i + 1), by omega, rfl, lt, p'⟩, fun x G1 y => ?_⟩
    obtain ⟨rfl, y⟩ := y
    exact hs i x _ (y xs q) p
  · obtain rfl : i = xs.length := by omega
    exact .inl ⟨⟨xs, q, Nat.le_refl _⟩, hd G p⟩
/-! ### the text -/
def top (i : Nat) : Stmt := PySem.Challenge.pw_smalti_k02_region_operators.main.body.getD i (.Pass ⟨0, 0, 0, 0⟩)
abbrev cInit : Stmt := inClass (top 4) 0
abbrev cOf : Stmt := inClass (top 4) 1
abbrev cCells : Stmt := inClass (top 4) 2
abbrev cEq : Stmt := inClass (top 4) 8
/-! ### cells in a list, a region -/
/-- a list of cells at a: each with its address -/
abbrev CL := List (Addr × Cell)
def refs (ks : CL) : List V := ks.map fun p => V.ref p.1
def cellsOf (ks : CL) : List Cell := ks.map (·.2)
def CellO (c : Cell) : HO := .tup [.int c.1, .int c.2]
def Tups (H : Hp) (ks : CL) : Prop := ∀ p ∈ ks, H p.1 = some (CellO p.2)
theorem Tups.same {H H' : Hp} {ks : CL} (t : Tups H ks) (s : Same H H') : Tups H' ks := fun p hp => s _ _ (t p hp)
/-- the region at r has the cells M -/
def RegAt (C : Addr) (H : Hp) (r : Addr) (M : List Cell) : Prop := ∃ dx d, H r = some (.ins C dx [("_members", .ref d)]) ∧ H d = some (memO M) ∧ M.Pairwise bef ∧ M.length < 64
/-- all that stood stands, but r -/
def SameBut (r : Addr) (H H' : Hp) : Prop := ∀ b o, b ≠ r → H b = some o → H' b = some o
def spInit (K : PySem.W.Frag) (C : Addr) : Sp := fun vs H Q _ => ∃ (r dx a : Addr) (ks : CL), vs = [.ref r, .ref a] ∧ H r = some (.ins C dx []) ∧ SqL K H a (refs ks) ∧ Tups H ks ∧ ks.length < 63 ∧
  ∀ H' M, Reading (cellsOf ks) M → RegAt C H' r M → SameBut r H H' → Q .non H'
abbrev nInit : List Str := ["self", "cells", "flipped", "y", "x"]
theorem scInit : FnScope nInit ["self", "cells"] (defScope cInit) := ⟨rfl, rfl, rfl, by decide +kernel, rfl, by decide +kernel, by decide +kernel⟩
theorem tyes {σ : L2.St} {G : Hp} {R : Bool → Hp → Prop} (h : R true G) : tYes σ G R := h
theorem same_upd {H : Hp} {p : Addr} {o : HO} (h : H p = none) : Same H (upd H p o) := fun b x e => by
  rw [upd_ne (ne_of_none e h)]
  exact e
theorem refs_at {ks : CL} {i : Nat} {x : V} (h : (refs ks)[i]? = some x) : ∃ t c, ks[i]? = some (t, c) ∧ x = .ref t := by
  unfold refs at h
  rw [List.getElem?_map] at h
  cases e : ks[i]? with
  | none =>
    rw [e] at h
    cases h
  | some p =>
    rw [e] at h
    cases h
    exact ⟨p.1, p.2, rfl, rfl⟩
theorem pr_two {l : List Int} (h : l.length = 2) : l = [(pr l).1, (pr l).2] := match l, h with | [_, _], _ => rfl
theorem pr_inj {l m : List Int} (hl : l.length = 2) (hm : m.length = 2) (e : pr l = pr m) : l = m := by
  rw [pr_two hl, pr_two hm, e]
structure Txt (K : PySem.W.Frag) (mg : Str → Option Value) (C : Addr) : Prop where
  cl : Cls K C
  nM : NoAttr K C "_members"
  mgC : mg "Region" = some (.ref C)
  srt : mg "sorted" = none
  lst : mg "list" = none
section
variable {P : Program} {w : World} {K : PySem.W.Frag} {mg : Str → Option Value} {base : Heap}
theorem ok_init {f C : Addr} {fd : FuncData} (F : Fun K "__init__" "Region.__init__" cInit f fd) (T : Txt K mg C) : FnOk P w K mg base CX0 1 f fd ["self", "cells"] (spInit K C) := by
  refine F.ok scInit (fun vs H Q E h => ?_) (fun cdv A outer s H vs Q E hr h => ?_)
  · obtain ⟨r, dx, a, ks, rfl, _⟩ := h
    rfl
  · obtain ⟨r, dx, a, ks, rfl, hr0, ha, ht, few, k⟩ := h
    have hu : A.units + 1 + 3 < cLine := by
      have := hr.un
      have : A.units + 3 + 16 * 0 + 200 < cLine := this
      omega
    refine ⟨_, pss_cons (ps_set (i := 2) scInit.nd rfl (.inl rfl) (pe_callB (cr_sortedSP rfl) (by rfl) T.srt (by decide +kernel) (pa_cons
        (pe_sct (own := [("x", 4), ("y", 3)]) (g := gTup K 2 (gCons (gName 4) (gCons (gName 3) gNil))) (tt := tYes) rfl (hu_of hr) scInit.nd (pi_list (pv 1)) (blkOk_by (own := [("x", 4), ("y", 3)]) (N := nInit) (sc := defScope cInit) (by decide +kernel)) (fun _ _ _ _ _ => pg_tup rfl (pgs_cons (pg_name (i := 4) scInit.nd rfl (.inl rfl)) (pgs_cons (pg_name (i := 3) scInit.nd rfl (.inl rfl)) pgs_nil)))
          (fun _ _ _ _ _ => pts_nil) (fun _ _ _ _ _ => pe_tup (pa_cons (pv 3) (pa_cons (pv 4) pa_nil)))) pa_nil)))
      (pss_one (ps_fld (pv 0) (pe_dct (own := [("y", 3), ("x", 4)]) (g := gTup K 2 (gCons (gName 3) (gCons (gName 4) gNil))) (tt := tYes) rfl (hu_of hr) scInit.nd (pi_list (pv 2)) (blkOk_by (own := [("y", 3), ("x", 4)]) (N := nInit) (sc := defScope cInit) (by decide +kernel)) (fun _ _ _ _ _ => pg_tup rfl (pgs_cons (pg_name (i := 3) scInit.nd rfl (.inl rfl)) (pgs_cons (pg_name (i := 4) scInit.nd rfl (.inl rfl)) pgs_nil)))
          (fun _ _ _ _ _ => pts_nil) (fun _ _ _ _ _ => pe_tup (pa_cons (pv 4) (pa_cons (pv 3) pa_nil))) (fun _ _ _ _ _ => pe_bl)) rfl)), ?_⟩
    -- the set
    refine ⟨.ref a, rfl, a, rfl, ⟨_, ha⟩, fun D nD => sct_list (K := K) (a := a) (xs := refs ks) (fun i G => ∃ L : List (Addr × List Int), Same H G ∧ G D = some (SetTO P w D L) ∧ (∀ p ∈ L, G p.1 = some (.tup (p.2.map V.int)) ∧ p.2.length = 2) ∧
      (∀ k : List Int, k ∈ L.map (fun p => p.2) ↔ ∃ c ∈ (cellsOf ks).take i, k = [c.2, c.1]) ∧ L.length ≤ i) ⟨[], same_upd nD, upd_same, (fun p hp => nomatch hp), (fun k => ⟨fun z => (nomatch z), fun ⟨c, hc, _⟩ => (nomatch hc)⟩), Nat.zero_le _⟩ (fun i G _ ⟨L, sm, _⟩ => sm.seq ha) ?_ ?_⟩
    · rintro i x G hx ⟨L, sm, hD, hL, hk, hl⟩
      obtain ⟨t, c, hi, rfl⟩ := refs_at hx
      have htc : G t = some (CellO c) := sm _ _ (ht _ (List.mem_of_getElem? hi))
      have hi2 : i < ks.length := (List.getElem?_eq_some_iff.mp hi).1
      refine ⟨t, [.int c.1, .int c.2], rfl, SqT.of htc, rfl, _, _, rfl, _, _, rfl, rfl, rfl, ?_⟩
      refine tyes (iteT ⟨_, rfl, _, rfl, (by show 2 ≤ sizeLine; decide), fun T' nT => ?_⟩)
      have sT : Same G (upd G T' (.tup [.int c.2, .int c.1])) := same_upd nT
      refine ⟨T', [c.2, c.1], L, rfl, SqT.of upd_same, sT _ _ hD, fun p hp => SqT.of (sT _ _ (hL p hp).1), by omega, fun L' c1 c2 => ?_⟩
      have nDT : D ≠ T' := ne_of_none hD nT
      have sD : ∀ b o, b ≠ D → G b = some o → (upd (upd G T' (.tup [.int c.2, .int c.1])) D (SetTO P w D L')) b = some o := fun b o hb e => by
        rw [upd_ne hb]
        exact sT _ _ e
      have nd : ∀ p ∈ L, p.1 ≠ D := fun p hp e => by
        have z := (hL p hp).1
        rw [e, hD] at z
        cases z
      have takes : ∀ k : List Int, (∃ d ∈ (cellsOf ks).take (i + 1), k = [d.2, d.1]) ↔ (k = [c.2, c.1] ∨ ∃ d ∈ (cellsOf ks).take i, k = [d.2, d.1]) := fun k => by
        have e : (cellsOf ks)[i]? = some c := by
          unfold cellsOf
          rw [List.getElem?_map, hi]
          rfl
        rw [List.take_add_one, e]
        constructor
        · rintro ⟨d, hd, ek⟩
          rcases List.mem_append.mp hd with z | z
          · exact .inr ⟨d, z, ek⟩
          · have : d = c := by simpa using z
            rw [this] at ek
            exact .inl ek
        · rintro (ek | ⟨d, hd, ek⟩)
          · exact ⟨c, List.mem_append_right _ (by simp), ek⟩
          · exact ⟨d, List.mem_append_left _ hd, ek⟩
      by_cases hm : [c.2, c.1] ∈ L.map (·.2)
      · have eL := c1 hm
        subst eL
        refine ⟨L', fun b o e => ?_, upd_same, fun p hp => ⟨?_, (hL p hp).2⟩, fun k => ?_, by omega⟩
        · exact sD b o (fun z => by rw [z, nD] at e; cases e) (sm _ _ e)
        · rw [upd_ne (nd p hp)]
          exact sT _ _ (hL p hp).1
        · rw [takes, hk k]
          exact ⟨.inr, fun z => z.elim (fun z => by rw [z]; exact (hk _).mp hm) id⟩
      · have pm := c2 hm
        refine ⟨L', fun b o e => ?_, upd_same, fun p hp => ?_, fun k => ?_, by rw [pm.length_eq, List.length_cons]; omega⟩
        · exact sD b o (fun z => by rw [z, nD] at e; cases e) (sm _ _ e)
        · rcases List.mem_cons.mp (pm.mem_iff.mp hp) with z | z
          · subst z
            refine ⟨?_, rfl⟩
            rw [upd_ne nDT.symm]
            exact upd_same
          · refine ⟨?_, (hL p z).2⟩
            rw [upd_ne (nd p z)]
            exact sT _ _ (hL p z).1
        · rw [takes, ← hk k, (pm.map (·.2)).mem_iff, List.map_cons, List.mem_cons]
    · -- sorted
      rintro G ⟨L, sm, hD, hL, hk, hl⟩
      refine ⟨D, L, rfl, hD, fun p hp => ⟨SqT.of (hL p hp).1, (hL p hp).2⟩, fun M0 q pm nd asc nq => ?_⟩
      have sq : Same G (upd G q (.lst (M0.map fun p => V.ref p.1))) := same_upd nq
      have hM0 : ∀ p ∈ M0, G p.1 = some (.tup (p.2.map V.int)) ∧ p.2.length = 2 := fun p hp => hL p (pm.mem_iff.mp hp)
      have ndP : (M0.map fun p => pr p.2).Nodup := by
        refine List.pairwise_map.mpr (List.Pairwise.imp_of_mem (fun {p r} hp hr hne => ?_) (List.pairwise_map.mp nd))
        obtain ⟨_, l1⟩ := hM0 p hp
        obtain ⟨_, l2⟩ := hM0 r hr
        exact fun e => hne (pr_inj l1 l2 e)
      generalize eM : (M0.map fun p => pr p.2).map (fun z => ((z.2, z.1) : Cell)) = M
      have ascM : M.Pairwise bef := by
        rw [← eM]
        exact flip_asc ndP (List.pairwise_map.mpr asc)
      have lenM : M.length = M0.length := by rw [← eM, List.length_map, List.length_map]
      have lenL : M0.length < 64 := by
        have l2 : (refs ks).length = ks.length := List.length_map _
        rw [pm.length_eq]
        omega
      have ndM : M.Nodup := List.Pairwise.imp (fun {x y} (hb : bef x y) => show x ≠ y from fun e => bef_irr y (by rw [e] at hb; exact hb)) ascM
      have memM : ∀ c, c ∈ M ↔ c ∈ cellsOf ks := fun c => by
        have lks : (cellsOf ks).take (refs ks).length = cellsOf ks := List.take_of_length_le (by
          unfold cellsOf refs
          rw [List.length_map, List.length_map]
          exact Nat.le_refl _)
        have h1 := hk [c.2, c.1]
        rw [lks] at h1
        rw [← eM]
        constructor
        · intro hc
          obtain ⟨z, hz, rfl⟩ := List.mem_map.mp hc
          obtain ⟨p, hp, rfl⟩ := List.mem_map.mp hz
          obtain ⟨_, l1⟩ := hM0 p hp
          have e1 : p.2 = [(pr p.2).1, (pr p.2).2] := pr_two l1
          obtain ⟨d, hd, e2⟩ := h1.mp (List.mem_map.mpr ⟨p, pm.mem_iff.mp hp, e1⟩)
          injection e2 with e3 e4
          injection e4 with e4 _
          have : ((pr p.2).2, (pr p.2).1) = d := Prod.ext e4 e3
          rw [this]
          exact hd
        · intro hc
          obtain ⟨p, hp, e1⟩ := List.mem_map.mp (h1.mpr ⟨c, hc, rfl⟩)
          refine List.mem_map.mpr ⟨(c.2, c.1), List.mem_map.mpr ⟨p, pm.mem_iff.mpr hp, ?_⟩, rfl⟩
          rw [e1]
          rfl
      -- the dict
      refine ⟨.ref q, rfl, q, rfl, ⟨_, SqL.of upd_same⟩, fun d nd2 => dct_list (K := K) (a := q) (xs := M0.map fun p => V.ref p.1) (fun i G2 => Same (upd G q (.lst (M0.map fun p => V.ref p.1))) G2 ∧ G2 d = some (memO (M.take i)))
        ⟨same_upd nd2, upd_same⟩ (fun i G2 _ ⟨s2, _⟩ => SqL.of (s2 _ _ upd_same)) ?_ ?_⟩
      · rintro i x G2 hx ⟨s2, hd⟩
        have hp := hx
        rw [List.getElem?_map] at hp
        cases ep : M0[i]? with
        | none =>
          rw [ep] at hp
          cases hp
        | some p =>
          rw [ep] at hp
          cases hp
          obtain ⟨h1, l1⟩ := hM0 p (List.mem_of_getElem? ep)
          have e1 : p.2 = [(pr p.2).1, (pr p.2).2] := pr_two l1
          have g1 : G2 p.1 = some (.tup [.int (pr p.2).1, .int (pr p.2).2]) := by
            have z := s2 _ _ (sq _ _ h1)
            rw [e1] at z
            exact z
          have eMi : M[i]? = some ((pr p.2).2, (pr p.2).1) := by
            rw [← eM, List.getElem?_map, List.getElem?_map, ep]
            rfl
          refine ⟨p.1, [.int (pr p.2).1, .int (pr p.2).2], rfl, SqT.of g1, rfl, _, _, rfl, _, _, rfl, rfl, rfl, ?_⟩
          refine tyes (iteT ⟨_, rfl, _, rfl, (by show 2 ≤ sizeLine; decide), fun T' nT => ?_⟩)
          have nin : ((pr p.2).2, (pr p.2).1) ∉ M.take i := fun z => by
            have e2 : M = M.take i ++ M.drop i := (List.take_append_drop i M).symm
            have e3 : M.drop i = ((pr p.2).2, (pr p.2).1) :: M.drop (i + 1) := by
              have lt : i < M.length := (List.getElem?_eq_some_iff.mp eMi).1
              rw [List.drop_eq_getElem_cons lt]
              rw [List.getElem?_eq_getElem lt] at eMi
              rw [Option.some.inj eMi]
            rw [e2, e3] at ndM
            exact (List.nodup_append.mp ndM).2.2 _ z _ List.mem_cons_self rfl
          refine ⟨T', keyC ((pr p.2).2, (pr p.2).1), _, rfl, upd_same, (same_upd nT) _ _ hd, ?_, fun b o e => ?_, ?_⟩
          · rw [List.length_map, sizeLine_eq, List.length_take]
            omega
          · have nbd : b ≠ d := ne_of_none e nd2
            rw [upd_ne nbd]
            exact (same_upd nT) _ _ (s2 _ _ e)
          · rw [put_new nin, List.take_add_one, eMi, upd_same]
            rfl
      · rintro G2 ⟨s2, hd⟩
        have hdM : G2 d = some (memO M) := by
          rw [hd, List.take_of_length_le]
          rw [List.length_map, lenM]
          exact Nat.le_refl _
        have hr2 : G2 r = some (.ins C dx []) := s2 _ _ (sq _ _ (sm _ _ hr0))
        have ndr : d ≠ r := ne_of hdM hr2 (by intro z; cases z)
        refine ⟨_, rfl, r, C, dx, [], rfl, hr2, T.cl, T.nM, (by show 0 < 1000; decide), ?_⟩
        refine k _ M ⟨ascM, memM⟩ ⟨dx, d, upd_same, ?_, ascM, by omega⟩ fun b o hb e => ?_
        · rw [upd_ne ndr]
          exact hdM
        · rw [upd_ne hb]
          exact s2 _ _ (sq _ _ (sm _ _ e))
end
end SmL
namespace SmL
open PySem PySem.Spec PyProof.Rows L2
/-! ### == of two dicts with tuple keys, all their values True -/
section
variable {prog : Program} {w : World} {K : Type} [DecidableEq K] {knd : HeapKind prog w K} {A : Around} {E : Value → Shared → Prop} {s : Shared}
theorem same_dt {nm : String} {a b : Addr} {xa xb : List (K × Addr × Value)} {r : Bool} {Q : Bool → Shared → Prop} (na : (a == sysModules) = false) (nb : (b == sysModules) = false) (da : s.heap.DictOfH knd a xa) (db : s.heap.DictOfH knd b xb)
    (va : ∀ x ∈ xa, x.2.2 = .bool true) (vb : ∀ x ∈ xb, x.2.2 = .bool true) (hu : knd.room A) (yes : xa.length = xb.length → (∀ x ∈ xa, x.1 ∈ xb.map (·.1)) → r = true) (no1 : xa.length ≠ xb.length → r = false)
    (no2 : ∀ x ∈ xa, x.1 ∉ xb.map (·.1) → r = false) (h : Q r s) : wpAny (model prog w) A (Builtin.Dict.samePairs nm a b) Q E s := by
  obtain ⟨oa, ea, pa, hoa, _, hda, lea, ia, _⟩ := da
  obtain ⟨ob, eb, pb, hob, _, hdb, leb, ib, nb2⟩ := db
  have za : ea.size = xa.length := size_of_entries lea
  have zb : eb.size = xb.length := size_of_entries leb
  unfold Builtin.Dict.samePairs Builtin.Dict.showsAll
  rw [if_neg (by rw [na]; exact Bool.false_ne_true), if_neg (by rw [nb]; exact Bool.false_ne_true)]
  refine wpAny_bind (wpAny_pure (wpAny_bind (wpAny_pure (wpAny_bind (wpAny_dictEntries hoa hda ?_)))))
  dsimp only
  refine wpAny_bind (wpAny_dictEntries hob hdb ?_)
  by_cases hz : ea.size = eb.size
  case neg =>
    rw [if_pos (by simpa using hz)]
    rw [no1 (by rw [← za, ← zb]; exact hz)] at h
    exact wpAny_bind (wpAny_rule (wpAny_pure h))
  case pos =>
    rw [if_neg (by rw [hz]; simp)]
    refine wpAny_bind (wpAny_dictEpoch hoa hda (wpAny_bind ?_))
    rw [Std.Legacy.Range.forIn_eq_forIn_range']
    simp only [Std.Legacy.Range.size, Nat.sub_zero, Nat.div_one, Nat.add_sub_cancel]
    refine wpAny_forIn_list _ (fun rest q s' => s' = s ∧ q = (none, ()) ∧ ∃ i, rest = List.range' i (ea.size - i) ∧ i ≤ ea.size ∧ ∀ x ∈ xa.take i, x.1 ∈ xb.map (·.1)) _ ?_ ?_ _ _ ⟨rfl, rfl, 0, by simp, Nat.zero_le _, fun x hx => by simp at hx⟩
    · rintro x rest q s' ⟨rfl, rfl, i, hr, hi, hpre⟩
      have lt : i < ea.size := by
        rcases Nat.lt_or_ge i ea.size with z | z
        · exact z
        · rw [Nat.sub_eq_zero_of_le z] at hr
          simp at hr
      have e1 : ea.size - i = (ea.size - (i + 1)) + 1 := by omega
      rw [e1, List.range'_succ] at hr
      injection hr with ex er
      subst ex
      have ltx : x < xa.length := by rw [← za]; exact lt
      have mx : xa[x] ∈ xa := List.getElem_mem ltx
      have gx : ea[x]? = some (entryOfKey knd xa[x]) := by
        rw [entry_at lea x, List.getElem?_eq_getElem ltx]
        rfl
      refine wpAny_bind (wpAny_dictEntries hoa hda ?_)
      rw [gx]
      show wpAny _ _ (holding [(entryOfKey knd xa[x]).key, (entryOfKey knd xa[x]).val] _ >>= _) _ _ _
      refine wpAny_bind (wpAny_holding (wpAny_bind ?_))
      show wpAny _ _ (dictFind b (.ref xa[x].2.1) (knd.hash xa[x].1)) _ _ _
      refine wpAny_dictFind_heap hu (ia _ mx) hob hdb leb ib nb2 (fun hn => ?_) (fun j p hj => ?_)
      · have nin : xa[x].1 ∉ xb.map (·.1) := fun z => by
          obtain ⟨y, hy, e⟩ := List.mem_map.mp z
          obtain ⟨j, hj, e2⟩ := List.getElem_of_mem hy
          exact hn j y.2 (by rw [List.getElem?_eq_getElem hj, e2, ← e])
        rw [no2 _ mx nin] at h
        refine wpAny_pure ?_
        show wpAny _ _ (if (!false) = true then _ else _) _ _ _
        rw [if_pos (by decide)]
        exact wpAny_pure (wpAny_pure h)
      · have gj : eb[j]? = some (entryOfKey knd (xa[x].1, p)) := by
          rw [entry_at leb j, hj]
          rfl
        refine wpAny_bind (wpAny_dictEntries hob hdb ?_)
        rw [gj]
        have v1 : xa[x].2.2 = .bool true := va _ mx
        have v2 : p.2 = .bool true := vb _ (List.mem_of_getElem? hj)
        refine wpAny_holding ?_
        show wpAny _ _ (eqBool xa[x].2.2 p.2) _ _ _
        rw [v1, v2]
        refine SeqAt.EqAt.bool_bool true true _ _ _ _ ?_
        show wpAny _ _ (if (!true) = true then _ else _) _ _ _
        rw [if_neg (by decide)]
        refine wpAny_bind (wpAny_dictEpoch hoa hda ?_)
        rw [if_neg (by simp)]
        refine wpAny_pure ⟨rfl, rfl, x + 1, er, lt, fun y hy => ?_⟩
        rw [List.take_add_one, List.getElem?_eq_getElem ltx] at hy
        rcases List.mem_append.mp hy with z | z
        · exact hpre y z
        · have ey : y = xa[x] := by simpa using z
          rw [ey]
          exact List.mem_map.mpr ⟨_, List.mem_of_getElem? hj, rfl⟩
    · rintro q s' ⟨rfl, rfl, i, hr, hi, hpre⟩
      have ei : i = ea.size := by
        rcases Nat.lt_or_ge i ea.size with z | z
        · have e1 : ea.size - i = (ea.size - (i + 1)) + 1 := by omega
          rw [e1, List.range'_succ] at hr
          exact nomatch hr
        · exact Nat.le_antisymm hi z
      rw [ei, za, List.take_length] at hpre
      rw [yes (by rw [← za, ← zb]; exact hz) hpre] at h
      exact wpAny_pure h
theorem eq_dt {a b : Addr} {xa xb : List (K × Addr × Value)} {r : Bool} {Q : Value → Shared → Prop} (na : (a == sysModules) = false) (nb : (b == sysModules) = false) (da : s.heap.DictOfH knd a xa) (db : s.heap.DictOfH knd b xb)
    (va : ∀ x ∈ xa, x.2.2 = .bool true) (vb : ∀ x ∈ xb, x.2.2 = .bool true) (hu : A.units < cLine) (hk : knd.room A.in1) (yes : xa.length = xb.length → (∀ x ∈ xa, x.1 ∈ xb.map (·.1)) → r = true) (no1 : xa.length ≠ xb.length → r = false)
    (no2 : ∀ x ∈ xa, x.1 ∉ xb.map (·.1) → r = false) (h : Q (.bool r) s) : wpAny (model prog w) A (compareOp .Eq (.ref a) (.ref b)) Q E s := by
  have ta : s.TypeIs (.ref a) "dict" := by
    obtain ⟨o, _, _, ho, hx, _⟩ := da
    exact ⟨o, ho, hx.1⟩
  have tb : s.TypeIs (.ref b) "dict" := by
    obtain ⟨o, _, _, ho, hx, _⟩ := db
    exact ⟨o, ho, hx.1⟩
  refine wpAny_richCompare_same_room (op := .Eq) ta tb PySem.F.slot_dict_eq (wpAny_call_entry PySem.F.slot_dict_eq ta PySem.F.entry_dict_eq ?_ (PySem.F.args_dict_eq_2 _ _)) hu
  show wpAny _ _ (Builtin.Dict.dictSlotArgs "__eq__" ⟨[.ref a, .ref b], []⟩ >>= _) _ _ s
  unfold Builtin.Dict.dictSlotArgs
  refine wpAny_bind (wpAny_bind (wpAny_notOrdered_dict ta ?_))
  show wpAny _ _ (pure (Value.ref a, Value.ref b)) _ _ s
  refine wpAny_pure (wpAny_bind (wpAny_isInstance (T := "dict") tb PySem.F.sub_dict_dict ?_))
  simp only [Bool.false_eq_true, if_false, Bool.not_true]
  refine wpAny_bind (wpAny_pure (wpAny_bind (wpAny_pure (wpAny_bind (same_dt na nb da db va vb hk yes no1 no2 (wpAny_pure ⟨_, rfl, ?_, ?_⟩))))))
  · exact fun x => nomatch x
  · simpa using h
end
/-- == of the dicts of two regions -/
def rEqM : R2 := fun x y H Q => ∃ a b M N, x = .ref a ∧ y = .ref b ∧ H a = some (memO M) ∧ H b = some (memO N) ∧ Q (.bl (decide (M.length = N.length ∧ ∀ c ∈ M, c ∈ N))) H
theorem KT.all {H : Hp} {kvs : List (List L2.Key × V)} {xs : List (List L2.Key × Addr × Value)} (h : KT H kvs xs) (t : ∀ p ∈ kvs, p.2 = .bl true) : ∀ x ∈ xs, x.2.2 = .bool true := by
  induction h with
  | nil => exact fun x hx => nomatch hx
  | cons q r ih =>
    intro x hx
    rcases List.mem_cons.mp hx with e | e
    · subst e
      have z := q.2.2
      rw [t _ List.mem_cons_self] at z
      exact z
    · exact ih (fun p hp => t p (List.mem_cons_of_mem _ hp)) x e
theorem KT.keys {H : Hp} {kvs : List (List L2.Key × V)} {xs : List (List L2.Key × Addr × Value)} (h : KT H kvs xs) : xs.map (·.1) = kvs.map (·.1) := by
  induction h with
  | nil => rfl
  | cons q r ih => rw [List.map_cons, List.map_cons, ih, q.1]
theorem op_eqM {X : Cx} (hu : X.A.units + 1 < cLine) : OpR X (compareOp .Eq) rEqM := by
  intro pins s σ H x y v u Q I rx ry h
  obtain ⟨a, b, M, N, rfl, rfl, ha, hb, q⟩ := h
  obtain rfl : v = Value.ref a := rx
  obtain rfl : u = Value.ref b := ry
  obtain ⟨_, na, xa, ra, da⟩ := dt_of I.hok ha
  obtain ⟨_, nb, xb, rb, db⟩ := dt_of I.hok hb
  have tt : ∀ (L : List Cell), ∀ p ∈ L.map (fun c => (keyC c, V.bl true)), p.2 = V.bl true := fun L p hp => by
    obtain ⟨c, _, rfl⟩ := List.mem_map.mp hp
    rfl
  have ka : xa.map (·.1) = M.map keyC := by
    rw [KT.keys ra, List.map_map]
    rfl
  have kb : xb.map (·.1) = N.map keyC := by
    rw [KT.keys rb, List.map_map]
    rfl
  have la : xa.length = M.length := by
    have z := congrArg List.length ka
    rw [List.length_map, List.length_map] at z
    exact z
  have lb : xb.length = N.length := by
    have z := congrArg List.length kb
    rw [List.length_map, List.length_map] at z
    exact z
  have inN : ∀ c : Cell, keyC c ∈ xb.map (·.1) ↔ c ∈ N := fun c => by
    rw [kb]
    constructor
    · intro z
      obtain ⟨d, hd, e⟩ := List.mem_map.mp z
      rw [← keyC_inj e]
      exact hd
    · exact fun z => List.mem_map.mpr ⟨c, z, rfl⟩
  have ofA : ∀ x ∈ xa, ∃ c ∈ M, x.1 = keyC c := fun x hx => by
    have z : x.1 ∈ M.map keyC := by
      rw [← ka]
      exact List.mem_map.mpr ⟨x, hx, rfl⟩
    obtain ⟨c, hc, e⟩ := List.mem_map.mp z
    exact ⟨c, hc, e.symm⟩
  have toA : ∀ c ∈ M, ∃ x ∈ xa, x.1 = keyC c := fun c hc => by
    have z : keyC c ∈ xa.map (·.1) := by
      rw [ka]
      exact List.mem_map.mpr ⟨c, hc, rfl⟩
    exact List.mem_map.mp z
  refine eq_dt (r := decide (M.length = N.length ∧ ∀ c ∈ M, c ∈ N)) na nb da db (KT.all ra (tt M)) (KT.all rb (tt N)) (by omega) (show X.A.in1.units < cLine from hu) (fun hl hin => decide_eq_true ⟨by rw [← la, ← lb]; exact hl, fun c hc => ?_⟩)
    (fun hl => decide_eq_false fun z => hl (by rw [la, lb]; exact z.1)) (fun x hx hn => decide_eq_false fun z => ?_) ⟨.bl _, H, I, rfl, q⟩
  · obtain ⟨x, hx, e⟩ := toA c hc
    have z := hin x hx
    rw [e] at z
    exact (inN c).mp z
  · obtain ⟨c, hc, e⟩ := ofA x hx
    rw [e] at hn
    exact hn ((inN c).mpr (z.2 c hc))
end SmL
namespace SmL
open PySem PySem.Spec PyProof.Rows L2
/-! ### cells as data -/
def dC (c : Cell) : PyData := .tuple [.int c.1, .int c.2]
theorem dC_eqv (c d : Cell) : PyData.eqv (dC c) (dC d) = decide (c = d) := by
  obtain ⟨x, y⟩ := c
  obtain ⟨u, v⟩ := d
  simp [dC, PyData.eqv, PyData.eqvAll]
  rfl
theorem dC_shaped (c : Cell) : SeqAt.shaped (dC c) = true := by
  simp [dC, SeqAt.shaped, PyData.canLay0, PyData.canLayAll0, PyData.depth, PyData.depthAll]
theorem dCs_lay : ∀ M : List Cell, PyData.canLayAll0 (M.map dC) = true
  | [] => rfl
  | c :: M => by simp [PyData.canLayAll0, dC, PyData.canLay0, dCs_lay M]
theorem dCs_depth : ∀ M : List Cell, PyData.depthAll (M.map dC) ≤ 1
  | [] => by simp [PyData.depthAll]
  | c :: M => by
    have := dCs_depth M
    simp [PyData.depthAll, dC, PyData.depth]
    omega
theorem dCs_shaped (M : List Cell) : SeqAt.shaped (.list (M.map dC)) = true := by
  have := dCs_depth M
  simp [SeqAt.shaped, PyData.canLay0, dCs_lay M, PyData.depth]
  omega
theorem dCs_eqv : ∀ M N : List Cell, PyData.eqv (.list (M.map dC)) (.list (N.map dC)) = decide (M = N) := by
  have all : ∀ M N : List Cell, PyData.eqvAll (M.map dC) (N.map dC) = decide (M = N) := by
    intro M
    induction M with
    | nil =>
      intro N
      cases N <;> simp [PyData.eqvAll]
    | cons c M ih =>
      intro N
      cases N with
      | nil => simp [PyData.eqvAll]
      | cons d N =>
        rw [List.map_cons, List.map_cons]
        show (PyData.eqv (dC c) (dC d) && PyData.eqvAll (M.map dC) (N.map dC)) = _
        rw [dC_eqv, ih]
        simp
  intro M N
  simp [PyData.eqv, all]
theorem dp_cell {K : PySem.W.Frag} {H : Hp} {t : Addr} {c : Cell} (h : H t = some (CellO c)) : Dp K H (.ref t) (dC c) := .tup (SqT.of h) (.cons (.int _) (.cons (.int _) .nil))
theorem dp_cells {K : PySem.W.Frag} {H : Hp} : ∀ {ks : CL}, Tups H ks → DpAll K H (refs ks) ((cellsOf ks).map dC)
  | [], _ => .nil
  | p :: ks, t => .cons (dp_cell (t p List.mem_cons_self)) (dp_cells fun q hq => t q (List.mem_cons_of_mem _ hq))
theorem dp_list {K : PySem.W.Frag} {H : Hp} {a : Addr} {ks : CL} (h : SqL K H a (refs ks)) (t : Tups H ks) : Dp K H (.ref a) (.list ((cellsOf ks).map dC)) := .lst h (dp_cells t)
theorem hu65 {A : Around} {k : Nat} (hr : Room k A) : A.units + 65 < cLine := by
  have := hr.un
  omega
/-! ### the text -/
abbrev lBag : Stmt := top 6
abbrev lTake : Stmt := top 7
abbrev lInt : Stmt := top 8
abbrev lCell : Stmt := top 9
abbrev lCells : Stmt := top 10
abbrev lRead : Stmt := top 11
abbrev lOnce : Stmt := top 12
abbrev lSubset : Stmt := top 13
abbrev lSpot : Stmt := top 14
abbrev lSpots : Stmt := top 15
abbrev lIs : Stmt := top 16
abbrev lAgree : Stmt := top 17
abbrev lGrown : Stmt := top 18
structure LTxt (K : PySem.W.Frag) (mg : Str → Option Value) : Prop where
  isi : mg "isinstance" = none
  int : mg "int" = none
  bool : mg "bool" = none
  tup : mg "tuple" = none
  lst : mg "list" = none
  len : mg "len" = none
  srt : mg "sorted" = none
section
variable {P : Program} {w : World} {K : PySem.W.Frag} {mg : Str → Option Value} {base : Heap}
/-! ### what is a cell -/
def spInt : Sp := fun vs H Q _ => ∃ n, vs = [.int n] ∧ Q (.bl true) H
theorem scInt : FnScope ["_law_value"] ["_law_value"] (defScope lInt) := ⟨rfl, rfl, rfl, by decide +kernel, rfl, by decide +kernel, by decide +kernel⟩
theorem ok_int {f : Addr} {fd : FuncData} (F : Fun K "_law_is_int" "_law_is_int" lInt f fd) (T : LTxt K mg) : FnOk P w K mg base CX0 1 f fd ["_law_value"] spInt := by
  refine F.ok scInt (fun vs H Q E h => ?_) (fun cdv A outer s H vs Q E hr h => ?_)
  · obtain ⟨n, rfl, _⟩ := h
    rfl
  · obtain ⟨n, rfl, q⟩ := h
    refine ⟨_, pss_one (ps_ret (pe_and (pe_callB call_isi (by rfl) T.isi (by decide +kernel) (pa_cons (pv 0) (pa_cons (pe_bltn (v := .ty "int") (by rfl) T.int (by decide +kernel) rfl) pa_nil)))
      (pe_one (pe_not (pe_callB call_isi (by rfl) T.isi (by decide +kernel) (pa_cons (pv 0) (pa_cons (pe_bltn (v := .ty "bool") (by rfl) T.bool (by decide +kernel) rfl) pa_nil))))))), ?_⟩
    refine ⟨_, rfl, .int n, .ty "int", .type "int", .type "int", true, rfl, .ty _, .base (.int n), kit_ty (by decide +kernel), true, rfl, ?_⟩
    exact ⟨_, rfl, .int n, .ty "bool", .type "int", .type "bool", false, rfl, .ty _, .base (.int n), kit_ty (by decide +kernel), false, rfl, q⟩
def spCell : Sp := fun vs H Q _ => ∃ t c, vs = [.ref t] ∧ H t = some (CellO c) ∧ Q (.bl true) H
theorem scCell : FnScope ["_law_value"] ["_law_value"] (defScope lCell) := ⟨rfl, rfl, rfl, by decide +kernel, rfl, by decide +kernel, by decide +kernel⟩
theorem ok_cell {f g : Addr} {fd gd : FuncData} (F : Fun K "_law_is_cell" "_law_is_cell" lCell f fd) (G : Fun K "_law_is_int" "_law_is_int" lInt g gd) (bG : Binds K gd ["_law_value"] []) (gG : mg "_law_is_int" = some (.ref g)) (T : LTxt K mg) :
    FnOk P w K mg base CX0 2 f fd ["_law_value"] spCell := by
  have OG : FnOk P w K mg base CX0 1 g gd ["_law_value"] spInt := ok_int G T
  refine F.ok scCell (fun vs H Q E h => ?_) (fun cdv A outer s H vs Q E hr h => ?_)
  · obtain ⟨t, c, rfl, _⟩ := h
    rfl
  · obtain ⟨t, c, rfl, ht, q⟩ := h
    refine ⟨_, pss_one (ps_ret (pe_and (pe_callB call_isi (by rfl) T.isi (by decide +kernel) (pa_cons (pv 0) (pa_cons (pe_bltn (v := .ty "tuple") (by rfl) T.tup (by decide +kernel) rfl) pa_nil)))
      (pe_and (pe_cmpR op_eq (pe_callB call_len_seq (by rfl) T.len PySem.boot_len (pa_cons (pv 0) pa_nil)) pe_int (nomark _))
      (pe_and (pe_call OG hr (by rfl) gG G.kp bG .nil pass0 (pa_cons (pe_ix ix_tup (pv 0) pe_int (fun _ _ => rfl)) pa_nil))
      (pe_one (pe_call OG hr (by rfl) gG G.kp bG .nil pass0 (pa_cons (pe_ix ix_tup (pv 0) pe_int (fun _ _ => rfl)) pa_nil))))))), ?_⟩
    refine ⟨_, rfl, .ref t, .ty "tuple", .type "tuple", .type "tuple", true, rfl, .ty _, .base (.tup ht), kit_ty (by decide +kernel), true, rfl, ?_⟩
    refine ⟨_, rfl, t, _, rfl, .inr (SqT.of ht), rfl, true, rfl, ?_⟩
    refine ⟨_, rfl, t, _, 0, _, rfl, rfl, SqT.of ht, rfl, _, rfl, true, rfl, ?_⟩
    exact ⟨_, rfl, t, _, 1, _, rfl, rfl, SqT.of ht, rfl, _, rfl, q⟩
def spCells : Sp := fun vs H Q _ => ∃ a ks, vs = [.ref a] ∧ H a = some (.lst (refs ks)) ∧ Tups H ks ∧ Q (.bl true) H
theorem scCells : FnScope ["_law_value", "_law_cell"] ["_law_value"] (defScope lCells) := ⟨rfl, rfl, rfl, by decide +kernel, rfl, by decide +kernel, by decide +kernel⟩
theorem ok_cells {f g : Addr} {fd gd : FuncData} (F : Fun K "_law_is_cells" "_law_is_cells" lCells f fd) (G : Fun K "_law_is_cell" "_law_is_cell" lCell g gd) (OG : FnOk P w K mg base CX0 2 g gd ["_law_value"] spCell) (bG : Binds K gd ["_law_value"] [])
    (gG : mg "_law_is_cell" = some (.ref g)) (T : LTxt K mg) : FnOk P w K mg base CX0 3 f fd ["_law_value"] spCells := by
  refine F.ok scCells (fun vs H Q E h => ?_) (fun cdv A outer s H vs Q E hr h => ?_)
  · obtain ⟨a, ks, rfl, _⟩ := h
    rfl
  · obtain ⟨a, ks, rfl, ha, ht, q⟩ := h
    refine ⟨_, pss_cons (ps_if (pt_not (pt_val (pe_callB call_isi (by rfl) T.isi (by decide +kernel) (pa_cons (pv 0) (pa_cons (pe_bltn (v := .ty "list") (by rfl) T.lst (by decide +kernel) rfl) pa_nil))))) (pss_one (ps_ret pe_bl)) pss_nil)
      (pss_cons (ps_for PassesOwn.never rfl (pi_list (pv 0)) (pg_name (i := 1) scCells.nd rfl (.inl rfl))
        (pss_one (ps_if (pt_not (pt_val (pe_call OG hr (by rfl) gG G.kp bG .nil pass0 (pa_cons (pv 1) pa_nil)))) (pss_one (ps_ret pe_bl)) pss_nil)))
      (pss_one (ps_ret pe_bl))), ?_⟩
    refine ⟨_, rfl, .ref a, .ty "list", .type "list", .type "list", true, rfl, .ty _, .base (.lst ha), kit_ty (by decide +kernel), true, rfl, iteF ?_⟩
    refine ⟨_, rfl, a, rfl, ⟨_, SqL.of ha⟩, for_list (K := K) (a := a) (xs := refs ks) (fun i σ G => ∃ y, σ = [some (.ref a), y] ∧ G = H) ⟨_, rfl, rfl⟩ (fun i σ G _ ⟨_, _, e⟩ => by rw [e]; exact SqL.of ha) ?_ ?_⟩
    · rintro i x σ G hx ⟨y, rfl, rfl⟩
      obtain ⟨t, c, hi, rfl⟩ := refs_at hx
      exact ⟨_, rfl, t, c, rfl, ht _ (List.mem_of_getElem? hi), true, rfl, iteF ⟨_, rfl, rfl⟩⟩
    · rintro σ G ⟨y, rfl, rfl⟩
      exact q
end
end SmL
namespace SmL
open PySem PySem.Spec PyProof.Rows L2 SrtO
/-! ### lists of cells by their values -/
theorem cl_of {H : Hp} : ∀ {ys : List V}, (∀ y ∈ ys, ∃ t c, y = .ref t ∧ H t = some (CellO c)) → ∃ ks : CL, refs ks = ys ∧ Tups H ks
  | [], _ => ⟨[], rfl, fun p hp => nomatch hp⟩
  | y :: ys, h => by
    obtain ⟨t, c, e, ht⟩ := h y List.mem_cons_self
    obtain ⟨ks, e2, hk⟩ := cl_of fun z hz => h z (List.mem_cons_of_mem _ hz)
    refine ⟨(t, c) :: ks, ?_, fun p hp => ?_⟩
    · show V.ref t :: refs ks = y :: ys
      rw [e2, e]
    · rcases List.mem_cons.mp hp with z | z
      · rw [z]
        exact ht
      · exact hk p z
/-- the cell that stands at a value -/
def kH (H : Hp) (x : V) : Cell := match x with
  | .ref t => match H t with
    | some (.tup [.int a, .int b]) => (a, b)
    | _ => (0, 0)
  | _ => (0, 0)
theorem kH_at {H : Hp} {t : Addr} {c : Cell} (h : H t = some (CellO c)) : kH H (.ref t) = c := by
  show (match H t with
    | some (.tup [.int a, .int b]) => ((a, b) : Cell)
    | _ => (0, 0)) = c
  rw [h]
  rfl
theorem kH_refs {H : Hp} : ∀ {ks : CL}, Tups H ks → (refs ks).map (kH H) = cellsOf ks
  | [], _ => rfl
  | p :: ks, t => by
    show kH H (.ref p.1) :: (refs ks).map (kH H) = p.2 :: cellsOf ks
    rw [kH_at (t p List.mem_cons_self), kH_refs fun q hq => t q (List.mem_cons_of_mem _ hq)]
theorem refs_len (ks : CL) : (refs ks).length = ks.length := List.length_map _
theorem cells_len (ks : CL) : (cellsOf ks).length = ks.length := List.length_map _
theorem cellsOf_take (ks : CL) (n : Nat) : cellsOf (ks.take n) = (cellsOf ks).take n := List.map_take
theorem refs_take (ks : CL) (n : Nat) : refs (ks.take n) = (refs ks).take n := List.map_take
def flip1 (c : Cell) : Cell := (c.2, c.1)
theorem flip1_inj {c d : Cell} (h : flip1 c = flip1 d) : c = d := by
  obtain ⟨x, y⟩ := c
  obtain ⟨u, v⟩ := d
  injection h with h1 h2
  exact Prod.ext h2 h1
section
variable {P : Program} {w : World} {K : PySem.W.Frag} {mg : Str → Option Value} {base : Heap}
/-! ### in reading order -/
def spRead (K : PySem.W.Frag) : Sp := fun vs H Q _ => ∃ a ks, vs = [.ref a] ∧ SqL K H a (refs ks) ∧ Tups H ks ∧ (cellsOf ks).Nodup ∧ ks.length ≤ 1000 ∧
  ∀ p ms H', Same H H' → H p = none → H' p = some (.lst (refs ms)) → Tups H' ms → Reading (cellsOf ks) (cellsOf ms) → Q (.ref p) H'
abbrev nRead : List Str := ["_law_cells", "_law_pair", "_law_cell"]
theorem scRead : FnScope nRead ["_law_cells"] (defScope lRead) := ⟨rfl, rfl, rfl, by decide +kernel, rfl, by decide +kernel, by decide +kernel⟩
theorem ok_read {f : Addr} {fd : FuncData} (F : Fun K "_law_reading" "_law_reading" lRead f fd) (T : LTxt K mg) : FnOk P w K mg base CX0 1 f fd ["_law_cells"] (spRead K) := by
  refine F.ok scRead (fun vs H Q E h => ?_) (fun cdv A outer s H vs Q E hr h => ?_)
  · obtain ⟨a, ks, rfl, _⟩ := h
    rfl
  · obtain ⟨a, ks, rfl, ha, ht, nd, few, k⟩ := h
    refine ⟨_, pss_one (ps_ret (pe_lc (own := [("_law_pair", 1)]) (g := gName 1) (tt := tYes) (te := tTup (tCons (tOp (rIxT K) (tVar 1) (tC (.int 1))) (tCons (tOp (rIxT K) (tVar 1) (tC (.int 0))) tNil))) rfl scRead.nd
      (pi_list (pe_callB cr_sortedPO (by rfl) T.srt (by decide +kernel) (pa_cons (pe_lc (own := [("_law_cell", 2)]) (g := gName 2) (tt := tYes) (te := tTup (tCons (tOp (rIxT K) (tVar 2) (tC (.int 1))) (tCons (tOp (rIxT K) (tVar 2) (tC (.int 0))) tNil))) rfl scRead.nd (pi_list (pv 0))
        (blkOk_by (own := [("_law_cell", 2)]) (N := nRead) (sc := defScope lRead) (by decide +kernel)) (fun _ _ _ _ _ => pg_name (i := 2) scRead.nd rfl (Or.inl rfl)) (fun _ _ _ _ _ => pts_nil)
        (fun _ _ _ _ _ => pe_tup (pa_cons (pe_ix ix_tup (pv 2) pe_int (fun _ _ => rfl)) (pa_cons (pe_ix ix_tup (pv 2) pe_int (fun _ _ => rfl)) pa_nil)))) pa_nil)))
      (blkOk_by (own := [("_law_pair", 1)]) (N := nRead) (sc := defScope lRead) (by decide +kernel)) (fun _ _ _ _ _ => pg_name (i := 1) scRead.nd rfl (Or.inl rfl)) (fun _ _ _ _ _ => pts_nil)
      (fun _ _ _ _ _ => pe_tup (pa_cons (pe_ix ix_tup (pv 1) pe_int (fun _ _ => rfl)) (pa_cons (pe_ix ix_tup (pv 1) pe_int (fun _ _ => rfl)) pa_nil))))), ?_⟩
    refine ⟨_, rfl, a, rfl, ⟨_, ha⟩, fun D nD => lc_list (K := K) (a := a) (xs := refs ks) (fun i G => Same H G ∧ ∃ ms, G D = some (.lst (refs ms)) ∧ Tups G ms ∧ cellsOf ms = ((cellsOf ks).take i).map flip1)
      ⟨same_upd nD, [], upd_same, (fun p hp => nomatch hp), rfl⟩ (fun i G _ ⟨sm, _⟩ => sm.seq ha) ?_ ?_⟩
    · rintro i x G hx ⟨sm, ms, hD, hm, em⟩
      obtain ⟨t, c, hi, rfl⟩ := refs_at hx
      have htc : G t = some (CellO c) := sm _ _ (ht _ (List.mem_of_getElem? hi))
      refine ⟨rfl, tyes (iteT ⟨_, rfl, t, _, 1, _, rfl, rfl, SqT.of htc, rfl, _, rfl, t, _, 0, _, rfl, rfl, SqT.of htc, rfl, (by show 2 ≤ sizeLine; decide), fun T' nT => ?_⟩)⟩
      have lm : ms.length ≤ 1000 := by
        have z := congrArg List.length em
        rw [cells_len, List.length_map, List.length_take, cells_len] at z
        omega
      have hci : (cellsOf ks)[i]? = some c := by
        unfold cellsOf
        rw [List.getElem?_map, hi]
        rfl
      have nDT : D ≠ T' := ne_of_none hD nT
      refine ⟨refs ms, (same_upd nT) _ _ hD, ?_, fun b o e => ?_, ms ++ [(T', flip1 c)], ?_, fun p hp => ?_, ?_⟩
      · rw [refs_len]
        exact small1000 lm
      · rw [upd_ne (ne_of_none e nD)]
        exact (same_upd nT) _ _ (sm _ _ e)
      · rw [upd_same]
        unfold refs
        rw [List.map_append]
        rfl
      · rcases List.mem_append.mp hp with z | z
        · have g := hm p z
          rw [upd_ne (ne_of g hD (by intro q; cases q))]
          exact (same_upd nT) _ _ g
        · have ep : p = (T', flip1 c) := by simpa using z
          rw [ep, upd_ne nDT.symm]
          exact upd_same
      · rw [List.take_add_one, hci, List.map_append, ← em]
        unfold cellsOf
        rw [List.map_append]
        rfl
    · rintro G ⟨sm, ms, hD, hm, em⟩
      rw [refs_len, List.take_of_length_le (by rw [cells_len]; exact Nat.le_refl _)] at em
      refine ⟨D, refs ms, kH G, rfl, SqL.of hD, fun x hx => ?_, fun ys p srt stb np => ?_⟩
      · obtain ⟨j, hj, e⟩ := List.getElem_of_mem hx
        obtain ⟨t, c, hi, e2⟩ := refs_at (show (refs ms)[j]? = some x by rw [List.getElem?_eq_getElem hj, e])
        have g := hm _ (List.mem_of_getElem? hi)
        refine ⟨t, e2, ?_⟩
        rw [e2, kH_at g]
        exact g
      · have sp := same_upd (o := .lst ys) np
        obtain ⟨qs, eq, hq⟩ := cl_of (H := G) (ys := ys) fun y hy => by
          obtain ⟨j, hj, e⟩ := List.getElem_of_mem (stb.perm.mem_iff.mp hy)
          obtain ⟨t, c, hi, e2⟩ := refs_at (show (refs ms)[j]? = some y by rw [List.getElem?_eq_getElem hj, e])
          exact ⟨t, c, e2, hm _ (List.mem_of_getElem? hi)⟩
        have pmc : (cellsOf qs).Perm (cellsOf ms) := by
          rw [← kH_refs hq, ← kH_refs hm, eq]
          exact stb.perm.map _
        have lq : qs.length = ks.length := by
          have z := pmc.length_eq
          rw [cells_len, em, List.length_map, cells_len] at z
          exact z
        have ascq : (cellsOf qs).Pairwise (fun x y => lexB y x = false) := by
          rw [← kH_refs hq, eq]
          exact List.pairwise_map.mpr srt
        have ndq : (cellsOf qs).Nodup := by
          refine pmc.nodup_iff.mpr ?_
          rw [em]
          exact List.pairwise_map.mpr (List.Pairwise.imp (fun {x y} (hne : x ≠ y) => show flip1 x ≠ flip1 y from fun e => hne (flip1_inj e)) nd)
        have rd : Reading (cellsOf ks) ((cellsOf qs).map flip1) := by
          refine ⟨flip_asc ndq ascq, fun c => ?_⟩
          rw [List.mem_map]
          constructor
          · rintro ⟨d, hd, rfl⟩
            have z := pmc.mem_iff.mp hd
            rw [em] at z
            obtain ⟨e, he, rfl⟩ := List.mem_map.mp z
            exact he
          · intro hc
            refine ⟨flip1 c, pmc.mem_iff.mpr ?_, rfl⟩
            rw [em]
            exact List.mem_map.mpr ⟨c, hc, rfl⟩
        refine ⟨p, rfl, ⟨_, SqL.of upd_same⟩, fun D2 nD2 => lc_list (K := K) (a := p) (xs := ys) (fun i G2 => Same (upd G p (.lst ys)) G2 ∧ ∃ rs, G2 D2 = some (.lst (refs rs)) ∧ Tups G2 rs ∧ cellsOf rs = ((cellsOf qs).take i).map flip1)
          ⟨same_upd nD2, [], upd_same, (fun p hp => nomatch hp), rfl⟩ (fun i G2 _ ⟨s2, _⟩ => SqL.of (s2 _ _ upd_same)) ?_ ?_⟩
        · rintro i x G2 hx ⟨s2, rs, hD2, hrs, ers⟩
          rw [← eq] at hx
          obtain ⟨t, c, hi, rfl⟩ := refs_at hx
          have htc : G2 t = some (CellO c) := s2 _ _ (sp _ _ (hq _ (List.mem_of_getElem? hi)))
          refine ⟨rfl, tyes (iteT ⟨_, rfl, t, _, 1, _, rfl, rfl, SqT.of htc, rfl, _, rfl, t, _, 0, _, rfl, rfl, SqT.of htc, rfl, (by show 2 ≤ sizeLine; decide), fun T' nT => ?_⟩)⟩
          have lm : rs.length ≤ 1000 := by
            have z := congrArg List.length ers
            rw [cells_len, List.length_map, List.length_take, cells_len] at z
            omega
          have hci : (cellsOf qs)[i]? = some c := by
            unfold cellsOf
            rw [List.getElem?_map, hi]
            rfl
          have nDT : D2 ≠ T' := ne_of_none hD2 nT
          refine ⟨refs rs, (same_upd nT) _ _ hD2, ?_, fun b o e => ?_, rs ++ [(T', flip1 c)], ?_, fun p hp => ?_, ?_⟩
          · rw [refs_len]
            exact small1000 lm
          · rw [upd_ne (ne_of_none e nD2)]
            exact (same_upd nT) _ _ (s2 _ _ e)
          · rw [upd_same]
            unfold refs
            rw [List.map_append]
            rfl
          · rcases List.mem_append.mp hp with z | z
            · have g := hrs p z
              rw [upd_ne (ne_of g hD2 (by intro q; cases q))]
              exact (same_upd nT) _ _ g
            · have ep : p = (T', flip1 c) := by simpa using z
              rw [ep, upd_ne nDT.symm]
              exact upd_same
          · rw [List.take_add_one, hci, List.map_append, ← ers]
            unfold cellsOf
            rw [List.map_append]
            rfl
        · rintro G2 ⟨s2, rs, hD2, hrs, ers⟩
          rw [← eq, refs_len, List.take_of_length_le (by rw [cells_len]; exact Nat.le_refl _)] at ers
          have sAll : Same H G2 := fun b o e => s2 _ _ (sp _ _ (sm _ _ e))
          have n2 : H D2 = none := by
            have z := nD2
            cases e : H D2 with
            | none => rfl
            | some o =>
              rw [sp _ _ (sm _ _ e)] at z
              cases z
          exact k D2 rs G2 sAll n2 hD2 hrs (by rw [ers]; exact rd)
end
end SmL
namespace SmL
open PySem PySem.Spec PyProof.Rows L2 Sm
theorem cut_to (xs : List V) (n : Nat) : cutV xs none (some (n : Int)) = xs.take n := by
  unfold cutV
  rw [HT.sIx_none, HT.sIx_nat, List.drop_zero, Nat.sub_zero]
  rcases Nat.le_total n xs.length with h | h
  · rw [Nat.min_eq_left h]
  · rw [Nat.min_eq_right h, List.take_of_length_le (Nat.le_refl _), List.take_of_length_le h]
section
variable {P : Program} {w : World} {K : PySem.W.Frag} {mg : Str → Option Value} {base : Heap}
/-! ### each once -/
def spOnce (K : PySem.W.Frag) : Sp := fun vs H Q _ => ∃ a ks, vs = [.ref a] ∧ SqL K H a (refs ks) ∧ Tups H ks ∧ ks.length ≤ 1000 ∧
  ∀ p ms H', Same H H' → H p = none → H' p = some (.lst (refs ms)) → Tups H' ms → (cellsOf ms).Nodup → (∀ c, c ∈ cellsOf ms ↔ c ∈ cellsOf ks) → ms.length ≤ ks.length → Q (.ref p) H'
theorem scOnce : FnScope ["_law_cells", "_law_found", "_law_cell"] ["_law_cells"] (defScope lOnce) := ⟨rfl, rfl, rfl, by decide +kernel, rfl, by decide +kernel, by decide +kernel⟩
theorem ok_once {f : Addr} {fd : FuncData} (F : Fun K "_law_once" "_law_once" lOnce f fd) : FnOk P w K mg base CX0 1 f fd ["_law_cells"] (spOnce K) := by
  refine F.ok scOnce (fun vs H Q E h => ?_) (fun cdv A outer s H vs Q E hr h => ?_)
  · obtain ⟨a, ks, rfl, _⟩ := h
    rfl
  · obtain ⟨a, ks, rfl, ha, ht, few, k⟩ := h
    refine ⟨_, pss_cons (ps_set (i := 1) scOnce.nd rfl (.inl rfl) (pe_lst pa_nil))
      (pss_cons (ps_for PassesOwn.never rfl (pi_list (pv 0)) (pg_name (i := 2) scOnce.nd rfl (.inl rfl))
        (pss_one (ps_if (pt_cmpR (op_notInD (hu65 hr)) (pv 2) (pv 1) (by rfl)) (pss_one (ps_expr (pe_bm PySem.F.plainAttrs_list PySem.F.slot_list_append PySem.F.type_list_append mt_append (pv 1) (pa_cons (pv 2) pa_nil)))) pss_nil)))
      (pss_one (ps_ret (pv 1)))), ?_⟩
    refine ⟨Nat.zero_le _, fun o no => ?_⟩
    refine ⟨_, rfl, a, rfl, ⟨_, (same_upd no).seq ha⟩, for_list (K := K) (a := a) (xs := refs ks) (fun i σ G => ∃ y ms, σ = [some (.ref a), some (.ref o), y] ∧ Same H G ∧ G o = some (.lst (refs ms)) ∧ Tups G ms ∧ (cellsOf ms).Nodup ∧
      (∀ c, c ∈ cellsOf ms ↔ c ∈ (cellsOf ks).take i) ∧ ms.length ≤ i ∧ ms.length ≤ 1000) ⟨_, [], rfl, same_upd no, upd_same, (fun p hp => nomatch hp), List.nodup_nil, (fun c => ⟨fun z => (nomatch z), fun z => (nomatch z)⟩), Nat.zero_le _, Nat.zero_le _⟩ (fun i σ G _ ⟨_, _, _, sm, _⟩ => sm.seq ha) ?_ ?_⟩
    · rintro i x σ G hx ⟨y, ms, rfl, sm, ho, hm, nd, hk, hl, hl2⟩
      obtain ⟨t, c, hi, rfl⟩ := refs_at hx
      have htc : G t = some (CellO c) := sm _ _ (ht _ (List.mem_of_getElem? hi))
      have hci : (cellsOf ks)[i]? = some c := by
        unfold cellsOf
        rw [List.getElem?_map, hi]
        rfl
      have hi2 : i < ks.length := (List.getElem?_eq_some_iff.mp hi).1
      have hany : (((cellsOf ms).map dC).any fun z => PyData.eqv z (dC c)) = decide (c ∈ cellsOf ms) := by
        rw [List.any_map]
        by_cases z : c ∈ cellsOf ms
        · rw [decide_eq_true z, List.any_eq_true]
          exact ⟨c, z, by show PyData.eqv (dC c) (dC c) = true; rw [dC_eqv]; exact decide_eq_true rfl⟩
        · rw [decide_eq_false z, List.any_eq_false]
          intro d hd
          show ¬ PyData.eqv (dC d) (dC c) = true
          rw [dC_eqv]
          intro e
          exact z (by rw [← of_decide_eq_true e]; exact hd)
      refine ⟨_, rfl, _, rfl, dC c, (cellsOf ms).map dC, dp_cell htc, dp_list (SqL.of ho) hm, dC_shaped c, dCs_shaped _, ?_⟩
      rw [hany]
      refine ⟨_, rfl, ite2 (fun e => ?_) (fun e => ?_)⟩
      · have nin : c ∉ cellsOf ms := fun z => by
          rw [decide_eq_true z] at e
          cases e
        refine ⟨_, rfl, .inl ⟨rfl, _, SqL.of ho⟩, _, rfl, o, _, _, rfl, rfl, ho, ?_, ?_⟩
        · rw [refs_len]
          exact small1000 hl2
        · refine ⟨_, ms ++ [(t, c)], rfl, fun b u eb => ?_, ?_, fun p hp => ?_, ?_, fun d => ?_, ?_, ?_⟩
          · rw [upd_ne (ne_of_none eb no)]
            exact sm _ _ eb
          · rw [upd_same]
            unfold refs
            rw [List.map_append]
            rfl
          · rcases List.mem_append.mp hp with z | z
            · have g := hm p z
              rw [upd_ne (ne_of g ho (by intro q; cases q))]
              exact g
            · have ep : p = (t, c) := by simpa using z
              rw [ep, upd_ne (ne_of htc ho (by intro q; cases q))]
              exact htc
          · unfold cellsOf
            rw [List.map_append]
            refine List.nodup_append.mpr ⟨nd, by simp, fun x hx y hy e2 => ?_⟩
            have ey : y = c := by simpa using hy
            rw [e2, ey] at hx
            exact nin hx
          · rw [List.take_add_one, hci]
            unfold cellsOf at hk ⊢
            rw [List.map_append, List.mem_append, List.mem_append, hk d]
            exact Iff.rfl
          · rw [List.length_append]
            show ms.length + 1 ≤ i + 1
            omega
          · rw [List.length_append]
            show ms.length + 1 ≤ 1000
            omega
      · have yin : c ∈ cellsOf ms := by
          by_cases z : c ∈ cellsOf ms
          · exact z
          · rw [decide_eq_false z] at e
            exact absurd rfl e
        refine ⟨_, ms, rfl, sm, ho, hm, nd, fun d => ?_, by omega, hl2⟩
        rw [List.take_add_one, hci, List.mem_append, ← hk d]
        exact ⟨.inl, fun z => z.elim id fun z => by
          have ed : d = c := by simpa using z
          rw [ed]
          exact yin⟩
    · rintro σ G ⟨y, ms, rfl, sm, ho, hm, nd, hk, hl, hl2⟩
      rw [refs_len] at hl hk
      rw [List.take_of_length_le (by rw [cells_len]; exact Nat.le_refl _)] at hk
      exact ⟨_, rfl, k o ms G sm no ho hm nd hk hl⟩
/-! ### drawn cells -/
/-- no coordinate is large -/
def Small (c : Cell) : Prop := -100000000000000 ≤ c.1 ∧ c.1 ≤ 100000000000000 ∧ -100000000000000 ≤ c.2 ∧ c.2 ≤ 100000000000000
def spSpot : Sp := fun vs H Q _ => ∃ b l, vs = [.ref b] ∧ BagL H b l ∧ ∀ t c H', Small c → SameBut b H H' → BagL H' b l → H t = none → H' t = some (CellO c) → Q (.ref t) H'
theorem scSpot : FnScope ["_law_bag_here", "_law_cx", "_law_cy"] ["_law_bag_here"] (defScope lSpot) := ⟨rfl, rfl, rfl, by decide +kernel, rfl, by decide +kernel, by decide +kernel⟩
theorem bag_upd {H : Hp} {b l t : Addr} {o : HO} (h : BagL H b l) (n : H t = none) : BagL (upd H t o) b l := by
  obtain ⟨ns, i, p, q, hb, hl, r⟩ := h
  exact ⟨ns, i, p, q, by rw [upd_ne (ne_of_none hb n)]; exact hb, by rw [upd_ne (ne_of_none hl n)]; exact hl, r⟩
theorem ok_spot {f g : Addr} {fd gd : FuncData} (F : Fun K "_law_spot" "_law_spot" lSpot f fd) (OT : FnOk P w K mg base CX0 1 g gd ["_law_bag_here", "_law_size"] spTake) (kT : PySem.W.keepIn K (.ref g) = true) (bT : Binds K gd ["_law_bag_here", "_law_size"] [])
    (gT : mg "_law_take" = some (.ref g)) : FnOk P w K mg base CX0 2 f fd ["_law_bag_here"] spSpot := by
  refine F.ok scSpot (fun vs H Q E h => ?_) (fun cdv A outer s H vs Q E hr h => ?_)
  · obtain ⟨b, l, rfl, _⟩ := h
    rfl
  · obtain ⟨b, l, rfl, hb, k⟩ := h
    refine ⟨_, pss_cons (ps_set (i := 1) scSpot.nd rfl (.inl rfl) (pe_op op_sub (pe_call OT hr (by rfl) gT kT bT .nil pass0 (pa_cons (pv 0) (pa_cons pe_int pa_nil))) pe_int))
      (pss_cons (ps_set (i := 2) scSpot.nd rfl (.inl rfl) (pe_op op_sub (pe_call OT hr (by rfl) gT kT bT .nil pass0 (pa_cons (pv 0) (pa_cons pe_int pa_nil))) pe_int))
      (pss_cons (ps_if (pt_cmpR op_eq (pe_call OT hr (by rfl) gT kT bT .nil pass0 (pa_cons (pv 0) (pa_cons pe_int pa_nil))) pe_int (nomark _))
        (pss_one (ps_set (i := 1) scSpot.nd rfl (.inl rfl) (pe_op op_mul (pv 1) (pe_op op_pow pe_int pe_int)))) pss_nil)
      (pss_one (ps_ret (pe_tup (pa_cons (pv 1) (pa_cons (pv 2) pa_nil))))))), ?_⟩
    refine ⟨_, rfl, b, l, 18, rfl, hb, by decide, by decide, fun n1 H1 p1 q1 s1 b1 => ⟨_, _, rfl, rfl, ?_⟩⟩
    refine ⟨_, rfl, b, l, 18, rfl, b1, by decide, by decide, fun n2 H2 p2 q2 s2 b2 => ⟨_, _, rfl, rfl, ?_⟩⟩
    refine ⟨_, rfl, b, l, 6, rfl, b2, by decide, by decide, fun n3 H3 p3 q3 s3 b3 => ⟨rfl, _, rfl, ?_⟩⟩
    have all : ∀ a o, a ≠ b → H a = some o → H3 a = some o := fun a o ha e => by
      rw [s3 a ha, s2 a ha, s1 a ha]
      exact e
    have back : ∀ t, H3 t = none → H t = none := fun t e => by
      by_cases et : t = b
      · rw [et] at e
        obtain ⟨_, _, _, _, hb3, _⟩ := b3
        rw [hb3] at e
        cases e
      · cases z : H t with
        | none => rfl
        | some o =>
          rw [all t o et z] at e
          cases e
    have fin : ∀ c : Cell, Small c → ∀ t, H3 t = none → Q (.ref t) (upd H3 t (.tup [.int c.1, .int c.2])) := fun c hc t nt =>
      k t c _ hc (fun a o ha e => by
        rw [upd_ne (ne_of_none (all a o ha e) nt)]
        exact all a o ha e) (bag_upd b3 nt) (back t nt) upd_same
    refine ite2 (fun _ => ?_) (fun _ => ?_)
    · refine ⟨_, rfl, _, _, rfl, rfl, ⟨by decide, by decide, by decide⟩, _, _, rfl, rfl, .inl ⟨by omega, by omega⟩, ?_⟩
      exact ⟨_, rfl, _, rfl, (by show 2 ≤ sizeLine; decide), fun t nt => fin ((n1 - 5) * 1000000000000, n2 - 5) ⟨by show -100000000000000 ≤ (n1 - 5) * 1000000000000; omega, by show (n1 - 5) * 1000000000000 ≤ 100000000000000; omega, by show -100000000000000 ≤ n2 - 5; omega, by show n2 - 5 ≤ 100000000000000; omega⟩ t nt⟩
    · exact ⟨_, rfl, _, rfl, (by show 2 ≤ sizeLine; decide), fun t nt => fin (n1 - 5, n2 - 5) ⟨by show -100000000000000 ≤ n1 - 5; omega, by show n1 - 5 ≤ 100000000000000; omega, by show -100000000000000 ≤ n2 - 5; omega, by show n2 - 5 ≤ 100000000000000; omega⟩ t nt⟩
/-! ### the bag -/
def spBag (K : PySem.W.Frag) : Sp := fun vs H Q _ => ∃ (a : Addr) (ns : List Int), vs = [.ref a] ∧ SqL K H a (ns.map V.int) ∧ ns.length ≤ 63 ∧ ∀ b l H', Same H H' → H b = none → BagL H' b l → Q (.ref b) H'
abbrev nBag : List Str := ["_law_script", "_law_cell"]
theorem scBag : FnScope nBag ["_law_script"] (defScope lBag) := ⟨rfl, rfl, rfl, by decide +kernel, rfl, by decide +kernel, by decide +kernel⟩
theorem ok_bag {f : Addr} {fd : FuncData} (F : Fun K "_law_bag" "_law_bag" lBag f fd) (T : LTxt K mg) : FnOk P w K mg base CX0 1 f fd ["_law_script"] (spBag K) := by
  refine F.ok scBag (fun vs H Q E h => ?_) (fun cdv A outer s H vs Q E hr h => ?_)
  · obtain ⟨a, ns, rfl, _⟩ := h
    rfl
  · obtain ⟨a, ns, rfl, ha, few, k⟩ := h
    refine ⟨_, pss_one (ps_ret (pe_lst (pa_cons (pe_lc (own := [("_law_cell", 1)]) (g := gName 1) (tt := tYes) rfl scBag.nd (pi_list (pe_slice sl_list (pv 0) po_none (po_some pe_int)))
      (blkOk_by (own := [("_law_cell", 1)]) (N := nBag) (sc := defScope lBag) (by decide +kernel)) (fun _ _ _ _ _ => pg_name (i := 1) scBag.nd rfl (Or.inl rfl)) (fun _ _ _ _ _ => pts_nil)
      (fun _ _ _ _ _ => pe_callTy call_int1 (by rfl) T.int (by decide +kernel) (pa_cons (pv 1) pa_nil))) (pa_cons pe_int (pa_cons pe_int (pa_cons pe_int pa_nil)))))), ?_⟩
    refine ⟨_, rfl, 63, rfl, a, _, rfl, ha, fun q nq => ?_⟩
    have ec : cutV (ns.map V.int) none (some 63) = ns.map V.int := by
      rw [show (some 63 : Option Int) = some ((63 : Nat) : Int) from rfl, cut_to, List.take_of_length_le (by rw [List.length_map]; exact few)]
    rw [ec]
    have s1 := same_upd (o := .lst (ns.map V.int)) nq
    refine ⟨q, rfl, ⟨_, SqL.of upd_same⟩, fun D nD => lc_list (K := K) (a := q) (xs := ns.map V.int) (fun i G => Same (upd H q (.lst (ns.map V.int))) G ∧ G D = some (.lst ((ns.take i).map V.int))) ⟨same_upd nD, upd_same⟩ (fun i G _ ⟨sm, _⟩ => SqL.of (sm _ _ upd_same)) ?_ ?_⟩
    · rintro i x G hx ⟨sm, hD⟩
      rw [List.getElem?_map] at hx
      cases e : ns[i]? with
      | none =>
        rw [e] at hx
        cases hx
      | some n =>
        rw [e] at hx
        cases hx
        refine ⟨rfl, tyes (iteT ⟨_, rfl, .inl ⟨n, rfl, _, hD, ?_, fun b o eb => ?_, ?_⟩⟩)⟩
        · rw [List.length_map, List.length_take]
          exact small1000 (by omega)
        · rw [upd_ne (ne_of_none eb nD)]
          exact sm _ _ eb
        · rw [upd_same, List.take_add_one, e, List.map_append]
          rfl
    · rintro G ⟨sm, hD⟩
      rw [List.length_map, List.take_of_length_le (Nat.le_refl _)] at hD
      refine ⟨(by show 4 ≤ sizeLine; decide), fun b nb => ?_⟩
      have nb0 : H b = none := by
        cases z : H b with
        | none => rfl
        | some o =>
          rw [sm _ _ (s1 _ _ z)] at nb
          cases nb
      have ndb : D ≠ b := ne_of_none hD nb
      exact k b D _ (fun x o e => by
        rw [upd_ne (ne_of_none (sm _ _ (s1 _ _ e)) nb)]
        exact sm _ _ (s1 _ _ e)) nb0 ⟨ns, 0, 0, 7, upd_same, by rw [upd_ne ndb]; exact hD, by decide, by decide, ndb, few⟩
end
end SmL
namespace SmL
open PySem PySem.Spec PyProof.Rows L2 ClX StX
/-- what the text says further of the class -/
structure CTxt (K : PySem.W.Frag) (mg : Str → Option Value) (C : Addr) : Prop where
  t : Txt K mg C
  isi : mg "isinstance" = none
  ca : PySem.W.findIn K (.ref C) "__class__" = some (some (.builtin "object.__class__"))
  cn : PySem.W.specialIn K (.builtin "object.__class__") "__get__" = some (some (.builtin "getset_descriptor.__get__"))
  ct : PySem.W.takesIn K (.builtin "object.__class__") = some true
  cm : PySem.W.mroIn K C (.type "object") = some true
  kk : PySem.W.kitOne K (.ref C) (.ref C) = some true
theorem CTxt.ty {K : PySem.W.Frag} {mg : Str → Option Value} {C : Addr} (T : CTxt K mg C) {H : Hp} {r : Addr} {M : List Cell} (h : RegAt C H r M) : TyX K H (.ref r) (.ref C) := by
  obtain ⟨dx, d, hr, _⟩ := h
  exact .base (.ins hr T.t.cl T.ca T.cn T.ct T.cm)
theorem RegAt.same {C : Addr} {H H' : Hp} {r : Addr} {M : List Cell} (h : RegAt C H r M) (s : Same H H') : RegAt C H' r M := by
  obtain ⟨dx, d, hr, hd, x⟩ := h
  exact ⟨dx, d, s _ _ hr, s _ _ hd, x⟩
theorem keys_cl {H : Hp} : ∀ {M : List Cell} {bs : List Addr}, IsKeys H (M.map fun c => (keyC c, V.bl true)) bs → ∃ ks : CL, refs ks = bs.map V.ref ∧ cellsOf ks = M ∧ Tups H ks
  | [], [], _ => ⟨[], rfl, rfl, fun p hp => nomatch hp⟩
  | c :: M, b :: bs, h => by
    cases h with
    | cons h1 h2 =>
      obtain ⟨ks, e1, e2, t⟩ := keys_cl (M := M) (bs := bs) h2
      refine ⟨(b, c) :: ks, ?_, ?_, fun p hp => ?_⟩
      · show V.ref b :: refs ks = V.ref b :: bs.map V.ref
        rw [e1]
      · show c :: cellsOf ks = c :: M
        rw [e2]
      · rcases List.mem_cons.mp hp with z | z
        · rw [z]
          exact h1
        · exact t p z
section
variable {P : Program} {w : World} {K : PySem.W.Frag} {mg : Str → Option Value} {base : Heap}
/-! ### cells() -/
def spCs (C : Addr) : Sp := fun vs H Q _ => ∃ r M, vs = [.ref r] ∧ RegAt C H r M ∧ ∀ p ks H', Same H H' → H p = none → H' p = some (.lst (refs ks)) → Tups H' ks → cellsOf ks = M → Q (.ref p) H'
theorem scCs : FnScope ["self"] ["self"] (defScope cCells) := ⟨rfl, rfl, rfl, by decide +kernel, rfl, by decide +kernel, by decide +kernel⟩
theorem ok_cs {f C : Addr} {fd : FuncData} (F : Fun K "cells" "Region.cells" cCells f fd) (T : CTxt K mg C) : FnOk P w K mg base CX0 1 f fd ["self"] (spCs C) := by
  refine F.ok scCs (fun vs H Q E h => ?_) (fun cdv A outer s H vs Q E hr h => ?_)
  · obtain ⟨r, M, rfl, _⟩ := h
    rfl
  · obtain ⟨r, M, rfl, ⟨dx, d, hr0, hd, asc, few⟩, k⟩ := h
    refine ⟨_, pss_one (ps_ret (pe_callTy (call_list_dT rfl) (by rfl) T.t.lst (by decide +kernel) (pa_cons (pe_fld (pv 0) rfl) pa_nil))), ?_⟩
    refine ⟨_, rfl, r, C, dx, _, _, rfl, hr0, T.t.cl, T.t.nM, rfl, d, _, rfl, .inl hd, fun p bs np hk => ?_⟩
    obtain ⟨ks, e1, e2, t⟩ := keys_cl hk
    have sp := same_upd (o := .lst (bs.map V.ref)) np
    exact k p ks _ sp np (by rw [upd_same, e1]) (t.same sp) e2
/-! ### of() -/
def spOf (C : Addr) : Sp := fun vs H Q _ => ∃ ks, vs = refs ks ∧ Tups H ks ∧ ks.length < 63 ∧ ∀ r M H', Same H H' → H r = none → Reading (cellsOf ks) M → RegAt C H' r M → Q (.ref r) H'
theorem scOf : FnScope ["cells"] ["cells"] (defScope cOf) := ⟨rfl, rfl, rfl, by decide +kernel, rfl, by decide +kernel, by decide +kernel⟩
/-- the instance that a call makes, and what stood -/
theorem made {C : Addr} {H H' : Hp} {x dx : Addr} (nx : H x = none) (ndx : H dx = none) (s : SameBut x (upd (upd H dx (.own x)) x (.ins C dx [])) H') : Same H H' := fun b o e => by
  refine s b o (ne_of_none e nx) ?_
  rw [upd_ne (ne_of_none e nx), upd_ne (ne_of_none e ndx)]
  exact e
theorem made0 {C : Addr} {H : Hp} {x dx : Addr} (nx : H x = none) (ndx : H dx = none) : Same H (upd (upd H dx (.own x)) x (.ins C dx [])) := fun b o e => by
  rw [upd_ne (ne_of_none e nx), upd_ne (ne_of_none e ndx)]
  exact e
theorem ok_of {f g C : Addr} {fd gd : FuncData} (F : Fun K "of" "Region.of" cOf f fd) (OI : FnOk P w K mg base CX0 1 g gd ["self", "cells"] (spInit K C)) (M : Mk K C g) (bI : Binds K gd ["self", "cells"] []) (T : CTxt K mg C) :
    FnR P w K mg base CX0 3 f (spOf C) := by
  obtain ⟨oc, od, kV, doc, pm, an, cdv, ct, osl, rfl, lk, hcd⟩ := F.ex
  have R := fn_star (ps := []) (pv := "cells") (N := ["cells"]) (P := P) (w := w) (mg := mg) (base := base) (CX := CX0) (k := 2) (sp := fun vs H Q _ => ∃ p ks, vs = [V.ref p] ∧ H p = some (.tup (refs ks)) ∧ Tups H ks ∧ ks.length < 63 ∧
      ∀ r M H', Same H H' → H r = none → Reading (cellsOf ks) M → RegAt C H' r M → Q (.ref r) H') lk hcd scOf cxUp_none (fun us rest hl => ?_) (fun A outer s H vs Q E hr h => ?_)
  · intro A outer s H us vs Q E hr e0 r h
    obtain ⟨ks, rfl, ht, few, k⟩ := h
    refine R A outer s H us _ Q E hr e0 r ⟨[], refs ks, rfl, rfl, ?_, fun p np => ⟨p, ks, rfl, upd_same, ht.same (same_upd np), few, fun r M H' sm nr rd ra => ?_⟩⟩
    · rw [refs_len]
      exact Nat.le_of_lt (small1000 (by omega))
    · refine k r M H' (fun b o e => sm _ _ (same_upd np _ _ e)) ?_ rd ra
      cases z : H r with
      | none => rfl
      | some o =>
        rw [same_upd np _ _ z] at nr
        cases nr
  · match us, rest, hl with
    | [], [], _ => rfl
    | [], _ :: _, _ => rfl
  · obtain ⟨p, ks, rfl, hp, ht, few, k⟩ := h
    refine ⟨_, (pss_one (ps_ret (pe_make M OI hr (by rfl) T.t.mgC bI .nil pass0 (pa_cons (pe_callTy call_list_of (by rfl) T.t.lst (by decide +kernel) (pa_cons (pv 0) pa_nil)) pa_nil)))), ?_⟩
    refine ⟨_, rfl, p, _, rfl, .inr (SqT.of hp), fun l nl => ?_⟩
    intro x dx nx ndx nex
    have s1 := same_upd (o := .lst (refs ks)) nl
    have s2 := made0 (C := C) nx ndx
    refine ⟨x, dx, l, ks, rfl, upd_same, SqL.of (s2 _ _ upd_same), (ht.same s1).same s2, few, fun H' M' rd ra sb => ⟨rfl, ?_⟩⟩
    refine k x M' H' (fun b o e => made nx ndx sb _ _ (s1 _ _ e)) ?_ rd ra
    cases z : H x with
    | none => rfl
    | some o =>
      rw [s1 _ _ z] at nx
      cases nx
/-! ### == -/
def spEqR (C : Addr) : Sp := fun vs H Q _ => ∃ r q M N, vs = [.ref r, .ref q] ∧ RegAt C H r M ∧ RegAt C H q N ∧ Q (.bl (decide (M = N))) H
theorem scEq : FnScope ["self", "other"] ["self", "other"] (defScope cEq) := ⟨rfl, rfl, rfl, by decide +kernel, rfl, by decide +kernel, by decide +kernel⟩
theorem nodup_sub : ∀ (l D : List Cell), l.Nodup → (∀ x ∈ l, x ∈ D) → l.length ≤ D.length
  | [], _, _, _ => Nat.zero_le _
  | x :: l, D, hn, hs => by
    obtain ⟨h1, h2⟩ := List.nodup_cons.mp hn
    have hx : x ∈ D := hs x List.mem_cons_self
    have ih := nodup_sub l (D.erase x) h2 fun y hy => (List.mem_erase_of_ne (show y ≠ x from fun e => h1 (by rw [← e]; exact hy))).2 (hs y (List.mem_cons_of_mem _ hy))
    have e := List.length_erase_of_mem hx
    have p : 0 < D.length := List.length_pos_of_mem hx
    rw [List.length_cons]
    omega
theorem asc_eq {M N : List Cell} (hM : M.Pairwise bef) (hN : N.Pairwise bef) : (M.length = N.length ∧ ∀ c ∈ M, c ∈ N) ↔ M = N := by
  constructor
  · rintro ⟨hl, hs⟩
    refine asc_uniq hM hN fun c => ⟨hs c, fun hc => ?_⟩
    refine Classical.byContradiction fun hn => ?_
    have nd : M.Nodup := List.Pairwise.imp (fun {x y} (hb : bef x y) => show x ≠ y from fun e => bef_irr y (by rw [e] at hb; exact hb)) hM
    have := nodup_sub (c :: M) N (List.nodup_cons.mpr ⟨hn, nd⟩) fun x hx => (List.mem_cons.mp hx).elim (fun z => by rw [z]; exact hc) (hs x)
    rw [List.length_cons] at this
    omega
  · rintro rfl
    exact ⟨rfl, fun c hc => hc⟩
theorem ok_eq {f C : Addr} {fd : FuncData} (F : Fun K "__eq__" "Region.__eq__" cEq f fd) (T : CTxt K mg C) : FnOk P w K mg base CX0 1 f fd ["self", "other"] (spEqR C) := by
  refine F.ok scEq (fun vs H Q E h => ?_) (fun cdv A outer s H vs Q E hr h => ?_)
  · obtain ⟨r, q, M, N, rfl, _⟩ := h
    rfl
  · obtain ⟨r, q, M, N, rfl, hM, hN, k⟩ := h
    have ty := T.ty hN
    obtain ⟨dx, d, hr0, hd, asc, few⟩ := hM
    obtain ⟨dy, e, hq0, he, asc2, few2⟩ := hN
    refine ⟨_, pss_one (ps_ret (pe_and (pe_callB call_isi (by rfl) T.isi (by decide +kernel) (pa_cons (pv 1) (pa_cons (pe_glob (v := .ref C) (by rfl) T.t.mgC rfl) pa_nil)))
      (pe_one (pe_cmpR (op_eqM (hu_of hr)) (pe_fld (pv 0) rfl) (pe_fld (pv 1) rfl) (nomark _))))), ?_⟩
    refine ⟨_, rfl, .ref q, .ref C, .ref C, .ref C, true, rfl, .own C, ty, T.kk, true, rfl, ?_⟩
    refine ⟨_, rfl, r, C, dx, _, _, rfl, hr0, T.t.cl, T.t.nM, rfl, _, rfl, q, C, dy, _, _, rfl, hq0, T.t.cl, T.t.nM, rfl, d, e, M, N, rfl, rfl, hd, he, ?_⟩
    have z : decide (M.length = N.length ∧ ∀ c ∈ M, c ∈ N) = decide (M = N) := decide_eq_decide.mpr (asc_eq asc asc2)
    rw [z]
    exact k
end
end SmL
namespace SmL
open PySem PySem.Spec PyProof.Rows L2
/-! ### truth of a dict with tuple keys -/
section
variable {prog : Program} {w : World} {K : Type} [DecidableEq K] {knd : HeapKind prog w K} {A : Around} {E : Value → Shared → Prop} {s : Shared}
theorem truth_dt {d : Addr} {xs : List (K × Addr × Value)} {Q : Bool → Shared → Prop} (hd : (d == sysModules) = false) (hm : s.heap.DictOfH knd d xs) (fit : (xs.length : Int) < 2 ^ 63) (h : ∀ tk, Q (!xs.isEmpty) { s with toks := tk }) :
    wpAny (model prog w) A (truthy (.ref d)) Q E s := by
  have ty : s.TypeIs (.ref d) "dict" := by
    obtain ⟨o, _, _, ho, hx, _⟩ := hm
    exact ⟨o, ho, hx.1⟩
  have ne : ((xs.length : Int) != 0) = !xs.isEmpty := by cases xs <;> simp <;> omega
  have key : wpAny (model prog w) A (runValue (.builtin "len" ⟨[.ref d], []⟩)) (fun r s' => r = .int xs.length (s.toks + 1) ∧ Q (!xs.isEmpty) s') E s := by
    refine wpAny_runValue (codeAny_builtin entry_len ?_)
    rw [Around.under_plainId plain_len _]
    refine wpAny_mono (wpAny_len_body_dictH (Q := fun r s' => r = .int xs.length (s.toks + 1) ∧ Q (!xs.isEmpty) s') hd hm fit ⟨rfl, h _⟩) (fun fin s' z => ?_) fun _ _ e => e
    obtain ⟨r, rfl, q⟩ := z
    exact q
  have go : wpAny (model prog w) A (runValue (.builtin "len" ⟨[.ref d], []⟩) >>= fun r => match r with | .int n _ => pure (n != 0) | _ => pure true) Q E s := by
    refine wpAny_bind (wpAny_mono key (fun r s' z => ?_) fun _ _ e => e)
    obtain ⟨rfl, q⟩ := z
    exact wpAny_pure (ne ▸ q)
  unfold truthy
  first
    | refine wpAny_bind (wpAny_callSpecial?_none (name := Str.ofString "__bool__") ty noBool_dict ?_)
    | refine wpAny_bind (wpAny_pure (wpAny_bind (wpAny_callSpecial?_none (name := Str.ofString "__bool__") ty noBool_dict ?_)))
  first
    | refine wpAny_bind (wpAny_specialOf (name := Str.ofString "__len__") ty F.slot_dict_len.lookup ?_)
    | refine wpAny_bind (wpAny_pure (wpAny_bind (wpAny_specialOf (name := Str.ofString "__len__") ty F.slot_dict_len.lookup ?_)))
  first
    | exact wpAny_bind (wpAny_mono key (fun r s' z => by obtain ⟨rfl, q⟩ := z; exact wpAny_pure (ne ▸ q)) fun _ _ e => e)
    | exact wpAny_bind (wpAny_pure (wpAny_bind (wpAny_mono key (fun r s' z => by obtain ⟨rfl, q⟩ := z; exact wpAny_pure (ne ▸ q)) fun _ _ e => e)))
/-- bool(v), v's truth told -/
theorem call_boolT {v : Value} {Q : Value → Shared → Prop} (h : wpAny (model prog w) A.in1.in1 (truthy v) (fun b s' => Q (.bool b) s') E s) : wpAny (model prog w) A (call (.type "bool") [v]) Q E s := by
  refine callType_codes (T := "bool") (Bi := Builtin.«object.__init__») (Q₁ := fun r s₁ => ∃ b, r = .bool b ∧ Q r s₁) PySem.F.called_bool (PySem.F.typeCall_bool_1 _) PySem.F.entry_object_init ?_ ?_
  · refine codeAny_of_tree ?_
    show wpAny _ A.in1.in1 (do checkBuiltinCall "bool.__new__" ⟨[.type "bool", v], []⟩; again (.builtin "bool.__new__" ⟨[.type "bool", v], []⟩)) _ _ s
    refine wpAny_bind (wpAny_of_eq (PySem.F.newCall_bool_1 _) (wpAny_pure ⟨plainId_quiet (by decide +kernel) _, codeAny_builtin PySem.F.entry_bool_new ?_⟩))
    rw [Around.under_plainId (by decide +kernel) _]
    unfold Builtin.«bool.__new__»
    refine wpAny_bind (wpAny_pure ?_)
    simp only [Bool.not_true, Bool.false_eq_true, if_false]
    refine wpAny_bind (wpAny_pure ?_)
    refine wpAny_bind (m := someArgs "bool" 0 1 _) (wpAny_pure ?_)
    exact wpAny_bind (wpAny_mono h (fun b s' z => wpAny_pure ⟨b, rfl, z⟩) fun _ _ e => e)
  · rintro obj s₁ ⟨b, rfl, hq⟩
    exact ⟨rfl, PySem.F.args_object_init_2 _ _, object_init_meets PySem.F.called_bool.init.lookup PySem.F.called_bool.made (by decide) prog w A.in1 _ s₁ ⟨rfl, rfl, hq⟩⟩
end
end SmL
namespace SmL
open PySem PySem.Spec PyProof.Rows L2
/-! ### numbers as texts -/
def tS (n : Int) : Str := Str.ofString (toString n)
theorem tS_len {n : Int} (h : n.natAbs.log2 < 1920) : (tS n).length ≤ 1921 := int_text_len_1921 h
theorem small_log {n : Int} (h1 : -1000000000000000000 < n) (h2 : n < 1000000000000000000) : n.natAbs.log2 < 1920 := by
  have h3 : n.natAbs < 2 ^ 1920 := Nat.lt_trans (show n.natAbs < 2 ^ 60 by omega) (by decide +kernel)
  by_cases z : n.natAbs = 0
  · rw [z]
    decide
  · exact (Nat.log2_lt z).mpr h3
theorem tS_neg {n : Int} (h : n < 0) : tS n = ("-" : Str) ++ tS (-n) := by
  unfold tS
  rw [toString_neg h, show (0 : Int) - n = -n by omega]
  refine Str.ext' ?_
  simp [Str.cps_append, Str.ofString_eq_toList]
theorem join1 (x : Str) : Txt.join Str.empty [x] = x := by
  rw [TL.join_eq]
  rfl
abbrev gDec : Stmt := top 3
abbrev cLen : Stmt := inClass (top 4) 10
abbrev cBool : Stmt := inClass (top 4) 11
abbrev cIn : Stmt := inClass (top 4) 9
abbrev cStr : Stmt := inClass (top 4) 12
section
variable {P : Program} {w : World} {K : PySem.W.Frag} {mg : Str → Option Value} {base : Heap}
def spDec : Sp := fun vs H Q _ => ∃ n, vs = [.int n] ∧ -1000000000000000000 < n ∧ n < 1000000000000000000 ∧ ∀ H', Same H H' → Q (.str (tS n)) H'
abbrev nDec : List Str := ["number", "rest", "groups", "digits", "group"]
theorem scDec : FnScope nDec ["number"] (defScope gDec) := ⟨rfl, rfl, rfl, by decide +kernel, rfl, by decide +kernel, by decide +kernel⟩
theorem ok_dec {f : Addr} {fd : FuncData} {tk : Tok} (F : Fun K "decimal" "decimal" gDec f fd) (ma : mg "abs" = none) (ms : mg "str" = none) (mgG : mg "_GROUP" = some (.int 1000000000000000000 tk)) : FnOk P w K mg base CX0 1 f fd ["number"] spDec := by
  refine F.ok scDec (fun vs H Q E h => ?_) (fun cdv A outer s H vs Q E hr h => ?_)
  · obtain ⟨n, rfl, _⟩ := h
    rfl
  · obtain ⟨n, rfl, n1, n2, k⟩ := h
    refine ⟨_, pss_cons (ps_set (i := 1) scDec.nd rfl (.inl rfl) (pe_callB call_abs (by rfl) ma (by decide +kernel) (pa_cons (pv 0) pa_nil)))
      (pss_cons (ps_set (i := 2) scDec.nd rfl (.inl rfl) (pe_lst pa_nil))
      (pss_cons (ps_while PassesOwn.never (pt_cmpR op_ge (pv 1) (pe_glob (v := .int 1000000000000000000) (by rfl) mgG ⟨_, rfl⟩) (nomark _)) (pss_cons ps_never (pss_one ps_never)))
      (pss_cons (ps_expr (pe_bm PySem.F.plainAttrs_list PySem.F.slot_list_append PySem.F.type_list_append mt_append (pv 2) (pa_cons (pe_callTy call_str_int (by rfl) ms (by decide +kernel) (pa_cons (pv 1) pa_nil)) pa_nil)))
      (pss_cons (ps_set (i := 3) scDec.nd rfl (.inl rfl) (pe_join pe_str (pe_revL (pv 2))))
      (pss_one (ps_ret (pe_ifExp (pt_cmpR op_lt (pv 0) pe_int (nomark _)) (pe_joined (.cons pe_str (.cons (pe_fmt (pv 3)) .nil))) (pv 3)))))))), ?_⟩
    refine ⟨_, rfl, n, rfl, ?_⟩
    generalize eN : (if n < 0 then -n else n) = N
    have N0 : 0 ≤ N := by
      rw [← eN]
      split <;> omega
    have N1 : N < 1000000000000000000 := by
      rw [← eN]
      split <;> omega
    have lg : N.natAbs.log2 < 1920 := small_log (by omega) N1
    have lt := tS_len lg
    refine ⟨Nat.zero_le _, fun g ng => ?_⟩
    refine ⟨fun m σ G => σ = [some (.int n), some (.int N), some (.ref g), Option.none, Option.none] ∧ G = upd H g (.lst []), ⟨0, rfl, rfl⟩, ?_⟩
    rintro m σ G ⟨rfl, rfl⟩
    refine ⟨_, rfl, N, 1000000000000000000, rfl, rfl, _, rfl, ?_⟩
    rw [decide_eq_false (show ¬ (1000000000000000000 : Int) ≤ N by omega)]
    refine iteF ?_
    refine ⟨_, rfl, .inl ⟨rfl, _, SqL.of upd_same⟩, _, rfl, N, rfl, lg, g, _, _, rfl, rfl, upd_same, (by show 0 < sizeLine; decide), ?_⟩
    rw [upd_upd]
    refine ⟨⟨_, rfl⟩, _, rfl, g, _, rfl, SqL.of upd_same, fun q nq => ?_⟩
    refine ⟨Str.empty, q, [tS N], rfl, rfl, .inl (SqL.of upd_same), ?_, ?_⟩
    · show (tS N).length + 0 + 1 * 0 ≤ 16777216
      omega
    have ss : Same H (upd (upd H g (.lst ([] ++ [V.str (tS N)]))) q (.lst ([] ++ [V.str (tS N)]).reverse)) := fun b o e => by
      rw [upd_ne (ne_of_none ((same_upd ng) _ _ e) nq), upd_ne (ne_of_none e ng)]
      exact e
    rw [join1]
    refine ⟨_, rfl, n, 0, rfl, rfl, _, rfl, ite2 (fun e => ?_) (fun e => ?_)⟩
    · have hn : n < 0 := of_decide_eq_true e
      refine ⟨_, rfl, ?_, _, rfl, .inl ⟨tS N, rfl, Nat.le_trans lt (by decide), _, rfl, ?_, ?_⟩⟩
      · show (Str.empty ++ ("-" : Str)).length ≤ sizeLine
        decide
      · rw [Str.empty_append, Str.length_append]
        show 1 + (tS N).length ≤ sizeLine
        have : sizeLine = 16777216 := sizeLine_eq
        omega
      · have z := k _ ss
        rw [tS_neg hn, show -n = N by rw [← eN, if_pos hn]] at z
        rw [Str.empty_append]
        exact z
    · have hn : ¬ n < 0 := fun z => e (decide_eq_true z)
      refine ⟨_, rfl, ?_⟩
      have z := k _ ss
      rw [show n = N by rw [← eN, if_neg hn]] at z
      exact z
end
end SmL
namespace SmL
open PySem PySem.Spec PyProof.Rows L2 Sm
/-! ### the dict of a region: its truth, bool() -/
section
variable {X : Cx}
theorem mem_truth {pins : List (Addr × Obj)} {σ : L2.St} {H : Hp} {s : Shared} {A : Around} {E : Value → Shared → Prop} {d : Addr} {M : List Cell} {Q : Bool → Shared → Prop} (I : L2.Inv X pins σ H s) (hd : H d = some (memO M)) (few : M.length < 64)
    (h : ∀ s', L2.Inv X pins σ H s' → Q (!M.isEmpty) s') : wpAny (model X.prog X.w) A (truthy (.ref d)) Q E s := by
  obtain ⟨_, nd, xs, r, dd⟩ := dt_of I.hok hd
  have l : (M.map fun c => (keyC c, V.bl true)).length = xs.length := Paired.length r
  rw [List.length_map] at l
  refine truth_dt nd dd (by omega) fun tk => ?_
  have e : xs.isEmpty = M.isEmpty := by cases xs <;> cases M <;> simp at l ⊢
  rw [e]
  exact h _ (I.tok tk)
def tDt (te : TE) : TT := fun σ H Q => te σ H fun x H1 => ∃ d M, x = .ref d ∧ H1 d = some (memO M) ∧ M.length < 64 ∧ Q (!M.isEmpty) H1
theorem pt_dt {e : Expr} {te : TE} (h : PE X e te) (he : ∀ whole, isTrue e X.env whole = (do let v ← whole; standAt e.pos; holding [v] (truthy v)) := by intro _; rfl) : PT X e (tDt te) := by
  refine ⟨fun pins s σ H Q I hw => isTrue_plain (thn (h.run pins s σ H _ I hw) fun v s1 ⟨x, H1, I1, r1, d, M, ex, hd, few, q⟩ => ?_) (he _)⟩
  subst ex
  obtain rfl : v = Value.ref d := r1
  exact mem_truth I1 hd few fun s2 I2 => ⟨H1, I2, q⟩
def rBoolM : List V → Hp → VK → Prop := fun xs H Q => ∃ d M, xs = [.ref d] ∧ H d = some (memO M) ∧ M.length < 64 ∧ Q (.bl (!M.isEmpty)) H
theorem call_boolM : CallR X (.type "bool") rBoolM := by
  intro pins s σ H xs us Q I r h
  obtain ⟨d, M, rfl, hd, few, q⟩ := h
  rw [Vals.ref1 r]
  exact call_boolT (mem_truth I hd few fun s2 I2 => ⟨.bl _, H, I2, rfl, q⟩)
end
/-! ### the own methods with special names -/
section
variable {P : Program} {w : World} {K : PySem.W.Frag} {mg : Str → Option Value} {base : Heap}
def spLen (C : Addr) : Sp := fun vs H Q _ => ∃ r M, vs = [.ref r] ∧ RegAt C H r M ∧ Q (.int (M.length : Int)) H
theorem scLen : FnScope ["self"] ["self"] (defScope cLen) := ⟨rfl, rfl, rfl, by decide +kernel, rfl, by decide +kernel, by decide +kernel⟩
theorem ok_len {f C : Addr} {fd : FuncData} (F : Fun K "__len__" "Region.__len__" cLen f fd) (T : CTxt K mg C) (ml : mg "len" = none) : FnOk P w K mg base CX0 1 f fd ["self"] (spLen C) := by
  refine F.ok scLen (fun vs H Q E h => ?_) (fun cdv A outer s H vs Q E hr h => ?_)
  · obtain ⟨r, M, rfl, _⟩ := h
    rfl
  · obtain ⟨r, M, rfl, ⟨dx, d, hr0, hd, asc, few⟩, q⟩ := h
    refine ⟨_, pss_one (ps_ret (pe_callB call_len_dT (by rfl) ml PySem.boot_len (pa_cons (pe_fld (pv 0) rfl) pa_nil))), ?_⟩
    refine ⟨_, rfl, r, C, dx, _, _, rfl, hr0, T.t.cl, T.t.nM, rfl, d, _, rfl, hd, ?_⟩
    rw [List.length_map]
    exact q
def spBool (C : Addr) : Sp := fun vs H Q _ => ∃ r M, vs = [.ref r] ∧ RegAt C H r M ∧ Q (.bl (!M.isEmpty)) H
theorem scBool : FnScope ["self"] ["self"] (defScope cBool) := ⟨rfl, rfl, rfl, by decide +kernel, rfl, by decide +kernel, by decide +kernel⟩
theorem ok_bool {f C : Addr} {fd : FuncData} (F : Fun K "__bool__" "Region.__bool__" cBool f fd) (T : CTxt K mg C) (mb : mg "bool" = none) : FnOk P w K mg base CX0 1 f fd ["self"] (spBool C) := by
  refine F.ok scBool (fun vs H Q E h => ?_) (fun cdv A outer s H vs Q E hr h => ?_)
  · obtain ⟨r, M, rfl, _⟩ := h
    rfl
  · obtain ⟨r, M, rfl, ⟨dx, d, hr0, hd, asc, few⟩, q⟩ := h
    refine ⟨_, pss_one (ps_ret (pe_callTy call_boolM (by rfl) mb (by decide +kernel) (pa_cons (pe_fld (pv 0) rfl) pa_nil))), ?_⟩
    exact ⟨_, rfl, r, C, dx, _, _, rfl, hr0, T.t.cl, T.t.nM, rfl, d, M, rfl, hd, few, q⟩
/-- the region at r, its dict perhaps under a walk -/
def RegQ (C : Addr) (H : Hp) (r : Addr) (M : List Cell) : Prop := ∃ dx d, H r = some (.ins C dx [("_members", .ref d)]) ∧ Rd H d (memO M) ∧ M.Pairwise bef ∧ M.length < 64
theorem RegAt.q {C : Addr} {H : Hp} {r : Addr} {M : List Cell} (h : RegAt C H r M) : RegQ C H r M := by
  obtain ⟨dx, d, hr, hd, x⟩ := h
  exact ⟨dx, d, hr, .inl hd, x⟩
def spIn (C : Addr) : Sp := fun vs H Q _ => ∃ r t c M, vs = [.ref r, .ref t] ∧ RegQ C H r M ∧ H t = some (CellO c) ∧ Q (.bl (decide (c ∈ M))) H
theorem scIn : FnScope ["self", "cell"] ["self", "cell"] (defScope cIn) := ⟨rfl, rfl, rfl, by decide +kernel, rfl, by decide +kernel, by decide +kernel⟩
theorem ok_in {f C : Addr} {fd : FuncData} (F : Fun K "__contains__" "Region.__contains__" cIn f fd) (T : CTxt K mg C) : FnOk P w K mg base CX0 1 f fd ["self", "cell"] (spIn C) := by
  refine F.ok scIn (fun vs H Q E h => ?_) (fun cdv A outer s H vs Q E hr h => ?_)
  · obtain ⟨r, t, c, M, rfl, _⟩ := h
    rfl
  · obtain ⟨r, t, c, M, rfl, ⟨dx, d, hr0, hd, asc, few⟩, ht, q⟩ := h
    refine ⟨_, pss_one (ps_ret (pe_cmp (pc_din (hu_of hr) (pv 1) (pe_fld (pv 0) rfl)) rfl)), ?_⟩
    refine ⟨_, rfl, _, rfl, r, C, dx, _, _, rfl, hr0, T.t.cl, T.t.nM, rfl, d, _, rfl, .inr ⟨_, keyC c, t, hd, rfl, ht, rfl⟩, ?_⟩
    rw [val_mem]
    exact q
/-! ### str -/
def cellT (c : Cell) : Str := (tS c.1 ++ ("," : Str)) ++ tS c.2
def regT (M : List Cell) : Str := if M = [] then ("-" : Str) else Txt.join (" " : Str) (M.map cellT)
def Mid (c : Cell) : Prop := (-1000000000000000000 < c.1 ∧ c.1 < 1000000000000000000) ∧ -1000000000000000000 < c.2 ∧ c.2 < 1000000000000000000
theorem cellT_len {c : Cell} (h : Mid c) : (cellT c).length ≤ 4000 := by
  have h1 := tS_len (small_log h.1.1 h.1.2)
  have h2 := tS_len (small_log h.2.1 h.2.2)
  unfold cellT
  rw [Str.length_append, Str.length_append]
  show (tS c.1).length + 1 + (tS c.2).length ≤ 4000
  omega
theorem sum_le (n : Nat) : ∀ l : List Nat, (∀ x ∈ l, x ≤ n) → l.sum ≤ l.length * n
  | [], _ => by simp
  | x :: l, h => by
    have h1 := sum_le n l fun y hy => h y (List.mem_cons_of_mem _ hy)
    have h2 := h x List.mem_cons_self
    rw [List.sum_cons, List.length_cons, Nat.add_mul, Nat.one_mul]
    omega
theorem texts_fit {M : List Cell} (h : ∀ c ∈ M, Mid c) (few : M.length < 64) (sep : Str) (h1 : sep.length = 1) : ((M.map cellT).map (·.length)).sum + (M.map cellT).length * sep.length ≤ 16777216 := by
  have z := sum_le 4000 ((M.map cellT).map (·.length)) fun x hx => by
    obtain ⟨y, hy, rfl⟩ := List.mem_map.mp hx
    obtain ⟨c, hc, rfl⟩ := List.mem_map.mp hy
    exact cellT_len (h c hc)
  rw [List.length_map, List.length_map] at z
  rw [h1, List.length_map]
  have : M.length * 4000 ≤ 64 * 4000 := Nat.mul_le_mul_right _ (by omega)
  omega
def spStr (C : Addr) : Sp := fun vs H Q _ => ∃ r M, vs = [.ref r] ∧ RegAt C H r M ∧ (∀ c ∈ M, Mid c) ∧ ∀ H', Same H H' → Q (.str (regT M)) H'
abbrev nStr : List Str := ["self", "x", "y"]
def teStr : TE := fun σ H Q => tJs [tFmt (tCall spDec [] E0 (tCons (tVar 1) tNil)), tC (.str ","), tFmt (tCall spDec [] E0 (tCons (tVar 2) tNil))] Str.empty σ H fun out H1 => Q (.str out) H1
theorem scStr : FnScope nStr ["self"] (defScope cStr) := ⟨rfl, rfl, rfl, by decide +kernel, rfl, by decide +kernel, by decide +kernel⟩
theorem ok_str {f g C : Addr} {fd gd : FuncData} (F : Fun K "__str__" "Region.__str__" cStr f fd) (OD : FnOk P w K mg base CX0 1 g gd ["number"] spDec) (kD : PySem.W.keepIn K (.ref g) = true) (bD : Binds K gd ["number"] []) (gD : mg "decimal" = some (.ref g)) (T : CTxt K mg C) :
    FnOk P w K mg base CX0 2 f fd ["self"] (spStr C) := by
  refine F.ok scStr (fun vs H Q E h => ?_) (fun cdv A outer s H vs Q E hr h => ?_)
  · obtain ⟨r, M, rfl, _⟩ := h
    rfl
  · obtain ⟨r, M, rfl, ⟨dx, d, hr0, hd, asc, few⟩, mid, k⟩ := h
    refine ⟨_, pss_cons (ps_if (pt_not (pt_dt (pe_fld (pv 0) rfl))) (pss_one (ps_ret pe_str)) pss_nil)
      (pss_one (ps_ret (pe_join pe_str (pe_lock (pe_lc (own := [("x", 1), ("y", 2)]) (g := gTup K 2 (gCons (gName 1) (gCons (gName 2) gNil))) (tt := tYes)
        (te := teStr) rfl scStr.nd (pi_keys (pe_fld (pv 0) rfl))
        (blkOk_by (own := [("x", 1), ("y", 2)]) (N := nStr) (sc := defScope cStr) (by decide +kernel)) (fun _ _ _ _ _ => pg_tup rfl (pgs_cons (pg_name (i := 1) scStr.nd rfl (Or.inl rfl)) (pgs_cons (pg_name (i := 2) scStr.nd rfl (Or.inl rfl)) pgs_nil))) (fun _ _ _ _ _ => pts_nil)
        (fun _ _ _ _ _ => pe_joined (.cons (pe_fmt (pe_call OD hr (by rfl) gD kD bD .nil pass0 (pa_cons (pv 1) pa_nil))) (.cons pe_str (.cons (pe_fmt (pe_call OD hr (by rfl) gD kD bD .nil pass0 (pa_cons (pv 2) pa_nil))) .nil))))))))), ?_⟩
    refine ⟨_, rfl, r, C, dx, _, _, rfl, hr0, T.t.cl, T.t.nM, rfl, d, M, rfl, hd, few, ?_⟩
    by_cases em : M = []
    · subst em
      exact iteT (k H (Same.refl H))
    have ne : M.isEmpty = false := by
      cases M with
      | nil => exact absurd rfl em
      | cons _ _ => rfl
    rw [ne]
    refine iteF ?_
    refine ⟨⟨_, rfl⟩, d, memO M, hd, trivial, fun od => ?_⟩
    have ndr : r ≠ d := ne_of hr0 hd (by intro z; cases z)
    have hr1 : (upd H d (.frz od (memO M))) r = some (.ins C dx [("_members", .ref d)]) := by
      rw [upd_ne ndr]
      exact hr0
    refine ⟨_, rfl, r, C, dx, _, _, rfl, hr1, T.t.cl, T.t.nM, rfl, d, od, rfl, .inr ⟨_, upd_same, fun D nD => ?_⟩⟩
    have nDd : D ≠ d := fun e => by
      rw [e, upd_same] at nD
      cases nD
    refine lc_it (g := gTup K 2 (gCons (gName 1) (gCons (gName 2) gNil))) (tt := tYes) (te := teStr) (σ := L2.start nStr [V.ref r]) (vs := [1, 2]) walk_keysT (fun i G => Same (upd H d (.frz od (memO M))) G ∧ G D = some (.lst (((M.take i).map cellT).map V.str))) ⟨same_upd nD, upd_same⟩ (fun i G _ ⟨sm, _⟩ => sm _ _ upd_same) ?_ ?_
    · rintro i x G G1 hi ⟨sm, hD⟩ ⟨rfl, ky, v, q, hk, rfl, hq⟩
      rw [List.getElem?_map] at hk
      cases ec : M[i]? with
      | none =>
        rw [ec] at hk
        cases hk
      | some c =>
        rw [ec] at hk
        cases hk
        have mc := mid c (List.mem_of_getElem? ec)
        have l1 := tS_len (small_log mc.1.1 mc.1.2)
        have l2 := tS_len (small_log mc.2.1 mc.2.2)
        have sl : sizeLine = 16777216 := sizeLine_eq
        refine ⟨q, _, rfl, SqT.of hq, rfl, _, _, rfl, _, _, rfl, rfl, rfl, tyes (iteT ?_)⟩
        refine ⟨_, rfl, c.1, rfl, mc.1.1, mc.1.2, fun G2 s2 => .inl ⟨_, rfl, by omega, _, rfl, ?_, _, rfl, ?_, ?_⟩⟩
        · rw [Str.empty_append]
          omega
        · rw [Str.empty_append, Str.length_append]
          show (tS c.1).length + 1 ≤ sizeLine
          omega
        refine ⟨_, rfl, c.2, rfl, mc.2.1, mc.2.2, fun G3 s3 => .inl ⟨_, rfl, by omega, _, rfl, ?_, ?_⟩⟩
        · rw [Str.empty_append, Str.length_append, Str.length_append]
          show (tS c.1).length + 1 + (tS c.2).length ≤ sizeLine
          omega
        rw [Str.empty_append]
        refine ⟨_, s3 _ _ (s2 _ _ hD), ?_, fun b o e => ?_, ?_⟩
        · rw [List.length_map, List.length_map, List.length_take]
          exact small1000 (by omega)
        · rw [upd_ne (ne_of_none e nD)]
          exact s3 _ _ (s2 _ _ (sm _ _ e))
        · rw [upd_same, List.take_add_one, ec, List.map_append, List.map_append]
          rfl
    · rintro G ⟨sm, hD⟩
      rw [List.length_map, List.take_of_length_le (Nat.le_refl _)] at hD
      have hfd : G d = some (.frz od (memO M)) := sm _ _ upd_same
      refine ⟨hfd, " ", D, M.map cellT, rfl, rfl, .inl (SqL.of (by rw [upd_ne nDd]; exact hD)), texts_fit mid few " " (by decide), ?_⟩
      have e : regT M = Txt.join (" " : Str) (M.map cellT) := if_neg em
      rw [← e]
      refine k _ fun b o eb => ?_
      by_cases hb : b = d
      · rw [hb] at eb ⊢
        rw [upd_same]
        rw [hd] at eb
        exact eb
      · rw [upd_ne hb]
        refine sm _ _ ?_
        rw [upd_ne hb]
        exact eb
end
end SmL
namespace SmL
open PySem PySem.Spec PyProof.Rows L2 Sm
/-! ### len, bool, str, in, != that call a method of the class -/
structure OwnM (K : PySem.W.Frag) (C : Addr) (m : Str) (f : Addr) : Prop where
  at_ : PySem.W.findIn K (.ref C) m = some (some (.ref f))
  fn : PySem.W.isFn K (.ref f) = true
section
variable {X : Cx} {C f : Addr} {fd : FuncData} {k : Nat}
theorem reg_inst {pins : List (Addr × Obj)} {σ : L2.St} {H : Hp} {s : Shared} {r : Addr} {M : List Cell} (I : L2.Inv X pins σ H s) (h : RegAt C H r M) : ∃ ox od, PySem.W.InstAt s.heap r ox C od := by
  obtain ⟨dx, d, hr, _⟩ := h
  obtain ⟨mA, J, _⟩ := ins_get I.hok hr
  obtain ⟨od, J, _⟩ := J.look
  exact ⟨_, _, J⟩
def rLenR (C : Addr) : List V → Hp → VK → Prop := fun xs H Q => ∃ r M, xs = [.ref r] ∧ RegAt C H r M ∧ Q (.int (M.length : Int)) H
theorem call_lenR (O : FnOk X.prog X.w X.K X.mg X.base CX0 k f fd ["self"] (spLen C)) (hr : Room (k + 1) X.A) (b : Binds X.K fd ["self"] []) (m : OwnM X.K C "__len__" f) : CallR X (.builtin "len") (rLenR C) := by
  intro pins s σ H xs us Q I r h
  obtain ⟨r0, M, rfl, hM, q⟩ := h
  rw [Vals.ref1 r]
  obtain ⟨ox, od, J⟩ := reg_inst I hM
  obtain ⟨mm, hF⟩ := I.fr
  obtain ⟨_, _, _, _, _, few⟩ := id hM
  refine PySem.W.len_K hF I.ok.mod.kin J m.at_ m.fn ?_
  refine wpAny_mono (run_at (Q := fun v H' => v = .int (M.length : Int) ∧ H' = H) (E := E0) (vs := [.ref r0]) O hr.in1 rfl b pass0 I (.cons rfl .nil) ⟨r0, M, rfl, hM, rfl, rfl⟩) (fun v s' z => ?_) fun _ _ z => z
  obtain ⟨v', H', I', rv, rfl, rfl⟩ := z
  obtain ⟨t, rfl⟩ := rv
  exact ⟨⟨by omega, by omega⟩, .int (M.length : Int), H', I'.tok _, ⟨_, rfl⟩, q⟩
def rBoolR (C : Addr) : List V → Hp → VK → Prop := fun xs H Q => ∃ r M, xs = [.ref r] ∧ RegAt C H r M ∧ Q (.bl (!M.isEmpty)) H
theorem call_boolR (O : FnOk X.prog X.w X.K X.mg X.base CX0 k f fd ["self"] (spBool C)) (hr : Room (k + 2) X.A) (b : Binds X.K fd ["self"] []) (m : OwnM X.K C "__bool__" f) : CallR X (.type "bool") (rBoolR C) := by
  intro pins s σ H xs us Q I r h
  obtain ⟨r0, M, rfl, hM, q⟩ := h
  rw [Vals.ref1 r]
  obtain ⟨ox, od, J⟩ := reg_inst I hM
  obtain ⟨mm, hF⟩ := I.fr
  refine call_boolT (PySem.W.truthy_K hF I.ok.mod.kin J m.at_ m.fn ?_)
  refine wpAny_mono (run_at (Q := fun v H' => v = .bl (!M.isEmpty) ∧ H' = H) (E := E0) (vs := [.ref r0]) O hr.in1.in1 rfl b pass0 I (.cons rfl .nil) ⟨r0, M, rfl, hM, rfl, rfl⟩) (fun v s' z => ?_) fun _ _ z => z
  obtain ⟨v', H', I', rv, rfl, rfl⟩ := z
  cases rv
  exact ⟨.bl _, H', I', rfl, q⟩
def rStrR (C : Addr) : List V → Hp → VK → Prop := fun xs H Q => ∃ r M, xs = [.ref r] ∧ RegAt C H r M ∧ (∀ c ∈ M, Mid c) ∧ ∀ H', Same H H' → Q (.str (regT M)) H'
theorem call_strR (O : FnOk X.prog X.w X.K X.mg X.base CX0 k f fd ["self"] (spStr C)) (hr : Room (k + 2) X.A) (b : Binds X.K fd ["self"] []) (m : OwnM X.K C "__str__" f) : CallR X (.type "str") (rStrR C) := by
  intro pins s σ H xs us Q I r h
  obtain ⟨r0, M, rfl, hM, mid, q⟩ := h
  rw [Vals.ref1 r]
  obtain ⟨ox, od, J⟩ := reg_inst I hM
  refine PySem.W.kso_call (hr.in1.in1.units0) I.kIn J m.at_ m.fn ?_
  refine wpAny_mono (run_at (Q := fun v H' => v = .str (regT M) ∧ Same H H') (E := E0) (vs := [.ref r0]) O hr.in1.in1 rfl b pass0 I (.cons rfl .nil) ⟨r0, M, rfl, hM, mid, fun H' s' => ⟨rfl, s'⟩⟩) (fun v s' z => ?_) fun _ _ z => z
  obtain ⟨v', H', I', rv, rfl, sm⟩ := z
  obtain ⟨t, rfl⟩ := rv
  exact ⟨.str (regT M), H', I', ⟨_, rfl⟩, q H' sm⟩
theorem regq_inst {pins : List (Addr × Obj)} {σ : L2.St} {H : Hp} {s : Shared} {r : Addr} {M : List Cell} (I : L2.Inv X pins σ H s) (h : RegQ C H r M) : ∃ ox od, PySem.W.InstAt s.heap r ox C od := by
  obtain ⟨dx, d, hr, _⟩ := h
  obtain ⟨mA, J, _⟩ := ins_get I.hok hr
  obtain ⟨od, J, _⟩ := J.look
  exact ⟨_, _, J⟩
/-- x in r, or not -/
def rMem (C : Addr) (neg : Bool) : R2 := fun x y H Q => ∃ t c r M, x = .ref t ∧ y = .ref r ∧ H t = some (CellO c) ∧ RegQ C H r M ∧ Q (.bl (neg != decide (c ∈ M))) H
theorem mem_run {pins : List (Addr × Obj)} {σ : L2.St} {H : Hp} {s : Shared} {A : Around} {Q : Bool → Shared → Prop} (O : FnOk X.prog X.w X.K X.mg X.base CX0 k f fd ["self", "cell"] (spIn C)) (hr : Room k A) (b : Binds X.K fd ["self", "cell"] []) (I : L2.Inv X pins σ H s) {r0 t : Addr} {c : Cell} {M : List Cell} (hM : RegQ C H r0 M) (ht : H t = some (CellO c)) (eA : A = X.A)
    (q : ∀ s', L2.Inv X pins σ H s' → Q (decide (c ∈ M)) s') : wpAny (model X.prog X.w) A (call (.ref f) [.ref r0, .ref t]) (fun v s' => wpAny (model X.prog X.w) A (truthy v) Q X.xe s') X.xe s := by
  subst eA
  refine wpAny_mono (run_at (Q := fun v H' => v = .bl (decide (c ∈ M)) ∧ H' = H) (E := E0) (vs := [.ref r0, .ref t]) O hr rfl b pass0 I (.cons rfl (.cons rfl .nil)) ⟨r0, t, c, M, rfl, hM, ht, rfl, rfl⟩) (fun v s' z => ?_) fun _ _ z => z
  obtain ⟨v', H', I', rv, rfl, rfl⟩ := z
  cases rv
  exact wpAny_truthy_bool (q _ I')
theorem op_inR (O : FnOk X.prog X.w X.K X.mg X.base CX0 k f fd ["self", "cell"] (spIn C)) (hr : Room k X.A) (b : Binds X.K fd ["self", "cell"] []) (m : OwnM X.K C "__contains__" f) : OpR X (compareOp .In) (rMem C false) := by
  intro pins s σ H x y v u Q I rx ry h
  obtain ⟨t, c, r0, M, rfl, rfl, ht, hM, q⟩ := h
  obtain rfl : v = Value.ref t := rx
  obtain rfl : u = Value.ref r0 := ry
  obtain ⟨ox, od, J⟩ := regq_inst I hM
  obtain ⟨mm, hF⟩ := I.fr
  refine PySem.W.in_K hF I.ok.mod.kin J m.at_ m.fn (mem_run O hr b I hM ht rfl fun s' I' => ⟨.bl (decide (c ∈ M)), H, I', rfl, ?_⟩)
  rw [show decide (c ∈ M) = (false != decide (c ∈ M)) by simp]
  exact q
theorem op_notInR (O : FnOk X.prog X.w X.K X.mg X.base CX0 k f fd ["self", "cell"] (spIn C)) (hr : Room k X.A) (b : Binds X.K fd ["self", "cell"] []) (m : OwnM X.K C "__contains__" f) : OpR X (compareOp .NotIn) (rMem C true) := by
  intro pins s σ H x y v u Q I rx ry h
  obtain ⟨t, c, r0, M, rfl, rfl, ht, hM, q⟩ := h
  obtain rfl : v = Value.ref t := rx
  obtain rfl : u = Value.ref r0 := ry
  obtain ⟨ox, od, J⟩ := regq_inst I hM
  obtain ⟨mm, hF⟩ := I.fr
  refine PySem.W.notIn_K hF I.ok.mod.kin J m.at_ m.fn (mem_run O hr b I hM ht rfl fun s' I' => ⟨.bl (!decide (c ∈ M)), H, I', rfl, ?_⟩)
  rw [show (!decide (c ∈ M)) = (true != decide (c ∈ M)) by simp]
  exact q
end
/-! ### == with a list -/
section
variable {P : Program} {w : World} {K : PySem.W.Frag} {mg : Str → Option Value} {base : Heap}
structure NotT (K : PySem.W.Frag) (C : Addr) (T : String) : Prop where
  ic : PySem.W.isClsIn K C = true
  ty : PySem.W.typeIn K (.ref C) = some (.type "type")
  sub : PySem.W.subIn K (.type T) (.ref C) = some false
theorem NotT.kit {C : Addr} {T : String} (n : NotT K C T) : PySem.W.kitOne K (.type T) (.ref C) = some false := by
  unfold PySem.W.kitOne
  rw [if_neg (by simp)]
  show (if ((PySem.W.clsIn K C).isSome && PySem.W.typeIn K (.ref C) == some (.type "type")) = true then PySem.W.subIn K (.type T) (.ref C) else none) = some false
  rw [if_pos (by rw [show (PySem.W.clsIn K C).isSome = true from n.ic, n.ty]; rfl)]
  exact n.sub
def spEqL (C : Addr) : Sp := fun vs H Q _ => ∃ r a M xs, vs = [.ref r, .ref a] ∧ RegAt C H r M ∧ H a = some (.lst xs) ∧ Q (.bl false) H
theorem ok_eqL {f C : Addr} {fd : FuncData} (F : Fun K "__eq__" "Region.__eq__" cEq f fd) (T : CTxt K mg C) (n : NotT K C "list") : FnOk P w K mg base CX0 1 f fd ["self", "other"] (spEqL C) := by
  refine F.ok scEq (fun vs H Q E h => ?_) (fun cdv A outer s H vs Q E hr h => ?_)
  · obtain ⟨r, a, M, xs, rfl, _⟩ := h
    rfl
  · obtain ⟨r, a, M, xs, rfl, hM, ha, q⟩ := h
    refine ⟨_, pss_one (ps_ret (pe_and (pe_callB call_isi (by rfl) T.isi (by decide +kernel) (pa_cons (pv 1) (pa_cons (pe_glob (v := .ref C) (by rfl) T.t.mgC rfl) pa_nil)))
      (pe_one (pe_cmpR (op_eqM (hu_of hr)) (pe_fld (pv 0) rfl) (pe_fld (pv 1) rfl) (nomark _))))), ?_⟩
    exact ⟨_, rfl, .ref a, .ref C, .type "list", .ref C, false, rfl, .own C, .base (.lst ha), n.kit, false, rfl, q⟩
end
section
variable {X : Cx} {C f : Addr} {fd : FuncData} {k : Nat}
def rNeL (C : Addr) : R2 := fun x y H Q => ∃ r a M xs, x = .ref r ∧ y = .ref a ∧ RegAt C H r M ∧ H a = some (.lst xs) ∧ Q (.bl true) H
theorem op_neL (O : FnOk X.prog X.w X.K X.mg X.base CX0 k f fd ["self", "other"] (spEqL C)) (hr : Room (k + 1) X.A) (b : Binds X.K fd ["self", "other"] []) (sub : PySem.W.subIn X.K (.ref C) (.type "object") = some true)
    (ne : PySem.W.findIn X.K (.ref C) "__ne__" = some (some (.builtin "object.__ne__"))) (m : OwnM X.K C "__eq__" f) (n : NotT X.K C "list") : OpR X (compareOp .NotEq) (rNeL C) := by
  intro pins s σ H x y v u Q I rx ry h
  obtain ⟨r, a, M, xs, rfl, rfl, hM, ha, q⟩ := h
  obtain rfl : v = Value.ref r := rx
  obtain rfl : u = Value.ref a := ry
  obtain ⟨ox, od, J⟩ := reg_inst I hM
  obtain ⟨_, its, c, _, e⟩ := (show ObjOk X.prog X.w H s.heap a (.lst xs) from I.hok a _ ha)
  have hu := hr.un
  refine ne_own (tb := .type "list") (by omega) I.kIn J ((PySem.W.Looks.ld e).andThen .now) ?_ sub ne m.at_ m.fn ?_
  · show ((Value.type "list" == .ref C) || (PySem.W.subIn X.K (.type "list") (.ref C) == some false)) = true
    rw [n.sub]
    simp
  refine wpAny_mono (run_at (Q := fun v H' => v = .bl false ∧ H' = H) (E := E0) (vs := [.ref r, .ref a]) O hr.in1 rfl b pass0 I (.cons rfl (.cons rfl .nil)) ⟨r, a, M, xs, rfl, hM, ha, rfl, rfl⟩) (fun v s' z => ?_) fun _ _ z => z
  obtain ⟨v', H', I', rv, rfl, rfl⟩ := z
  cases rv
  exact ⟨false, rfl, .bl true, H', I', rfl, q⟩
end
/-! ### several drawn cells -/
section
variable {P : Program} {w : World} {K : PySem.W.Frag} {mg : Str → Option Value} {base : Heap}
def spSpots : Sp := fun vs H Q _ => ∃ b l most, vs = [.ref b, .int most] ∧ BagL H b l ∧ 0 ≤ most ∧ most ≤ 1000 ∧
  ∀ p ks H', SameBut b H H' → BagL H' b l → H p = none → H' p = some (.lst (refs ks)) → Tups H' ks → (ks.length : Int) ≤ most → (∀ c ∈ cellsOf ks, Small c) → Q (.ref p) H'
theorem scSpots : FnScope ["_law_bag_here", "_law_most", "_law_spots_here", "_law_k", "_law_spot_here"] ["_law_bag_here", "_law_most"] (defScope lSpots) := ⟨rfl, rfl, rfl, by decide +kernel, rfl, by decide +kernel, by decide +kernel⟩
theorem bag_b {H : Hp} {b l : Addr} (h : BagL H b l) : ∃ xs, H b = some (.lst xs) := by
  obtain ⟨_, _, _, _, hb, _⟩ := h
  exact ⟨_, hb⟩
theorem but_same {b : Addr} {H H' : Hp} (h : But b H H') : SameBut b H H' := fun a o ha e => (h a ha).trans e
theorem sb_trans {b : Addr} {H H1 H2 : Hp} (h : SameBut b H H1) (k : SameBut b H1 H2) : SameBut b H H2 := fun a o ha e => k a o ha (h a o ha e)
theorem ok_spots {f g t : Addr} {fd gd td : FuncData} (F : Fun K "_law_spots" "_law_spots" lSpots f fd) (OS : FnOk P w K mg base CX0 2 g gd ["_law_bag_here"] spSpot) (kS : PySem.W.keepIn K (.ref g) = true) (bS : Binds K gd ["_law_bag_here"] []) (gS : mg "_law_spot" = some (.ref g))
    (OT : FnOk P w K mg base CX0 1 t td ["_law_bag_here", "_law_size"] spTake) (kT : PySem.W.keepIn K (.ref t) = true) (bT : Binds K td ["_law_bag_here", "_law_size"] []) (gT : mg "_law_take" = some (.ref t)) (mlen : mg "len" = none) (mr : mg "range" = none) :
    FnOk P w K mg base CX0 3 f fd ["_law_bag_here", "_law_most"] spSpots := by
  refine F.ok scSpots (fun vs H Q E h => ?_) (fun cdv A outer s H vs Q E hr h => ?_)
  · obtain ⟨b, l, most, rfl, _⟩ := h
    rfl
  · obtain ⟨b, l, most, rfl, hb, m0, m1, k⟩ := h
    have hr1 : Room 1 _ := hr.mono (by decide)
    refine ⟨_, pss_cons (ps_set (i := 2) scSpots.nd rfl (.inl rfl) (pe_lst pa_nil))
      (pss_cons (ps_for PassesOwn.never rfl (pi_range1 (by rfl) mr (pa_cons (pe_call OT hr1 (by rfl) gT kT bT .nil pass0 (pa_cons (pv 0) (pa_cons (pe_op op_add (pv 1) pe_int) pa_nil))) pa_nil)) (pg_name (i := 3) scSpots.nd rfl (.inl rfl))
        (pss_cons (ps_set (i := 4) scSpots.nd rfl (.inl rfl) (pe_call OS hr (by rfl) gS kS bS .nil pass0 (pa_cons (pv 0) pa_nil)))
        (C8.pss_cut (ps_if (PW.pt (pw_and (pt_cmpR op_gt (pe_callB call_len_seq (by rfl) mlen PySem.boot_len (pa_cons (pv 2) pa_nil)) pe_int (nomark _)) (pw_and1 (pt_cmpR op_eq (pe_call OT hr1 (by rfl) gT kT bT .nil pass0 (pa_cons (pv 0) (pa_cons pe_int pa_nil))) pe_int (nomark _)))))
          (pss_one (ps_set (i := 4) scSpots.nd rfl (.inl rfl) (pe_ix ix_list (pv 2) (pe_call OT hr1 (by rfl) gT kT bT .nil pass0 (pa_cons (pv 0) (pa_cons (pe_callB call_len_seq (by rfl) mlen PySem.boot_len (pa_cons (pv 2) pa_nil)) pa_nil))) (fun _ _ => rfl)))) pss_nil)
        (pss_one (ps_expr (pe_bm PySem.F.plainAttrs_list PySem.F.slot_list_append PySem.F.type_list_append mt_append (pv 2) (pa_cons (pv 4) pa_nil)))))))
      (pss_one (ps_ret (pv 2)))), ?_⟩
    refine ⟨Nat.zero_le _, fun o no => ?_⟩
    have nol : o ≠ l := fun e => by
      obtain ⟨_, _, _, _, _, e2, _⟩ := hb
      rw [e, e2] at no
      cases no
    have nob : o ≠ b := fun e => by
      obtain ⟨xs, e2⟩ := bag_b hb
      rw [e, e2] at no
      cases no
    refine ⟨_, rfl, _, rfl, _, _, rfl, rfl, b, l, most + 1, rfl, bag_upd hb no, by omega, by omega, fun n H1 n0 n1 bu hb1 => ?_⟩
    have s1 : SameBut b H H1 := fun a u ha e => (bu a ha).trans ((same_upd no) _ _ e)
    have ho1 : H1 o = some (.lst (refs [])) := (bu o nob).trans upd_same
    refine ⟨n, rfl, by omega, by omega, for_range (lo := 0) (n := n.toNat) (fun i σ G => ∃ y z ks, σ = [some (.ref b), some (.int most), some (.ref o), y, z] ∧ SameBut b H G ∧ BagL G b l ∧ G o = some (.lst (refs ks)) ∧ Tups G ks ∧ ks.length ≤ i ∧ ks.length ≤ 1000 ∧ ∀ c ∈ cellsOf ks, Small c)
      ⟨_, _, [], rfl, s1, hb1, ho1, (fun p hp => nomatch hp), Nat.zero_le _, Nat.zero_le _, fun c hc => nomatch hc⟩ ?_ ?_⟩
    · rintro i σ G hi ⟨y, z, ks, rfl, sG, bG, hoG, hk, hl, hl2, sm⟩
      refine ⟨_, rfl, b, l, rfl, bG, fun t c G1 smc sb1 bG1 nt ht => ?_⟩
      have ho1 : G1 o = some (.lst (refs ks)) := sb1 o _ nob hoG
      have hk1 : Tups G1 ks := fun p hp => sb1 _ _ (ne_of (hk p hp) (bag_b bG).choose_spec (by intro z; cases z)) (hk p hp)
      have sG1 := sb_trans sG sb1
      -- what stands behind the if
      refine ⟨fun σ G => ∃ y t c, σ = [some (.ref b), some (.int most), some (.ref o), y, some (.ref t)] ∧ SameBut b H G ∧ BagL G b l ∧ G o = some (.lst (refs ks)) ∧ Tups G ks ∧ G t = some (CellO c) ∧ Small c, ?_, ?_⟩
      · refine ⟨_, rfl, o, _, rfl, .inl (SqL.of ho1), _, _, rfl, rfl, _, rfl, ite2 (fun e => ?_) (fun _ => ⟨_, t, c, rfl, sG1, bG1, ho1, hk1, ht, smc⟩)⟩
        have pos : 0 < ks.length := by
          have z : (0 : Int) < ((refs ks).length : Int) := of_decide_eq_true e
          rw [refs_len] at z
          omega
        refine ⟨_, rfl, b, l, 4, rfl, bG1, by decide, by decide, fun m G2 p0 p1 bu2 bG2 => ⟨rfl, _, rfl, ?_⟩⟩
        have tr : ∀ {t : Addr} {c : Cell}, G1 t = some (CellO c) → G2 t = some (CellO c) := fun {t c} g => (bu2 t (ne_of g (bag_b bG1).choose_spec (by intro z; cases z))).trans g
        have ho2 : G2 o = some (.lst (refs ks)) := (bu2 o nob).trans ho1
        have sG2 := sb_trans sG1 (but_same bu2)
        refine ite2 (fun _ => ?_) (fun _ => ⟨_, t, c, rfl, sG2, bG2, ho2, fun p hp => tr (hk1 p hp), tr ht, smc⟩)
        refine ⟨_, rfl, _, rfl, _, rfl, o, _, rfl, .inl (SqL.of ho2), b, l, _, rfl, bG2, ?_, ?_, fun m2 G3 q0 q1 bu3 bG3 => ?_⟩
        · rw [refs_len]
          omega
        · rw [refs_len]
          omega
        rw [refs_len] at q1
        have tr3 : ∀ {t : Addr} {c : Cell}, G2 t = some (CellO c) → G3 t = some (CellO c) := fun {t c} g => (bu3 t (ne_of g (bag_b bG2).choose_spec (by intro z; cases z))).trans g
        have ho3 : G3 o = some (.lst (refs ks)) := (bu3 o nob).trans ho2
        obtain ⟨j, rfl⟩ : ∃ j : Nat, m2 = (j : Int) := ⟨m2.toNat, by omega⟩
        have hj : j < ks.length := by omega
        have gj : (refs ks)[j]? = some (.ref ks[j].1) := by
          unfold refs
          rw [List.getElem?_map, List.getElem?_eq_getElem hj]
          rfl
        have mj : ks[j] ∈ ks := List.getElem_mem hj
        refine ⟨o, _, (j : Int), _, rfl, rfl, SqL.of ho3, atI_nat gj, ?_⟩
        exact ⟨_, ks[j].1, ks[j].2, rfl, sb_trans sG2 (but_same bu3), bG3, ho3, fun p hp => tr3 (tr (hk1 p hp)), tr3 (tr (hk1 _ mj)), sm _ (List.mem_map.mpr ⟨_, mj, rfl⟩)⟩
      · rintro σ G2 ⟨y, t, c, rfl, s2, b2, ho2, hk2, ht2, sm2⟩
        refine ⟨_, rfl, .inl ⟨rfl, _, SqL.of ho2⟩, _, rfl, o, _, _, rfl, rfl, ho2, ?_, ?_⟩
        · rw [refs_len]
          exact small1000 (by omega)
        refine ⟨_, _, ks ++ [(t, c)], rfl, fun a u ha e => ?_, ?_, ?_, fun p hp => ?_, ?_, ?_, fun d hd => ?_⟩
        · rw [upd_ne (ne_of_none e no)]
          exact s2 a u ha e
        · obtain ⟨ns, ii, p, q, hb2, hl2, rr⟩ := b2
          exact ⟨ns, ii, p, q, by rw [upd_ne nob.symm]; exact hb2, by rw [upd_ne nol.symm]; exact hl2, rr⟩
        · rw [upd_same]
          unfold refs
          rw [List.map_append]
          rfl
        · rcases List.mem_append.mp hp with z | z
          · rw [upd_ne (ne_of (hk2 p z) ho2 (by intro q; cases q))]
            exact hk2 p z
          · have ep : p = (t, c) := by simpa using z
            rw [ep, upd_ne (ne_of ht2 ho2 (by intro q; cases q))]
            exact ht2
        · rw [List.length_append]
          show ks.length + 1 ≤ i + 1
          omega
        · rw [List.length_append]
          show ks.length + 1 ≤ 1000
          omega
        · unfold cellsOf at hd
          rw [List.map_append] at hd
          rcases List.mem_append.mp hd with z | z
          · exact sm d z
          · have ed : d = c := by simpa using z
            rw [ed]
            exact sm2
    · rintro σ G ⟨y, z, ks, rfl, sG, bG, hoG, hk, hl, hl2, sm⟩
      exact ⟨_, rfl, k o ks G sG bG no hoG hk (by omega) sm⟩
end
end SmL
namespace SmL
open PySem PySem.Spec PyProof.Rows L2 ClX StX Sm
abbrev lLaw : Stmt := top 19
section
variable {P : Program} {w : World} {K : PySem.W.Frag} {mg : Str → Option Value} {base : Heap}
/-! ### a region is as due -/
def spIs (K : PySem.W.Frag) (C : Addr) : Sp := fun vs H Q _ => ∃ r a M ks, vs = [.ref r, .ref a] ∧ RegAt C H r M ∧ SqL K H a (refs ks) ∧ Tups H ks ∧ cellsOf ks = M ∧ ∀ H', Same H H' → Q (.bl true) H'
theorem scIs : FnScope ["_law_region", "_law_due", "_law_told"] ["_law_region", "_law_due"] (defScope lIs) := ⟨rfl, rfl, rfl, by decide +kernel, rfl, by decide +kernel, by decide +kernel⟩
theorem ok_is {f g c C : Addr} {fd gd cd : FuncData} (F : Fun K "_law_region_is" "_law_region_is" lIs f fd) (OG : FnOk P w K mg base CX0 3 g gd ["_law_value"] spCells) (kG : PySem.W.keepIn K (.ref g) = true) (bG : Binds K gd ["_law_value"] [])
    (gG : mg "_law_is_cells" = some (.ref g)) (OC : FnOk P w K mg base CX0 1 c cd ["self"] (spCs C)) (mC : Meth K C "cells" c) (bC : Binds K cd ["self"] []) (T : CTxt K mg C) : FnOk P w K mg base CX0 4 f fd ["_law_region", "_law_due"] (spIs K C) := by
  refine F.ok scIs (fun vs H Q E h => ?_) (fun cdv A outer s H vs Q E hr h => ?_)
  · obtain ⟨r, a, M, ks, rfl, _⟩ := h
    rfl
  · obtain ⟨r, a, M, ks, rfl, hM, ha, ht, eM, k⟩ := h
    have hr1 : Room 1 _ := hr.mono (by decide)
    refine ⟨_, pss_cons (ps_if (pt_not (pt_val (pe_callB call_isi (by rfl) T.isi (by decide +kernel) (pa_cons (pv 0) (pa_cons (pe_glob (v := .ref C) (by rfl) T.t.mgC rfl) pa_nil))))) (pss_one (ps_ret pe_bl)) pss_nil)
      (pss_cons (ps_set (i := 2) scIs.nd rfl (.inl rfl) (pe_meth0 (pv 0) T.t.cl mC OC hr1 bC .nil pass0))
      (pss_one (ps_ret (pe_and (pe_call OG hr (by rfl) gG kG bG .nil pass0 (pa_cons (pv 2) pa_nil)) (pe_one (pe_cmpR (op_eqD hr.units) (pv 2) (pv 1) (nomark _))))))), ?_⟩
    refine ⟨_, rfl, .ref r, .ref C, .ref C, .ref C, true, rfl, .own C, T.ty hM, T.kk, true, rfl, iteF ?_⟩
    obtain ⟨dx, d, hr0, _⟩ := id hM
    refine ⟨_, rfl, r, dx, _, rfl, hr0, rfl, r, M, rfl, hM, fun p ms H1 s1 np hp hms em => ?_⟩
    refine ⟨_, rfl, p, ms, rfl, hp, hms, true, rfl, ?_⟩
    refine ⟨_, rfl, _, rfl, _, _, dp_list (SqL.of hp) hms, dp_list (s1.seq ha) (ht.same s1), dCs_shaped _, dCs_shaped _, ?_⟩
    rw [em, eM, dCs_eqv, decide_eq_true rfl]
    exact k H1 s1
/-! ### the law -/
structure Cl (P : Program) (w : World) (K : PySem.W.Frag) (mg : Str → Option Value) (base : Heap) (k : Nat) (name : Str) (ps : List Str) (sp : Sp) (f : Addr) (fd : FuncData) : Prop where
  ok : FnOk P w K mg base CX0 k f fd ps sp
  kp : PySem.W.keepIn K (.ref f) = true
  bd : Binds K fd ps []
  gl : mg name = some (.ref f)
theorem back {H H' : Hp} (s : Same H H') {t : Addr} (h : H' t = none) : H t = none := by
  cases z : H t with
  | none => rfl
  | some o =>
    rw [s _ _ z] at h
    cases h
theorem reg_upd {C : Addr} {H : Hp} {r l : Addr} {xs ys : List V} {M : List Cell} (hl : H l = some (.lst xs)) (h : RegAt C H r M) : RegAt C (upd H l (.lst ys)) r M := by
  obtain ⟨dx, d, hr, hd, x⟩ := h
  exact ⟨dx, d, by rw [upd_ne (ne_of hr hl (by intro z; cases z))]; exact hr, by rw [upd_ne (ne_of hd hl (by intro z; cases z))]; exact hd, x⟩
structure OwnN (K : PySem.W.Frag) (C : Addr) : Prop where
  sub : PySem.W.subIn K (.ref C) (.type "object") = some true
  ne : PySem.W.findIn K (.ref C) "__ne__" = some (some (.builtin "object.__ne__"))
end
end SmL
namespace SmL
open PySem PySem.Spec PyProof.Rows L2 Sm
/-! ### own operators of two regions -/
section
variable {prog : Program} {w : World} {A : Around} {E : Value → Shared → Prop} {s : Shared} {K : PySem.W.Frag} {x C f : Addr} {ox : Obj} {od : Option Obj} {b : Value} {nm : String}
/-- the class's own list of classes: itself, object -/
structure Two (K : PySem.W.Frag) (C : Addr) : Prop where
  mro : ∃ cd, PySem.W.clsIn K C = some cd ∧ cd.mro = [.ref C, .type "object"]
theorem one_bin {Q : Value → Shared → Prop} (X : K.In s.heap) (I : PySem.W.InstAt s.heap x ox C od) (hb : PySem.W.Looks (model prog w) s.heap (typeOf b) (.ref C)) (T : Two K C) (hs : PySem.W.findIn K (.ref C) (dunder nm) = some (some (.ref f)))
    (hf : PySem.W.isFn K (.ref f) = true) (h : wpAny (model prog w) A (call (.ref f) [.ref x, b]) (PySem.W.CmpBack Q) E s) : wpAny (model prog w) A (binaryOp1 nm (.ref x) b) (fun r s' => ∃ v, r = some v ∧ Q v s') E s := by
  obtain ⟨cd, hc, hm⟩ := T.mro
  have one := PySem.W.ksp_try X I hs hf h
  obtain ⟨hh, g, d, tt, os⟩ := s
  have k1 : PySem.W.Looks (model prog w) hh (typeOf (.ref x)) (.ref C) := I.type
  have k2 : PySem.W.Looks (model prog w) hh (fillsNumberSlot (.ref C) nm) true := PySem.W.fills_K X hc hm hs
  unfold binaryOp1
  ksp_lk
  rw [if_pos (beq_self_eq_true (Value.ref C))]
  ksp_lk
  refine wpAny_mono one (fun r s' z => ?_) fun _ _ z => z
  obtain ⟨v, rfl, q⟩ := z
  ksp_lk
  exact ⟨v, rfl, q⟩
theorem no_inplace {h : Heap} {add : Bool} (X : K.In h) (T : Two K C) (hn : PySem.W.findIn K (.ref C) (dunderI nm) = some none) (ho : PySem.W.findIn K (.type "object") (dunderI nm) = some none) : PySem.W.Looks (model prog w) h (fillsInplaceSlot (.ref C) nm add) false := by
  obtain ⟨cd, hc, hm⟩ := T.mro
  intro A Q E s k q
  obtain ⟨hh, g, d, tt, os⟩ := s
  have X' : K.In hh := X.keeps k
  have k0 : PySem.W.Looks (model prog w) hh (mroOf (.ref C)) cd.mro := ((PySem.W.looks_clsIn X' hc).andThen (f := fun cd => pure cd.mro) .now)
  rw [hm] at k0
  have k1 : PySem.W.Looks (model prog w) hh (typeLookup (.ref C) (dunderI nm)) none := PySem.W.looks_findIn X' hn
  have k2 : PySem.W.Looks (model prog w) hh (typeLookup (.type "object") (dunderI nm)) none := PySem.W.looks_findIn X' ho
  unfold fillsInplaceSlot
  refine wpAny_bind (k0.at ?_)
  rw [List.anyM_cons]
  refine wpAny_bind ?_
  repeat lk
  exact q
theorem own_inplace {op : Operator} {Q : Value → Shared → Prop} (X : K.In s.heap) (I : PySem.W.InstAt s.heap x ox C od) (hb : PySem.W.Looks (model prog w) s.heap (typeOf b) (.ref C)) (T : Two K C) (hs : PySem.W.findIn K (.ref C) (dunder op.info.2) = some (some (.ref f)))
    (hn : PySem.W.findIn K (.ref C) (dunderI op.info.2) = some none) (ho : PySem.W.findIn K (.type "object") (dunderI op.info.2) = some none)
    (hf : PySem.W.isFn K (.ref f) = true) (h : wpAny (model prog w) A (call (.ref f) [.ref x, b]) (PySem.W.CmpBack Q) E s) : wpAny (model prog w) A (inplaceOp op (.ref x) b) Q E s := by
  have one := one_bin X I hb T hs hf h
  have k2 := no_inplace (prog := prog) (w := w) (add := op == .Add) X T hn ho
  obtain ⟨hh, g, d, tt, os⟩ := s
  have k1 : PySem.W.Looks (model prog w) hh (typeOf (.ref x)) (.ref C) := I.type
  unfold inplaceOp
  refine wpAny_holding ?_
  refine wpAny_bind (k1.at ?_)
  refine wpAny_bind (k2.at ?_)
  refine wpAny_bind (wpAny_mono one (fun r s' z => ?_) fun _ _ z => z)
  obtain ⟨v, rfl, q⟩ := z
  exact wpAny_pure q
end
/-! ### as rules -/
section
variable {X : Cx} {C f : Addr} {fd : FuncData} {k : Nat} {D : List Cell → List Cell → List Cell}
def spBin (C : Addr) (D : List Cell → List Cell → List Cell) : Sp := fun vs H Q _ => ∃ r q M N, vs = [.ref r, .ref q] ∧ RegAt C H r M ∧ RegAt C H q N ∧ M.length + N.length < 60 ∧
  ∀ z L H', Same H H' → H z = none → Reading (D M N) L → RegAt C H' z L → Q (.ref z) H'
def rBin (C : Addr) (D : List Cell → List Cell → List Cell) : R2 := fun x y H Q => ∃ r q M N, x = .ref r ∧ y = .ref q ∧ RegAt C H r M ∧ RegAt C H q N ∧ M.length + N.length < 60 ∧
  ∀ z L H', Same H H' → H z = none → Reading (D M N) L → RegAt C H' z L → Q (.ref z) H'
theorem bin_run {pins : List (Addr × Obj)} {σ : L2.St} {H : Hp} {s : Shared} {Q : VK} (O : FnOk X.prog X.w X.K X.mg X.base CX0 k f fd ["self", "other"] (spBin C D)) (hr : Room k X.A) (b : Binds X.K fd ["self", "other"] []) (I : L2.Inv X pins σ H s) {r q : Addr} {M N : List Cell}
    (hM : RegAt C H r M) (hN : RegAt C H q N) (few : M.length + N.length < 60) (go : ∀ z L H', Same H H' → H z = none → Reading (D M N) L → RegAt C H' z L → Q (.ref z) H') :
    wpAny (model X.prog X.w) X.A (call (.ref f) [.ref r, .ref q]) (PySem.W.CmpBack (EP X pins σ Q)) X.xe s := by
  refine wpAny_mono (run_at (Q := fun v H' => ∃ z, v = .ref z ∧ Q v H') (E := E0) (vs := [.ref r, .ref q]) O hr rfl b pass0 I (.cons rfl (.cons rfl .nil)) ⟨r, q, M, N, rfl, hM, hN, few, fun z L H' s1 nz rd ra => ⟨z, rfl, go z L H' s1 nz rd ra⟩⟩) (fun v s' z => ?_) fun _ _ z => z
  obtain ⟨v', H', I', rv, z, rfl, hq⟩ := z
  obtain rfl : v = Value.ref z := rv
  exact ⟨.ref z, H', I', rfl, hq⟩
theorem op_bin {op : Operator} (O : FnOk X.prog X.w X.K X.mg X.base CX0 k f fd ["self", "other"] (spBin C D)) (hr : Room k X.A) (b : Binds X.K fd ["self", "other"] []) (sf : PySem.W.selfFirst X.K C = true) (m : OwnM X.K C (dunder op.info.2) f) : OpR X (binaryOp op) (rBin C D) := by
  intro pins s σ H x y v u Q I rx ry h
  obtain ⟨r, q, M, N, rfl, rfl, hM, hN, few, go⟩ := h
  obtain rfl : v = Value.ref r := rx
  obtain rfl : u = Value.ref q := ry
  obtain ⟨ox, od, J⟩ := reg_inst I hM
  obtain ⟨ox', od', J'⟩ := reg_inst I hN
  obtain ⟨mm, hF⟩ := I.fr
  exact PySem.W.binop_K hF I.ok.mod.kin J J'.type sf m.at_ m.fn (bin_run O hr b I hM hN few go)
structure NoI (K : PySem.W.Frag) (C : Addr) (op : Operator) : Prop where
  cls : PySem.W.findIn K (.ref C) (dunderI op.info.2) = some none
  obj : PySem.W.findIn K (.type "object") (dunderI op.info.2) = some none
theorem op_iop {op : Operator} (O : FnOk X.prog X.w X.K X.mg X.base CX0 k f fd ["self", "other"] (spBin C D)) (hr : Room k X.A) (b : Binds X.K fd ["self", "other"] []) (T : Two X.K C) (n : NoI X.K C op) (m : OwnM X.K C (dunder op.info.2) f) : PIp X op (rBin C D) := by
  intro pins s σ H x y v u Q I rx ry h
  obtain ⟨r, q, M, N, rfl, rfl, hM, hN, few, go⟩ := h
  obtain rfl : v = Value.ref r := rx
  obtain rfl : u = Value.ref q := ry
  obtain ⟨ox, od, J⟩ := reg_inst I hM
  obtain ⟨ox', od', J'⟩ := reg_inst I hN
  exact own_inplace I.kIn J J'.type T m.at_ n.cls n.obj m.fn (bin_run O hr b I hM hN few go)
/-! ### == and != -/
def rEqR (C : Addr) (neg : Bool) : R2 := fun x y H Q => ∃ r q M N, x = .ref r ∧ y = .ref q ∧ RegAt C H r M ∧ RegAt C H q N ∧ Q (.bl (neg != decide (M = N))) H
theorem op_eqR (O : FnOk X.prog X.w X.K X.mg X.base CX0 k f fd ["self", "other"] (spEqR C)) (hr : Room k X.A) (b : Binds X.K fd ["self", "other"] []) (m : OwnM X.K C "__eq__" f) : OpR X (compareOp .Eq) (rEqR C false) := by
  intro pins s σ H x y v u Q I rx ry h
  obtain ⟨r, q, M, N, rfl, rfl, hM, hN, go⟩ := h
  obtain rfl : v = Value.ref r := rx
  obtain rfl : u = Value.ref q := ry
  obtain ⟨ox, od, J⟩ := reg_inst I hM
  obtain ⟨ox', od', J'⟩ := reg_inst I hN
  obtain ⟨mm, hF⟩ := I.fr
  have hu := hr.un
  show wpAny _ _ (richCompare .Eq _ _) _ _ _
  refine PySem.W.cmp_K (op := .Eq) (by omega) hF I.ok.mod.kin J J'.type (by simp [PySem.W.notFirst]) m.at_ m.fn ?_
  refine wpAny_mono (run_at (Q := fun v H' => v = .bl (decide (M = N)) ∧ H' = H) (E := E0) (vs := [.ref r, .ref q]) O hr rfl b pass0 I (.cons rfl (.cons rfl .nil)) ⟨r, q, M, N, rfl, hM, hN, rfl, rfl⟩) (fun v s' z => ?_) fun _ _ z => z
  obtain ⟨v', H', I', rv, rfl, rfl⟩ := z
  cases rv
  refine ⟨.bl (decide (M = N)), H', I', rfl, ?_⟩
  rw [show decide (M = N) = (false != decide (M = N)) by simp]
  exact go
theorem op_neR (O : FnOk X.prog X.w X.K X.mg X.base CX0 k f fd ["self", "other"] (spEqR C)) (hr : Room (k + 1) X.A) (b : Binds X.K fd ["self", "other"] []) (N0 : OwnN X.K C) (m : OwnM X.K C "__eq__" f) : OpR X (compareOp .NotEq) (rEqR C true) := by
  intro pins s σ H x y v u Q I rx ry h
  obtain ⟨r, q, M, N, rfl, rfl, hM, hN, go⟩ := h
  obtain rfl : v = Value.ref r := rx
  obtain rfl : u = Value.ref q := ry
  obtain ⟨ox, od, J⟩ := reg_inst I hM
  obtain ⟨ox', od', J'⟩ := reg_inst I hN
  have hu := hr.un
  refine ne_own (tb := .ref C) (by omega) I.kIn J J'.type (by simp [PySem.W.notFirst]) N0.sub N0.ne m.at_ m.fn ?_
  refine wpAny_mono (run_at (Q := fun v H' => v = .bl (decide (M = N)) ∧ H' = H) (E := E0) (vs := [.ref r, .ref q]) O hr.in1 rfl b pass0 I (.cons rfl (.cons rfl .nil)) ⟨r, q, M, N, rfl, hM, hN, rfl, rfl⟩) (fun v s' z => ?_) fun _ _ z => z
  obtain ⟨v', H', I', rv, rfl, rfl⟩ := z
  cases rv
  refine ⟨decide (M = N), rfl, .bl (!decide (M = N)), H', I', rfl, ?_⟩
  rw [show (!decide (M = N)) = (true != decide (M = N)) by simp]
  exact go
def rEqL (C : Addr) : R2 := fun x y H Q => ∃ r a M xs, x = .ref r ∧ y = .ref a ∧ RegAt C H r M ∧ H a = some (.lst xs) ∧ Q (.bl false) H
theorem op_eqL (O : FnOk X.prog X.w X.K X.mg X.base CX0 k f fd ["self", "other"] (spEqL C)) (hr : Room k X.A) (b : Binds X.K fd ["self", "other"] []) (m : OwnM X.K C "__eq__" f) (n : NotT X.K C "list") : OpR X (compareOp .Eq) (rEqL C) := by
  intro pins s σ H x y v u Q I rx ry h
  obtain ⟨r, a, M, xs, rfl, rfl, hM, ha, q⟩ := h
  obtain rfl : v = Value.ref r := rx
  obtain rfl : u = Value.ref a := ry
  obtain ⟨ox, od, J⟩ := reg_inst I hM
  obtain ⟨_, its, c, _, e⟩ := (show ObjOk X.prog X.w H s.heap a (.lst xs) from I.hok a _ ha)
  obtain ⟨mm, hF⟩ := I.fr
  have hu := hr.un
  show wpAny _ _ (richCompare .Eq _ _) _ _ _
  refine PySem.W.cmp_K (op := .Eq) (tb := .type "list") (by omega) hF I.ok.mod.kin J ((PySem.W.Looks.ld e).andThen .now) ?_ m.at_ m.fn ?_
  · show ((Value.type "list" == .ref C) || (PySem.W.subIn X.K (.type "list") (.ref C) == some false)) = true
    rw [n.sub]
    simp
  refine wpAny_mono (run_at (Q := fun v H' => v = .bl false ∧ H' = H) (E := E0) (vs := [.ref r, .ref a]) O hr rfl b pass0 I (.cons rfl (.cons rfl .nil)) ⟨r, a, M, xs, rfl, hM, ha, rfl, rfl⟩) (fun v s' z => ?_) fun _ _ z => z
  obtain ⟨v', H', I', rv, rfl, rfl⟩ := z
  cases rv
  exact ⟨.bl false, H', I', rfl, q⟩
end
/-! ### == with a text -/
section
variable {P : Program} {w : World} {K : PySem.W.Frag} {mg : Str → Option Value} {base : Heap}
def spEqS (C : Addr) : Sp := fun vs H Q _ => ∃ r M t, vs = [.ref r, .str t] ∧ RegAt C H r M ∧ Q (.bl false) H
theorem ok_eqS {f C : Addr} {fd : FuncData} (F : Fun K "__eq__" "Region.__eq__" cEq f fd) (T : CTxt K mg C) (n : NotT K C "str") : FnOk P w K mg base CX0 1 f fd ["self", "other"] (spEqS C) := by
  refine F.ok scEq (fun vs H Q E h => ?_) (fun cdv A outer s H vs Q E hr h => ?_)
  · obtain ⟨r, M, t, rfl, _⟩ := h
    rfl
  · obtain ⟨r, M, t, rfl, hM, q⟩ := h
    refine ⟨_, pss_one (ps_ret (pe_and (pe_callB call_isi (by rfl) T.isi (by decide +kernel) (pa_cons (pv 1) (pa_cons (pe_glob (v := .ref C) (by rfl) T.t.mgC rfl) pa_nil)))
      (pe_one (pe_cmpR (op_eqM (hu_of hr)) (pe_fld (pv 0) rfl) (pe_fld (pv 1) rfl) (nomark _))))), ?_⟩
    exact ⟨_, rfl, .str t, .ref C, .type "str", .ref C, false, rfl, .own C, .base (.str _), n.kit, false, rfl, q⟩
end
section
variable {X : Cx} {C f : Addr} {fd : FuncData} {k : Nat}
def rEqS (C : Addr) : R2 := fun x y H Q => ∃ r M t, x = .ref r ∧ y = .str t ∧ RegAt C H r M ∧ Q (.bl false) H
theorem op_eqS (O : FnOk X.prog X.w X.K X.mg X.base CX0 k f fd ["self", "other"] (spEqS C)) (hr : Room k X.A) (b : Binds X.K fd ["self", "other"] []) (m : OwnM X.K C "__eq__" f) (n : NotT X.K C "str") : OpR X (compareOp .Eq) (rEqS C) := by
  intro pins s σ H x y v u Q I rx ry h
  obtain ⟨r, M, t, rfl, rfl, hM, q⟩ := h
  obtain rfl : v = Value.ref r := rx
  obtain ⟨tk, rfl⟩ := ry
  obtain ⟨ox, od, J⟩ := reg_inst I hM
  obtain ⟨mm, hF⟩ := I.fr
  have hu := hr.un
  show wpAny _ _ (richCompare .Eq _ _) _ _ _
  refine PySem.W.cmp_K (op := .Eq) (tb := .type "str") (by omega) hF I.ok.mod.kin J (PySem.W.Looks.of_pure rfl) ?_ m.at_ m.fn ?_
  · show ((Value.type "str" == .ref C) || (PySem.W.subIn X.K (.type "str") (.ref C) == some false)) = true
    rw [n.sub]
    simp
  refine wpAny_mono (run_at (Q := fun v H' => v = .bl false ∧ H' = H) (E := E0) (vs := [.ref r, .str t]) O hr rfl b pass0 I (.cons rfl (.cons ⟨tk, rfl⟩ .nil)) ⟨r, M, t, rfl, hM, rfl, rfl⟩) (fun v s' z => ?_) fun _ _ z => z
  obtain ⟨v', H', I', rv, rfl, rfl⟩ := z
  cases rv
  exact ⟨.bl false, H', I', rfl, q⟩
end
end SmL
namespace SmL
open PySem PySem.Spec PyProof.Rows L2 ClX StX Sm
abbrev cWithin : Stmt := inClass (top 4) 3
abbrev cOr : Stmt := inClass (top 4) 4
abbrev cAnd : Stmt := inClass (top 4) 5
abbrev cSub : Stmt := inClass (top 4) 6
abbrev cXor : Stmt := inClass (top 4) 7
def pick (neg : Bool) (M N : List Cell) : List Cell := M.filter fun c => neg != decide (c ∈ N)
theorem pick_len (neg : Bool) (M N : List Cell) : (pick neg M N).length ≤ M.length := List.length_filter_le _ _
theorem pick_asc {neg : Bool} {M N : List Cell} (h : M.Pairwise bef) : (pick neg M N).Pairwise bef := h.sublist List.filter_sublist
theorem RegAt.asc {C : Addr} {H : Hp} {r : Addr} {M : List Cell} (h : RegAt C H r M) : M.Pairwise bef := by
  obtain ⟨_, _, _, _, a, _⟩ := h
  exact a
theorem regq_lock {C : Addr} {H : Hp} {q d : Addr} {M N : List Cell} {od : Obj} (hd : H d = some (memO M)) (h : RegAt C H q N) : RegQ C (upd H d (.frz od (memO M))) q N := by
  obtain ⟨dy, e, hq, he, asc, few⟩ := h
  refine ⟨dy, e, ?_, ?_, asc, few⟩
  · rw [upd_ne (ne_of hq hd (by intro z; cases z))]
    exact hq
  · by_cases z : e = d
    · subst z
      rw [hd] at he
      injection he with he
      exact .inr ⟨od, by rw [upd_same, he]⟩
    · exact .inl (by rw [upd_ne z]; exact he)
theorem RegQ.same {C : Addr} {H H' : Hp} {r : Addr} {M : List Cell} (h : RegQ C H r M) (s : Same H H') : RegQ C H' r M := by
  obtain ⟨dx, d, hr, hd, x⟩ := h
  refine ⟨dx, d, s _ _ hr, ?_, x⟩
  rcases hd with z | ⟨o, z⟩
  · exact .inl (s _ _ z)
  · exact .inr ⟨o, s _ _ z⟩
/-- the lock is taken off: all that stood stands -/
theorem unlock {H G : Hp} {d : Addr} {M : List Cell} {od : Obj} (hd : H d = some (memO M)) (s : Same (upd H d (.frz od (memO M))) G) : Same H (upd G d (memO M)) := fun b o e => by
  by_cases z : b = d
  · rw [z] at e ⊢
    rw [upd_same]
    rw [hd] at e
    exact e
  · rw [upd_ne z]
    refine s _ _ ?_
    rw [upd_ne z]
    exact e
theorem keys_filt {C : Addr} {H : Hp} {r q d : Addr} {M N : List Cell} {od : Obj} {neg : Bool} {Q : VK} (hd : H d = some (memO M)) (few : M.length < 64) (hN : RegAt C H q N)
    (k : ∀ D ks H', Same H H' → H D = none → H' D = some (.lst (refs ks)) → Tups H' ks → cellsOf ks = pick neg M N → Q (.ref D) H') :
    tLc (fun _ H R => R (Itkt d od (M.map fun c => (keyC c, V.bl true))) H) (gName 2) (tTest (tOp (rMem C neg) (tVar 2) (tVar 1))) (tVar 2) [2] [some (.ref r), some (.ref q), none] (upd H d (.frz od (memO M)))
      (fun v H' => H' d = some (.frz od (memO M)) ∧ Q v (upd H' d (memO M))) := by
  intro D nD
  have nDd : D ≠ d := fun e => by
    rw [e, upd_same] at nD
    cases nD
  have nDH : H D = none := by rw [upd_ne nDd] at nD; exact nD
  have hNq := regq_lock (od := od) hd hN
  refine lc_it (g := gName 2) (tt := tTest (tOp (rMem C neg) (tVar 2) (tVar 1))) (te := tVar 2) (σ := [some (.ref r), some (.ref q), none]) (vs := [2]) walk_keysT
    (fun i G => Same (upd H d (.frz od (memO M))) G ∧ ∃ ks, G D = some (.lst (refs ks)) ∧ Tups G ks ∧ cellsOf ks = pick neg (M.take i) N) ⟨same_upd nD, [], upd_same, (fun p hp => nomatch hp), rfl⟩ (fun i G _ ⟨sm, _⟩ => sm _ _ upd_same) ?_ ?_
  · rintro i x G G1 hi ⟨sm, ks, hD, hk, ek⟩ ⟨rfl, ky, v, t, hkey, rfl, ht⟩
    rw [List.getElem?_map] at hkey
    cases ec : M[i]? with
    | none =>
      rw [ec] at hkey
      cases hkey
    | some c =>
      rw [ec] at hkey
      cases hkey
      have lk : ks.length ≤ 1000 := by
        have z := congrArg List.length ek
        rw [cells_len] at z
        have z2 := pick_len neg (M.take i) N
        rw [List.length_take] at z2
        omega
      have htc : G1 t = some (CellO c) := ht
      have etk : pick neg (M.take (i + 1)) N = pick neg (M.take i) N ++ (if (neg != decide (c ∈ N)) = true then [c] else []) := by
        unfold pick
        rw [List.take_add_one, ec, List.filter_append]
        refine congrArg _ ?_
        show List.filter _ [c] = _
        rw [List.filter_cons]
        rfl
      refine ⟨rfl, _, rfl, _, rfl, t, c, q, N, rfl, rfl, htc, hNq.same sm, _, rfl, ?_⟩
      cases eb : (neg != decide (c ∈ N)) with
      | false =>
        rw [eb] at etk
        exact iteF ⟨sm, ks, hD, hk, by rw [etk, ek]; simp⟩
      | true =>
        rw [eb] at etk
        refine iteT ⟨_, rfl, refs ks, hD, ?_, fun b o e => ?_, ks ++ [(t, c)], ?_, fun p hp => ?_, ?_⟩
        · rw [refs_len]
          exact small1000 lk
        · rw [upd_ne (ne_of_none e nD)]
          exact sm _ _ e
        · rw [upd_same]
          unfold refs
          rw [List.map_append]
          rfl
        · rcases List.mem_append.mp hp with z | z
          · rw [upd_ne (ne_of (hk p z) hD (by intro q; cases q))]
            exact hk p z
          · have ep : p = (t, c) := by simpa using z
            rw [ep, upd_ne (ne_of htc hD (by intro q; cases q))]
            exact htc
        · rw [etk, ← ek]
          unfold cellsOf
          rw [List.map_append]
          simp
  · rintro G ⟨sm, ks, hD, hk, ek⟩
    rw [List.length_map, List.take_of_length_le (Nat.le_refl _)] at ek
    have hfd : G d = some (.frz od (memO M)) := sm _ _ upd_same
    refine ⟨hfd, k D ks _ (unlock hd sm) nDH ?_ (fun p hp => ?_) ek⟩
    · rw [upd_ne nDd]
      exact hD
    · rw [upd_ne (ne_of (hk p hp) hfd (by intro z; cases z))]
      exact hk p hp
/-! ### the methods -/
section
variable {P : Program} {w : World} {K : PySem.W.Frag} {mg : Str → Option Value} {base : Heap}
/-- a new region from a list of cells -/
theorem make_reg {C : Addr} {H : Hp} {a : Addr} {ks : CL} {Q : VK} (ha : H a = some (.lst (refs ks))) (ht : Tups H ks) (few : ks.length < 63) (k : ∀ z L H', Same H H' → H z = none → Reading (cellsOf ks) L → RegAt C H' z L → Q (.ref z) H') :
    ∀ x dx, H x = none → H dx = none → dx ≠ x → spInit K C (.ref x :: ([.ref a] ++ [])) (upd (upd H dx (.own x)) x (.ins C dx [])) (fun v H2 => v = .non ∧ Q (.ref x) H2) E0 := by
  intro x dx nx ndx nex
  have s2 := made0 (C := C) nx ndx
  exact ⟨x, dx, a, ks, rfl, upd_same, SqL.of (s2 _ _ ha), ht.same s2, few, fun H4 M rd ra sb4 => ⟨rfl, k x M H4 (fun y o e => made nx ndx sb4 _ _ e) nx rd ra⟩⟩
abbrev nAnd : List Str := ["self", "other", "cell"]
theorem scAnd : FnScope nAnd ["self", "other"] (defScope cAnd) := ⟨rfl, rfl, rfl, by decide +kernel, rfl, by decide +kernel, by decide +kernel⟩
theorem scSub : FnScope nAnd ["self", "other"] (defScope cSub) := ⟨rfl, rfl, rfl, by decide +kernel, rfl, by decide +kernel, by decide +kernel⟩
theorem scOr : FnScope ["self", "other"] ["self", "other"] (defScope cOr) := ⟨rfl, rfl, rfl, by decide +kernel, rfl, by decide +kernel, by decide +kernel⟩
theorem scXor : FnScope ["self", "other"] ["self", "other"] (defScope cXor) := ⟨rfl, rfl, rfl, by decide +kernel, rfl, by decide +kernel, by decide +kernel⟩
theorem scWithin : FnScope nAnd ["self", "other"] (defScope cWithin) := ⟨rfl, rfl, rfl, by decide +kernel, rfl, by decide +kernel, by decide +kernel⟩
theorem ok_and {f fI fIn C : Addr} {fd dI dIn : FuncData} (F : Fun K "__and__" "Region.__and__" cAnd f fd) (T : CTxt K mg C) (OI : FnOk P w K mg base CX0 1 fI dI ["self", "cells"] (spInit K C)) (M : Mk K C fI) (bI : Binds K dI ["self", "cells"] [])
    (OIn : FnOk P w K mg base CX0 1 fIn dIn ["self", "cell"] (spIn C)) (bIn : Binds K dIn ["self", "cell"] []) (mIn : OwnM K C "__contains__" fIn) : FnOk P w K mg base CX0 3 f fd ["self", "other"] (spBin C (pick false)) := by
  refine F.ok scAnd (fun vs H Q E h => ?_) (fun cdv A outer s H vs Q E hr h => ?_)
  · obtain ⟨r, q, M, N, rfl, _⟩ := h
    rfl
  · obtain ⟨r, q, L, N, rfl, hM, hN, few, k⟩ := h
    obtain ⟨dx, d, hr0, hd, asc, few2⟩ := hM
    have hr1 : Room 1 _ := hr.mono (by decide)
    refine ⟨_, pss_one (ps_ret (pe_make M OI hr (by rfl) T.t.mgC bI .nil pass0 (pa_cons (pe_lock (pe_lc (own := [("cell", 2)]) (g := gName 2) (tt := tTest (tOp (rMem C false) (tVar 2) (tVar 1))) (te := tVar 2) rfl scAnd.nd (pi_keys (pe_fld (pv 0) rfl))
        (blkOk_by (own := [("cell", 2)]) (N := nAnd) (sc := defScope cAnd) (by decide +kernel)) (fun _ _ _ _ _ => pg_name (i := 2) scAnd.nd rfl (Or.inl rfl)) (fun _ _ _ _ _ => pts_one (pt_cmpR (op_inR OIn hr1 bIn mIn) (pv 2) (pv 1) (by rfl)))
        (fun _ _ _ _ _ => pv 2))) pa_nil))), ?_⟩
    refine ⟨d, memO L, hd, trivial, fun od => ?_⟩
    have ndr : r ≠ d := ne_of hr0 hd (by intro z; cases z)
    refine ⟨_, rfl, r, C, dx, _, _, rfl, by rw [upd_ne ndr]; exact hr0, T.t.cl, T.t.nM, rfl, d, od, rfl, .inr ⟨_, upd_same, ?_⟩⟩
    refine keys_filt (od := od) (neg := false) (Q := fun v H1 => ∀ x dx, H1 x = none → H1 dx = none → dx ≠ x → spInit K C (.ref x :: ([v] ++ [])) (upd (upd H1 dx (.own x)) x (.ins C dx [])) (fun v H2 => v = .non ∧ Q (.ref x) H2) E0) hd few2 hN fun D ks H' sm nD hD hk ek => ?_
    refine make_reg hD hk ?_ fun z S H2 s2 nz rd ra => k z S H2 (sm.trans s2) (back sm nz) (by rw [ek] at rd; exact rd) ra
    have z := congrArg List.length ek
    rw [cells_len] at z
    have := pick_len false L N
    omega
theorem ok_sub {f fI fIn C : Addr} {fd dI dIn : FuncData} (F : Fun K "__sub__" "Region.__sub__" cSub f fd) (T : CTxt K mg C) (OI : FnOk P w K mg base CX0 1 fI dI ["self", "cells"] (spInit K C)) (M : Mk K C fI) (bI : Binds K dI ["self", "cells"] [])
    (OIn : FnOk P w K mg base CX0 1 fIn dIn ["self", "cell"] (spIn C)) (bIn : Binds K dIn ["self", "cell"] []) (mIn : OwnM K C "__contains__" fIn) : FnOk P w K mg base CX0 3 f fd ["self", "other"] (spBin C (pick true)) := by
  refine F.ok scSub (fun vs H Q E h => ?_) (fun cdv A outer s H vs Q E hr h => ?_)
  · obtain ⟨r, q, M, N, rfl, _⟩ := h
    rfl
  · obtain ⟨r, q, L, N, rfl, hM, hN, few, k⟩ := h
    obtain ⟨dx, d, hr0, hd, asc, few2⟩ := hM
    have hr1 : Room 1 _ := hr.mono (by decide)
    refine ⟨_, pss_one (ps_ret (pe_make M OI hr (by rfl) T.t.mgC bI .nil pass0 (pa_cons (pe_lock (pe_lc (own := [("cell", 2)]) (g := gName 2) (tt := tTest (tOp (rMem C true) (tVar 2) (tVar 1))) (te := tVar 2) rfl scSub.nd (pi_keys (pe_fld (pv 0) rfl))
        (blkOk_by (own := [("cell", 2)]) (N := nAnd) (sc := defScope cSub) (by decide +kernel)) (fun _ _ _ _ _ => pg_name (i := 2) scSub.nd rfl (Or.inl rfl)) (fun _ _ _ _ _ => pts_one (pt_cmpR (op_notInR OIn hr1 bIn mIn) (pv 2) (pv 1) (by rfl)))
        (fun _ _ _ _ _ => pv 2))) pa_nil))), ?_⟩
    refine ⟨d, memO L, hd, trivial, fun od => ?_⟩
    have ndr : r ≠ d := ne_of hr0 hd (by intro z; cases z)
    refine ⟨_, rfl, r, C, dx, _, _, rfl, by rw [upd_ne ndr]; exact hr0, T.t.cl, T.t.nM, rfl, d, od, rfl, .inr ⟨_, upd_same, ?_⟩⟩
    refine keys_filt (od := od) (neg := true) (Q := fun v H1 => ∀ x dx, H1 x = none → H1 dx = none → dx ≠ x → spInit K C (.ref x :: ([v] ++ [])) (upd (upd H1 dx (.own x)) x (.ins C dx [])) (fun v H2 => v = .non ∧ Q (.ref x) H2) E0) hd few2 hN fun D ks H' sm nD hD hk ek => ?_
    refine make_reg hD hk ?_ fun z S H2 s2 nz rd ra => k z S H2 (sm.trans s2) (back sm nz) (by rw [ek] at rd; exact rd) ra
    have z := congrArg List.length ek
    rw [cells_len] at z
    have := pick_len true L N
    omega
theorem ok_or {f fI fCs C : Addr} {fd dI dCs : FuncData} (F : Fun K "__or__" "Region.__or__" cOr f fd) (T : CTxt K mg C) (OI : FnOk P w K mg base CX0 1 fI dI ["self", "cells"] (spInit K C)) (M : Mk K C fI) (bI : Binds K dI ["self", "cells"] [])
    (OC : FnOk P w K mg base CX0 1 fCs dCs ["self"] (spCs C)) (mC : Meth K C "cells" fCs) (bC : Binds K dCs ["self"] []) : FnOk P w K mg base CX0 3 f fd ["self", "other"] (spBin C fun M N => M ++ N) := by
  refine F.ok scOr (fun vs H Q E h => ?_) (fun cdv A outer s H vs Q E hr h => ?_)
  · obtain ⟨r, q, M, N, rfl, _⟩ := h
    rfl
  · obtain ⟨r, q, L, N, rfl, hM, hN, few, k⟩ := h
    have hr1 : Room 1 _ := hr.mono (by decide)
    refine ⟨_, pss_one (ps_ret (pe_make M OI hr (by rfl) T.t.mgC bI .nil pass0 (pa_cons (pe_op op_cat (pe_meth0 (pv 0) T.t.cl mC OC hr1 bC .nil pass0) (pe_meth0 (pv 1) T.t.cl mC OC hr1 bC .nil pass0)) pa_nil))), ?_⟩
    obtain ⟨dx, d, hr0, _⟩ := id hM
    obtain ⟨dy, e, hq0, _⟩ := id hN
    refine ⟨_, rfl, r, dx, _, rfl, hr0, rfl, r, L, rfl, hM, fun p ks H1 s1 np hp hk ek => ?_⟩
    refine ⟨_, rfl, q, dy, _, rfl, s1 _ _ hq0, rfl, q, N, rfl, hN.same s1, fun p2 ls H2 s2 np2 hp2 hl el => ?_⟩
    have l1 : ks.length = L.length := by rw [← ek, cells_len]
    have l2 : ls.length = N.length := by rw [← el, cells_len]
    refine ⟨p, p2, _, _, rfl, rfl, s2 _ _ hp, hp2, ?_, fun j nj => ?_⟩
    · rw [refs_len, refs_len]
      exact Nat.le_of_lt (small1000 (by omega))
    have s3 := same_upd (o := .lst (refs ks ++ refs ls)) nj
    have ej : (upd H2 j (.lst (refs ks ++ refs ls))) j = some (.lst (refs (ks ++ ls))) := by
      rw [upd_same]
      unfold refs
      rw [List.map_append]
    have hal : Tups (upd H2 j (.lst (refs ks ++ refs ls))) (ks ++ ls) := fun z hz => by
      rcases List.mem_append.mp hz with hz | hz
      · exact s3 _ _ (s2 _ _ (hk z hz))
      · exact s3 _ _ (hl z hz)
    refine make_reg ej hal (by rw [List.length_append]; omega) fun z S H3 s4 nz rd ra => k z S H3 (((s1.trans s2).trans s3).trans s4) (back ((s1.trans s2).trans s3) nz) ?_ ra
    have ec : cellsOf (ks ++ ls) = L ++ N := by
      unfold cellsOf at ek el ⊢
      rw [List.map_append, ek, el]
    rw [ec] at rd
    exact rd
theorem ok_xor {f g o C : Addr} {fd gd od : FuncData} (F : Fun K "__xor__" "Region.__xor__" cXor f fd) (OS : FnOk P w K mg base CX0 3 g gd ["self", "other"] (spBin C (pick true))) (bS : Binds K gd ["self", "other"] []) (mS : OwnM K C "__sub__" g)
    (OO : FnOk P w K mg base CX0 3 o od ["self", "other"] (spBin C fun M N => M ++ N)) (bO : Binds K od ["self", "other"] []) (mO : OwnM K C "__or__" o) (sf : PySem.W.selfFirst K C = true) : FnOk P w K mg base CX0 4 f fd ["self", "other"] (spBin C fun M N => pick true M N ++ pick true N M) := by
  refine F.ok scXor (fun vs H Q E h => ?_) (fun cdv A outer s H vs Q E hr h => ?_)
  · obtain ⟨r, q, M, N, rfl, _⟩ := h
    rfl
  · obtain ⟨r, q, L, N, rfl, hM, hN, few, k⟩ := h
    refine ⟨_, pss_one (ps_ret (pe_op (op_bin OO hr bO sf mO) (pe_op (op_bin OS hr bS sf mS) (pv 0) (pv 1)) (pe_op (op_bin OS hr bS sf mS) (pv 1) (pv 0)))), ?_⟩
    refine ⟨_, rfl, _, rfl, r, q, L, N, rfl, rfl, hM, hN, few, fun z1 L1 H1 s1 n1 rd1 ra1 => ?_⟩
    refine ⟨_, rfl, _, rfl, q, r, N, L, rfl, rfl, hN.same s1, hM.same s1, by omega, fun z2 L2 H2 s2 n2 rd2 ra2 => ?_⟩
    have e1 : L1 = pick true L N := asc_uniq rd1.asc (pick_asc hM.asc) fun c => rd1.mem c
    have e2 : L2 = pick true N L := asc_uniq rd2.asc (pick_asc hN.asc) fun c => rd2.mem c
    subst e1
    subst e2
    have p1 := pick_len true L N
    have p2 := pick_len true N L
    exact ⟨z1, z2, _, _, rfl, rfl, ra1.same s2, ra2, by omega, fun z S H3 s3 nz rd ra => k z S H3 ((s1.trans s2).trans s3) (back (s1.trans s2) nz) rd ra⟩
end
end SmL
namespace SmL
open PySem PySem.Spec PyProof.Rows L2 ClX StX Sm
section
variable {P : Program} {w : World} {K : PySem.W.Frag} {mg : Str → Option Value} {base : Heap}
def spWithin (C : Addr) : Sp := fun vs H Q _ => ∃ r q M N, vs = [.ref r, .ref q] ∧ RegAt C H r M ∧ RegAt C H q N ∧ ∀ H', Same H H' → Q (.bl (M.all fun c => decide (c ∈ N))) H'
theorem ok_within {f fIn C : Addr} {fd dIn : FuncData} (F : Fun K "within" "Region.within" cWithin f fd) (T : CTxt K mg C) (mall : mg "all" = none)
    (OIn : FnOk P w K mg base CX0 1 fIn dIn ["self", "cell"] (spIn C)) (bIn : Binds K dIn ["self", "cell"] []) (mIn : OwnM K C "__contains__" fIn) : FnOk P w K mg base CX0 3 f fd ["self", "other"] (spWithin C) := by
  refine F.ok scWithin (fun vs H Q E h => ?_) (fun cdv A outer s H vs Q E hr h => ?_)
  · obtain ⟨r, q, M, N, rfl, _⟩ := h
    rfl
  · obtain ⟨r, q, M, N, rfl, hM, hN, k⟩ := h
    obtain ⟨dx, d, hr0, hd, asc, few2⟩ := hM
    have hr1 : Room 1 _ := hr.mono (by decide)
    refine ⟨_, pss_one (ps_ret (pe_callB (cr_all rfl) (by rfl) mall (by decide +kernel) (pa_cons (pe_lock (pe_lc (own := [("cell", 2)]) (g := gName 2) (tt := tYes) (te := tOp (rMem C false) (tVar 2) (tVar 1)) rfl scWithin.nd (pi_keys (pe_fld (pv 0) rfl))
        (blkOk_by (own := [("cell", 2)]) (N := nAnd) (sc := defScope cWithin) (by decide +kernel)) (fun _ _ _ _ _ => pg_name (i := 2) scWithin.nd rfl (Or.inl rfl)) (fun _ _ _ _ _ => pts_nil)
        (fun _ _ _ _ _ => pe_cmpR (op_inR OIn hr1 bIn mIn) (pv 2) (pv 1) (by rfl)))) pa_nil))), ?_⟩
    refine ⟨d, memO M, hd, trivial, fun od => ?_⟩
    have ndr : r ≠ d := ne_of hr0 hd (by intro z; cases z)
    refine ⟨_, rfl, r, C, dx, _, _, rfl, by rw [upd_ne ndr]; exact hr0, T.t.cl, T.t.nM, rfl, d, od, rfl, .inr ⟨_, upd_same, fun D nD => ?_⟩⟩
    have nDd : D ≠ d := fun e => by
      rw [e, upd_same] at nD
      cases nD
    have hNq := regq_lock (od := od) hd hN
    refine lc_it (g := gName 2) (tt := tYes) (te := tOp (rMem C false) (tVar 2) (tVar 1)) (σ := L2.start nAnd [V.ref r, V.ref q]) (vs := [2]) walk_keysT
      (fun i G => Same (upd H d (.frz od (memO M))) G ∧ G D = some (.lst (((M.take i).map fun c => decide (c ∈ N)).map V.bl))) ⟨same_upd nD, upd_same⟩ (fun i G _ ⟨sm, _⟩ => sm _ _ upd_same) ?_ ?_
    · rintro i x G G1 hi ⟨sm, hD⟩ ⟨rfl, ky, v, t, hkey, rfl, ht⟩
      rw [List.getElem?_map] at hkey
      cases ec : M[i]? with
      | none =>
        rw [ec] at hkey
        cases hkey
      | some c =>
        rw [ec] at hkey
        cases hkey
        have htc : G1 t = some (CellO c) := ht
        refine ⟨rfl, tyes (iteT ⟨_, rfl, _, rfl, t, c, q, N, rfl, rfl, htc, hNq.same sm, _, hD, ?_, fun b o e => ?_, ?_⟩)⟩
        · rw [List.length_map, List.length_map, List.length_take]
          exact small1000 (by omega)
        · rw [upd_ne (ne_of_none e nD)]
          exact sm _ _ e
        · rw [upd_same, List.take_add_one, ec, List.map_append, List.map_append]
          simp
    · rintro G ⟨sm, hD⟩
      rw [List.length_map, List.take_of_length_le (Nat.le_refl _)] at hD
      have hfd : G d = some (.frz od (memO M)) := sm _ _ upd_same
      refine ⟨hfd, D, M.map fun c => decide (c ∈ N), rfl, SqL.of (by rw [upd_ne nDd]; exact hD), ?_⟩
      rw [List.all_map]
      exact k _ (unlock hd sm)
end
end SmL
namespace SmL
open PySem PySem.Spec PyProof.Rows L2 ClX StX Sm
theorem any_mem (L : List Cell) (c : Cell) : ((L.map dC).any fun z => PyData.eqv z (dC c)) = decide (c ∈ L) := by
  rw [List.any_map]
  by_cases z : c ∈ L
  · rw [decide_eq_true z, List.any_eq_true]
    exact ⟨c, z, by show PyData.eqv (dC c) (dC c) = true; rw [dC_eqv]; exact decide_eq_true rfl⟩
  · rw [decide_eq_false z, List.any_eq_false]
    intro d hd
    show ¬ PyData.eqv (dC d) (dC c) = true
    rw [dC_eqv]
    intro e
    exact z (by rw [← of_decide_eq_true e]; exact hd)
theorem iteFe {b : Bool} {p q : Prop} (h : b = false) (z : q) : if b = true then p else q := by
  subst h
  exact iteF z
section
variable {P : Program} {w : World} {K : PySem.W.Frag} {mg : Str → Option Value} {base : Heap}
/-! ### some of the cells -/
def spSubset : Sp := fun vs H Q _ => ∃ b l a ks share, vs = [.ref b, .ref a, .int share] ∧ BagL H b l ∧ H a = some (.lst (refs ks)) ∧ Tups H ks ∧ 0 < share ∧ share < 1000 ∧ ks.length ≤ 1000 ∧
  ∀ p ms H', SameBut b H H' → BagL H' b l → H p = none → H' p = some (.lst (refs ms)) → Tups H' ms → ms.length ≤ ks.length → Q (.ref p) H'
theorem scSubset : FnScope ["_law_bag_here", "_law_cells", "_law_share", "_law_found", "_law_cell", "_law_pick"] ["_law_bag_here", "_law_cells", "_law_share"] (defScope lSubset) := ⟨rfl, rfl, rfl, by decide +kernel, rfl, by decide +kernel, by decide +kernel⟩
theorem ok_subset {f t : Addr} {fd td : FuncData} (F : Fun K "_law_subset" "_law_subset" lSubset f fd)
    (OT : FnOk P w K mg base CX0 1 t td ["_law_bag_here", "_law_size"] spTake) (kT : PySem.W.keepIn K (.ref t) = true) (bT : Binds K td ["_law_bag_here", "_law_size"] []) (gT : mg "_law_take" = some (.ref t)) :
    FnOk P w K mg base CX0 3 f fd ["_law_bag_here", "_law_cells", "_law_share"] spSubset := by
  refine F.ok scSubset (fun vs H Q E h => ?_) (fun cdv A outer s H vs Q E hr h => ?_)
  · obtain ⟨b, l, a, ks, share, rfl, _⟩ := h
    rfl
  · obtain ⟨b, l, a, ks, share, rfl, hb, ha, hk, m0, m1, few, k⟩ := h
    have hr1 : Room 1 _ := hr.mono (by decide)
    refine ⟨_, pss_cons (ps_set (i := 3) scSubset.nd rfl (.inl rfl) (pe_lst pa_nil))
      (pss_cons (ps_for PassesOwn.never rfl (pi_list (pv 1)) (pg_name (i := 4) scSubset.nd rfl (.inl rfl))
        (pss_cons (ps_set (i := 5) scSubset.nd rfl (.inl rfl) (pe_call OT hr1 (by rfl) gT kT bT .nil pass0 (pa_cons (pv 0) (pa_cons (pv 2) pa_nil))))
        (pss_one (ps_if (pt_cmpR op_eq (pv 5) pe_int (nomark _)) (pss_one (ps_expr (pe_bm PySem.F.plainAttrs_list PySem.F.slot_list_append PySem.F.type_list_append mt_append (pv 3) (pa_cons (pv 4) pa_nil)))) pss_nil))))
      (pss_one (ps_ret (pv 3)))), ?_⟩
    refine ⟨Nat.zero_le _, fun o no => ?_⟩
    have nol : o ≠ l := fun e => by
      obtain ⟨_, _, _, _, _, e2, _⟩ := hb
      rw [e, e2] at no
      cases no
    have nob : o ≠ b := fun e => by
      obtain ⟨xs, e2⟩ := bag_b hb
      rw [e, e2] at no
      cases no
    have s0 := same_upd (o := .lst []) no
    have nba : b ≠ a := fun e => by
      obtain ⟨_, _, _, _, e2, _⟩ := hb
      rw [e, ha] at e2
      injection e2 with e2
      injection e2 with e2
      cases ks with
      | nil => cases e2
      | cons x ks =>
        have z : V.ref x.1 :: refs ks = _ := e2
        injection z with z1 z2
        cases ks with
        | nil => cases z2
        | cons y ks =>
          have z : V.ref y.1 :: refs ks = _ := z2
          injection z with z1 z2
          cases z1
    refine ⟨_, rfl, a, rfl, ⟨_, SqL.of (s0 _ _ ha)⟩, for_list (K := K) (a := a) (xs := refs ks) (fun i σ G => ∃ y z ms, σ = [some (.ref b), some (.ref a), some (.int share), some (.ref o), y, z] ∧ SameBut b H G ∧ BagL G b l ∧ G o = some (.lst (refs ms)) ∧ Tups G ms ∧ ms.length ≤ i ∧ ms.length ≤ 1000)
      ⟨_, _, [], rfl, fun x u hx e => s0 _ _ e, bag_upd hb no, upd_same, (fun p hp => nomatch hp), Nat.zero_le _, Nat.zero_le _⟩ (fun i σ G _ ⟨_, _, _, _, sb, _⟩ => SqL.of (sb _ _ nba.symm ha)) ?_ ?_⟩
    · rintro i x σ G hx ⟨y, z, ms, rfl, sG, bG, hoG, hm, hl, hl2⟩
      obtain ⟨tt, c, hi, rfl⟩ := refs_at hx
      have hi2 : i < ks.length := (List.getElem?_eq_some_iff.mp hi).1
      have htc : G tt = some (CellO c) := sG _ _ (ne_of (hk _ (List.mem_of_getElem? hi)) (bag_b hb).choose_spec (by intro z; cases z)) (hk _ (List.mem_of_getElem? hi))
      refine ⟨_, rfl, _, rfl, b, l, share, rfl, bG, m0, by omega, fun n G1 n0 n1 bu hb1 => ?_⟩
      have tr : ∀ {t : Addr} {c : Cell}, G t = some (CellO c) → G1 t = some (CellO c) := fun {t c} g => (bu t (ne_of g (bag_b bG).choose_spec (by intro z; cases z))).trans g
      have ho1 : G1 o = some (.lst (refs ms)) := (bu o nob).trans hoG
      have sG1 := sb_trans sG (but_same bu)
      refine ⟨_, rfl, rfl, _, rfl, ite2 (fun _ => ?_) (fun _ => ⟨_, _, ms, rfl, sG1, hb1, ho1, fun p hp => tr (hm p hp), by omega, hl2⟩)⟩
      refine ⟨_, rfl, .inl ⟨rfl, _, SqL.of ho1⟩, _, rfl, o, _, _, rfl, rfl, ho1, ?_, ?_⟩
      · rw [refs_len]
        exact small1000 hl2
      refine ⟨_, _, ms ++ [(tt, c)], rfl, fun x u hx e => ?_, ?_, ?_, fun p hp => ?_, ?_, ?_⟩
      · rw [upd_ne (ne_of_none e no)]
        exact sG1 x u hx e
      · obtain ⟨ns, ii, p, q, hb2, hl2, rr⟩ := hb1
        exact ⟨ns, ii, p, q, by rw [upd_ne nob.symm]; exact hb2, by rw [upd_ne nol.symm]; exact hl2, rr⟩
      · rw [upd_same]
        unfold refs
        rw [List.map_append]
        rfl
      · rcases List.mem_append.mp hp with z | z
        · rw [upd_ne (ne_of (tr (hm p z)) ho1 (by intro q; cases q))]
          exact tr (hm p z)
        · have ep : p = (tt, c) := by simpa using z
          rw [ep, upd_ne (ne_of (tr htc) ho1 (by intro q; cases q))]
          exact tr htc
      · rw [List.length_append]
        show ms.length + 1 ≤ i + 1
        omega
      · rw [List.length_append]
        show ms.length + 1 ≤ 1000
        omega
    · rintro σ G ⟨y, z, ms, rfl, sG, bG, hoG, hm, hl, hl2⟩
      exact ⟨_, rfl, k o ms G sG bG no hoG hm (by rw [refs_len] at hl; exact hl)⟩
end
end SmL
namespace SmL
open PySem PySem.Spec PyProof.Rows L2 ClX StX Sm
/-- what a list comprehension over a list leaves to be shown -/
def LcGoal (K : PySem.W.Frag) (a : Addr) (v : Nat) (T : TT) (σ : L2.St) (H : Hp) (D : Addr) (Qd : Hp → Prop) : Prop :=
  ∃ W : Nat → Nat → Hp → Prop,
    (∃ m, W 0 m (upd H D (.lst []))) ∧
    ∀ i m G, W i m G →
      ((Itl K a).stop i G ∧ Qd G) ∨
      ((Itl K a).go i G ∧ ∃ Nx : Hp → Prop,
        (∀ G', Nx G' → ∃ m', m' < m ∧ W (i + 1) m' G') ∧
        ∀ x G1, (Itl K a).yld i G x G1 →
          gName v x (wipe σ [v]) G1 fun σ2 G2 => wipe σ2 [v] = wipe σ [v] ∧
            T σ2 G2 fun b G3 => if b = true then
              tVar v σ2 G3 fun y G4 => ∃ acc, G4 D = some (.lst acc) ∧ acc.length < sizeLine ∧ Nx (upd G4 D (.lst (acc ++ [y])))
            else Nx G3)
theorem list_filt {K : PySem.W.Frag} {H : Hp} {a : Addr} {ks : CL} {N : List Cell} {neg : Bool} {v : Nat} {σ : L2.St} {T : TT} {Qd : Hp → Prop} {D : Addr} (nD : H D = none) (ha : H a = some (.lst (refs ks))) (hk : Tups H ks) (few : ks.length ≤ 1000)
    (hw : ∀ y, wipe ((wipe σ [v]).set v (some y)) [v] = wipe σ [v]) (hv : ∀ y, ((wipe σ [v]).set v (some y))[v]? = some (some y))
    (hT : ∀ (t : Addr) (c : Cell) (G : Hp) (R : Bool → Hp → Prop), Same H G → G t = some (CellO c) → R (neg != decide (c ∈ N)) G → T ((wipe σ [v]).set v (some (.ref t))) G R)
    (k : ∀ ms H', Same H H' → H' D = some (.lst (refs ms)) → Tups H' ms → cellsOf ms = pick neg (cellsOf ks) N → ms.length ≤ ks.length → Qd H') :
    LcGoal K a v T σ H D Qd := by
  refine lc_list (K := K) (a := a) (xs := refs ks) (g := gName v) (tt := T) (te := tVar v) (vs := [v]) (fun i G => Same H G ∧ ∃ ms, G D = some (.lst (refs ms)) ∧ Tups G ms ∧ cellsOf ms = pick neg ((cellsOf ks).take i) N ∧ ms.length ≤ i)
    ⟨same_upd nD, [], upd_same, (fun p hp => nomatch hp), rfl, Nat.zero_le _⟩ (fun i G _ ⟨sm, _⟩ => SqL.of (sm _ _ ha)) ?_ ?_
  · rintro i x G hx ⟨sm, ms, hD, hm, em, lm⟩
    obtain ⟨t, c, hi, rfl⟩ := refs_at hx
    have hi2 : i < ks.length := (List.getElem?_eq_some_iff.mp hi).1
    have htc : G t = some (CellO c) := sm _ _ (hk _ (List.mem_of_getElem? hi))
    have ec : (cellsOf ks)[i]? = some c := by
      unfold cellsOf
      rw [List.getElem?_map, hi]
      rfl
    have etk : pick neg ((cellsOf ks).take (i + 1)) N = pick neg ((cellsOf ks).take i) N ++ (if (neg != decide (c ∈ N)) = true then [c] else []) := by
      unfold pick
      rw [List.take_add_one, ec, List.filter_append]
      refine congrArg _ ?_
      show List.filter _ [c] = _
      rw [List.filter_cons]
      rfl
    refine ⟨hw _, hT t c G _ sm htc ?_⟩
    cases eb : (neg != decide (c ∈ N)) with
    | false =>
      rw [eb] at etk
      exact iteF ⟨sm, ms, hD, hm, by rw [etk, em]; simp, by omega⟩
    | true =>
      rw [eb] at etk
      refine iteT ⟨_, hv _, refs ms, hD, ?_, fun b o e => ?_, ms ++ [(t, c)], ?_, fun p hp => ?_, ?_, ?_⟩
      · rw [refs_len]
        exact small1000 (by omega)
      · rw [upd_ne (ne_of_none e nD)]
        exact sm _ _ e
      · rw [upd_same]
        unfold refs
        rw [List.map_append]
        rfl
      · rcases List.mem_append.mp hp with z | z
        · rw [upd_ne (ne_of (hm p z) hD (by intro q; cases q))]
          exact hm p z
        · have ep : p = (t, c) := by simpa using z
          rw [ep, upd_ne (ne_of htc hD (by intro q; cases q))]
          exact htc
      · rw [etk, ← em]
        unfold cellsOf
        rw [List.map_append]
        simp
      · rw [List.length_append]
        show ms.length + 1 ≤ i + 1
        omega
  · rintro G ⟨sm, ms, hD, hm, em, lm⟩
    rw [refs_len, List.take_of_length_le (by rw [cells_len]; exact Nat.le_refl _)] at em
    exact k ms G sm hD hm em (by rw [refs_len] at lm; exact lm)
/-- the test of the comprehension: in a list of cells, or not -/
theorem in_test {K : PySem.W.Frag} {G : Hp} {b t : Addr} {c : Cell} {ls : CL} {v j : Nat} {σ : L2.St} {R : Bool → Hp → Prop} (hv : σ[v]? = some (some (.ref t))) (hj : σ[j]? = some (some (.ref b))) (ht : G t = some (CellO c)) (hb : G b = some (.lst (refs ls))) (hl : Tups G ls)
    (r : R (false != decide (c ∈ cellsOf ls)) G) : tTest (tOp (rInD K) (tVar v) (tVar j)) σ G R := by
  refine ⟨_, hv, _, hj, dC c, (cellsOf ls).map dC, dp_cell ht, dp_list (SqL.of hb) hl, dC_shaped c, dCs_shaped _, _, rfl, ?_⟩
  rw [any_mem]
  simpa using r
theorem notIn_test {K : PySem.W.Frag} {G : Hp} {b t : Addr} {c : Cell} {ls : CL} {v j : Nat} {σ : L2.St} {R : Bool → Hp → Prop} (hv : σ[v]? = some (some (.ref t))) (hj : σ[j]? = some (some (.ref b))) (ht : G t = some (CellO c)) (hb : G b = some (.lst (refs ls))) (hl : Tups G ls)
    (r : R (true != decide (c ∈ cellsOf ls)) G) : tTest (tOp (rNotInD K) (tVar v) (tVar j)) σ G R := by
  refine ⟨_, hv, _, hj, dC c, (cellsOf ls).map dC, dp_cell ht, dp_list (SqL.of hb) hl, dC_shaped c, dCs_shaped _, _, rfl, ?_⟩
  rw [any_mem]
  simpa using r
theorem all_pick (M N : List Cell) : (M.all fun c => decide (c ∈ N)) = decide (pick true M N = []) := by
  unfold pick
  rw [Bool.eq_iff_iff]
  simp
theorem pick_mem {neg : Bool} {M N : List Cell} {c : Cell} : c ∈ pick neg M N ↔ c ∈ M ∧ (neg != decide (c ∈ N)) = true := List.mem_filter
theorem pick_self {neg : Bool} {M N L : List Cell} (hM : M.Pairwise bef) (h : Reading (pick neg M N) L) : L = pick neg M N := asc_uniq h.asc (pick_asc hM) fun c => h.mem c
theorem odd_nodup {M N : List Cell} (hM : M.Pairwise bef) (hN : N.Pairwise bef) : (pick true M N ++ pick true N M).Nodup := by
  have nd : ∀ {L : List Cell}, L.Pairwise bef → L.Nodup := fun {L} h => List.Pairwise.imp (fun {x y} (hb : bef x y) => show x ≠ y from fun e => bef_irr y (by rw [e] at hb; exact hb)) h
  refine List.nodup_append.mpr ⟨nd (pick_asc hM), nd (pick_asc hN), fun x hx y hy e => ?_⟩
  subst e
  have h1 := pick_mem.mp hx
  have h2 := pick_mem.mp hy
  have z : x ∉ N := by simpa using h1.2
  exact z h2.1
end SmL
namespace SmL
open PySem PySem.Spec PyProof.Rows L2 ClX StX Sm
/-- what the class's methods do -/
structure RegX (P : Program) (w : World) (K : PySem.W.Frag) (mg : Str → Option Value) (base : Heap) (C : Addr) where
  T : CTxt K mg C
  L : LTxt K mg
  (fOr fAnd fSub fXor fW fE fS fI : Addr)
  (dOr dAnd dSub dXor dW dE dS dI : FuncData)
  oOr : FnOk P w K mg base CX0 3 fOr dOr ["self", "other"] (spBin C fun M N => M ++ N)
  bOr : Binds K dOr ["self", "other"] []
  mOr : OwnM K C "__or__" fOr
  oAnd : FnOk P w K mg base CX0 3 fAnd dAnd ["self", "other"] (spBin C (pick false))
  bAnd : Binds K dAnd ["self", "other"] []
  mAnd : OwnM K C "__and__" fAnd
  oSub : FnOk P w K mg base CX0 3 fSub dSub ["self", "other"] (spBin C (pick true))
  bSub : Binds K dSub ["self", "other"] []
  mSub : OwnM K C "__sub__" fSub
  oXor : FnOk P w K mg base CX0 4 fXor dXor ["self", "other"] (spBin C fun M N => pick true M N ++ pick true N M)
  bXor : Binds K dXor ["self", "other"] []
  mXor : OwnM K C "__xor__" fXor
  oW : FnOk P w K mg base CX0 3 fW dW ["self", "other"] (spWithin C)
  bW : Binds K dW ["self", "other"] []
  mW : Meth K C "within" fW
  oE : FnOk P w K mg base CX0 1 fE dE ["self", "other"] (spEqR C)
  oEL : FnOk P w K mg base CX0 1 fE dE ["self", "other"] (spEqL C)
  oES : FnOk P w K mg base CX0 1 fE dE ["self", "other"] (spEqS C)
  bE : Binds K dE ["self", "other"] []
  mE : OwnM K C "__eq__" fE
  N : OwnN K C
  nl : NotT K C "list"
  ns : NotT K C "str"
  sf : PySem.W.selfFirst K C = true
  two : Two K C
  iOr : NoI K C .BitOr
  iAnd : NoI K C .BitAnd
  iSub : NoI K C .Sub
  iXor : NoI K C .BitXor
  oS : FnOk P w K mg base CX0 2 fS dS ["self"] (spStr C)
  bS : Binds K dS ["self"] []
  mS : OwnM K C "__str__" fS
  oI : FnOk P w K mg base CX0 1 fI dI ["self", "cells"] (spInit K C)
  mkI : Mk K C fI
  bI : Binds K dI ["self", "cells"] []
structure LawX (P : Program) (w : World) (K : PySem.W.Frag) (mg : Str → Option Value) (base : Heap) (C : Addr) where
  (fOnce fRead fIs : Addr)
  (dOnce dRead dIs : FuncData)
  once : Cl P w K mg base 1 "_law_once" ["_law_cells"] (spOnce K) fOnce dOnce
  read : Cl P w K mg base 1 "_law_reading" ["_law_cells"] (spRead K) fRead dRead
  is : Cl P w K mg base 4 "_law_region_is" ["_law_region", "_law_due"] (spIs K C) fIs dIs
section
variable {P : Program} {w : World} {K : PySem.W.Frag} {mg : Str → Option Value} {base : Heap} {C : Addr}
/-- a region and the list that is due -/
def Due (C : Addr) (H : Hp) (r a : Addr) (M : List Cell) : Prop := RegAt C H r M ∧ ∃ ks : CL, H a = some (.lst (refs ks)) ∧ Tups H ks ∧ cellsOf ks = M
theorem Due.same {H H' : Hp} {r a : Addr} {M : List Cell} (d : Due C H r a M) (s : Same H H') : Due C H' r a M := by
  obtain ⟨h, ks, ha, hk, e⟩ := d
  exact ⟨h.same s, ks, s _ _ ha, hk.same s, e⟩
def spAgree (C : Addr) : Sp := fun vs H Q _ => ∃ r q a b M N, vs = [.ref r, .ref q, .ref a, .ref b] ∧ Due C H r a M ∧ Due C H q b N ∧ M.length + N.length ≤ 40 ∧ ∀ H', Same H H' → Q (.bl true) H'
abbrev nAgree : List Str := ["_law_first", "_law_second", "_law_ones", "_law_twos", "_law_union", "_law_common", "_law_rest", "_law_more", "_law_told", "_law_cell"]
theorem scAgree : FnScope nAgree ["_law_first", "_law_second", "_law_ones", "_law_twos"] (defScope lAgree) := ⟨rfl, rfl, rfl, by decide +kernel, rfl, by decide +kernel, by decide +kernel⟩
theorem ok_agree {f : Addr} {fd : FuncData} (F : Fun K "_law_agree" "_law_agree" lAgree f fd) (R : RegX P w K mg base C) (Y : LawX P w K mg base C) : FnOk P w K mg base CX0 5 f fd ["_law_first", "_law_second", "_law_ones", "_law_twos"] (spAgree C) := by
  refine F.ok scAgree (fun vs H Q E h => ?_) (fun cdv A outer s H vs Q E hr h => ?_)
  · obtain ⟨r, q, a, b, M, N, rfl, _⟩ := h
    rfl
  · obtain ⟨r, q, a, b, M, N, rfl, dM, dN, few, k⟩ := h
    have hr1 : Room 1 _ := hr.mono (by decide)
    have hr2 : Room 2 _ := hr.mono (by decide)
    have hr3 : Room 3 _ := hr.mono (by decide)
    refine ⟨_, pss_cons (ps_set (i := 4) scAgree.nd rfl (.inl rfl) (pe_call Y.read.ok hr1 (by rfl) Y.read.gl Y.read.kp Y.read.bd .nil pass0 (pa_cons (pe_call Y.once.ok hr1 (by rfl) Y.once.gl Y.once.kp Y.once.bd .nil pass0 (pa_cons (pe_op op_cat (pv 2) (pv 3)) pa_nil)) pa_nil)))
      (pss_cons (ps_setLc (i := 5) (own := [("_law_cell", 9)]) (g := gName 9) (tt := tTest (tOp (rInD K) (tVar 9) (tVar 3))) (te := tVar 9) rfl scAgree.nd rfl rfl rfl (pi_list (pv 2))
        (blkOk_by (own := [("_law_cell", 9)]) (N := nAgree) (sc := defScope lAgree) (by decide +kernel)) (fun _ _ _ _ _ => pg_name (i := 9) scAgree.nd rfl (Or.inl rfl)) (fun _ _ _ _ _ => pts_one (pt_cmpR (op_inD (hu65 hr)) (pv 9) (pv 3) (by rfl))) (fun _ _ _ _ _ => pv 9))
      (pss_cons (ps_setLc (i := 6) (own := [("_law_cell", 9)]) (g := gName 9) (tt := tTest (tOp (rNotInD K) (tVar 9) (tVar 3))) (te := tVar 9) rfl scAgree.nd rfl rfl rfl (pi_list (pv 2))
        (blkOk_by (own := [("_law_cell", 9)]) (N := nAgree) (sc := defScope lAgree) (by decide +kernel)) (fun _ _ _ _ _ => pg_name (i := 9) scAgree.nd rfl (Or.inl rfl)) (fun _ _ _ _ _ => pts_one (pt_cmpR (op_notInD (hu65 hr)) (pv 9) (pv 3) (by rfl))) (fun _ _ _ _ _ => pv 9))
      (pss_cons (ps_setLc (i := 7) (own := [("_law_cell", 9)]) (g := gName 9) (tt := tTest (tOp (rNotInD K) (tVar 9) (tVar 2))) (te := tVar 9) rfl scAgree.nd rfl rfl rfl (pi_list (pv 3))
        (blkOk_by (own := [("_law_cell", 9)]) (N := nAgree) (sc := defScope lAgree) (by decide +kernel)) (fun _ _ _ _ _ => pg_name (i := 9) scAgree.nd rfl (Or.inl rfl)) (fun _ _ _ _ _ => pts_one (pt_cmpR (op_notInD (hu65 hr)) (pv 9) (pv 2) (by rfl))) (fun _ _ _ _ _ => pv 9))
      (pss_cons (ps_if (PW.pt (pw_or (pt_not (pt_val (pe_call Y.is.ok hr (by rfl) Y.is.gl Y.is.kp Y.is.bd .nil pass0 (pa_cons (pe_op (op_bin R.oOr hr3 R.bOr R.sf R.mOr) (pv 0) (pv 1)) (pa_cons (pv 4) pa_nil)))))
          (pw_or1 (pt_not (pt_val (pe_call Y.is.ok hr (by rfl) Y.is.gl Y.is.kp Y.is.bd .nil pass0 (pa_cons (pe_op (op_bin R.oAnd hr3 R.bAnd R.sf R.mAnd) (pv 0) (pv 1)) (pa_cons (pv 5) pa_nil)))))))) (pss_one (ps_ret pe_bl)) pss_nil)
      (pss_cons (ps_if (PW.pt (pw_or (pt_not (pt_val (pe_call Y.is.ok hr (by rfl) Y.is.gl Y.is.kp Y.is.bd .nil pass0 (pa_cons (pe_op (op_bin R.oSub hr3 R.bSub R.sf R.mSub) (pv 0) (pv 1)) (pa_cons (pv 6) pa_nil)))))
          (pw_or1 (pt_not (pt_val (pe_call Y.is.ok hr (by rfl) Y.is.gl Y.is.kp Y.is.bd .nil pass0 (pa_cons (pe_op (op_bin R.oXor hr R.bXor R.sf R.mXor) (pv 0) (pv 1))
            (pa_cons (pe_call Y.read.ok hr1 (by rfl) Y.read.gl Y.read.kp Y.read.bd .nil pass0 (pa_cons (pe_op op_cat (pv 6) (pv 7)) pa_nil)) pa_nil)))))))) (pss_one (ps_ret pe_bl)) pss_nil)
      (pss_cons (ps_set (i := 8) scAgree.nd rfl (.inl rfl) (pe_meth (pv 0) R.T.t.cl R.mW R.oW hr3 R.bW .nil pass0 (pa_cons (pv 1) pa_nil)))
      (pss_cons (ps_if (PW.pt (pw_or (pt_not (pt_val (pe_callB call_isi (by rfl) R.T.isi (by decide +kernel) (pa_cons (pv 8) (pa_cons (pe_bltn (v := .ty "bool") (by rfl) R.L.bool (by decide +kernel) rfl) pa_nil)))))
          (pw_or1 (pt_cmpR op_ne (pv 8) (pe_cmpR (op_eqD hr.units) (pv 6) (pe_lst pa_nil) (nomark _)) (nomark _))))) (pss_one (ps_ret pe_bl)) pss_nil)
      (pss_cons (ps_if (PW.pt (pw_or (pt_cmpR op_ne (pe_cmpR (op_eqR R.oE hr1 R.bE R.mE) (pv 0) (pv 1) (nomark _)) (pe_cmpR (op_eqD hr.units) (pv 2) (pv 3) (nomark _)) (nomark _))
          (pw_or1 (pt_cmpR op_ne (pe_cmpR (op_neR R.oE hr2 R.bE R.N R.mE) (pv 0) (pv 1) (nomark _)) (pe_cmpR (op_neD hr.units) (pv 2) (pv 3) (nomark _)) (nomark _))))) (pss_one (ps_ret pe_bl)) pss_nil)
      (pss_one (ps_ret (pe_and (pe_call Y.is.ok hr (by rfl) Y.is.gl Y.is.kp Y.is.bd .nil pass0 (pa_cons (pv 0) (pa_cons (pv 2) pa_nil))) (pe_one (pe_call Y.is.ok hr (by rfl) Y.is.gl Y.is.kp Y.is.bd .nil pass0 (pa_cons (pv 1) (pa_cons (pv 3) pa_nil))))))))))))))), ?_⟩
    obtain ⟨rM, ks, ha, hk, ek⟩ := id dM
    obtain ⟨rN, ls, hb, hl, el⟩ := id dN
    have lk : ks.length = M.length := by rw [← ek, cells_len]
    have ll : ls.length = N.length := by rw [← el, cells_len]
    -- union
    refine ⟨_, rfl, _, rfl, a, b, _, _, rfl, rfl, ha, hb, ?_, fun j nj => ?_⟩
    · rw [refs_len, refs_len]
      exact Nat.le_of_lt (small1000 (by omega))
    have s1 := same_upd (o := .lst (refs ks ++ refs ls)) nj
    have ej : (upd H j (.lst (refs ks ++ refs ls))) j = some (.lst (refs (ks ++ ls))) := by
      rw [upd_same]
      unfold refs
      rw [List.map_append]
    have hal : Tups (upd H j (.lst (refs ks ++ refs ls))) (ks ++ ls) := fun z hz => by
      rcases List.mem_append.mp hz with hz | hz
      · exact s1 _ _ (hk z hz)
      · exact s1 _ _ (hl z hz)
    have ecat : cellsOf (ks ++ ls) = M ++ N := by
      unfold cellsOf at ek el ⊢
      rw [List.map_append, ek, el]
    refine ⟨j, ks ++ ls, rfl, SqL.of ej, hal, by rw [List.length_append]; omega, fun o1 ms H2 s2 no1 ho1 hms nd mem lm => ?_⟩
    rw [List.length_append] at lm
    refine ⟨o1, ms, rfl, SqL.of ho1, hms, nd, by omega, fun un us H3 s3 nun hun hus rdU => ?_⟩
    have t3 : Same H H3 := (s1.trans s2).trans s3
    -- common, rest, more
    refine ⟨_, rfl, a, rfl, ⟨_, SqL.of (t3 _ _ ha)⟩, fun co nco => list_filt (K := K) (a := a) (v := 9) (T := tTest (tOp (rInD K) (tVar 9) (tVar 3))) (neg := false) (N := N) nco (t3 _ _ ha) (hk.same t3) (by omega) (fun _ => by exact rfl) (fun _ => by exact rfl) (fun t c G R sG ht r => by exact in_test (ls := ls) rfl rfl ht (sG _ _ (t3 _ _ hb)) (hl.same (t3.trans sG)) (by rw [el]; exact r)) fun cs H4 s4 hco hcs ec lc => ?_⟩
    have t4 := t3.trans s4
    refine ⟨_, rfl, a, rfl, ⟨_, SqL.of (t4 _ _ ha)⟩, fun re nre => list_filt (K := K) (a := a) (v := 9) (T := tTest (tOp (rNotInD K) (tVar 9) (tVar 3))) (neg := true) (N := N) nre (t4 _ _ ha) (hk.same t4) (by omega) (fun _ => by exact rfl) (fun _ => by exact rfl) (fun t c G R sG ht r => by exact notIn_test (ls := ls) rfl rfl ht (sG _ _ (t4 _ _ hb)) (hl.same (t4.trans sG)) (by rw [el]; exact r)) fun rs H5 s5 hre hrs er lr => ?_⟩
    have t5 := t4.trans s5
    refine ⟨_, rfl, b, rfl, ⟨_, SqL.of (t5 _ _ hb)⟩, fun mo nmo => list_filt (K := K) (a := b) (v := 9) (T := tTest (tOp (rNotInD K) (tVar 9) (tVar 2))) (neg := true) (N := M) nmo (t5 _ _ hb) (hl.same t5) (by omega) (fun _ => by exact rfl) (fun _ => by exact rfl) (fun t c G R sG ht r => by exact notIn_test (ls := ks) rfl rfl ht (sG _ _ (t5 _ _ ha)) (hk.same (t5.trans sG)) (by rw [ek]; exact r)) fun os H6 s6 hmo hos em lo => ?_⟩
    have t6 := t5.trans s6
    rw [ek] at ec er
    rw [el] at em
    have hun6 := s6 _ _ (s5 _ _ (s4 _ _ hun))
    have hus6 : Tups H6 us := ((hus.same s4).same s5).same s6
    have hco6 := s6 _ _ (s5 _ _ hco)
    have hcs6 : Tups H6 cs := (hcs.same s5).same s6
    have hre6 := s6 _ _ hre
    have hrs6 : Tups H6 rs := hrs.same s6
    have dM6 := dM.same t6
    have dN6 := dN.same t6
    have eU : ∀ {L : List Cell}, Reading (M ++ N) L → cellsOf us = L := fun {L} rd => rdU.uniq rd fun c => by rw [mem c, ecat]
    -- | and &
    refine ⟨_, rfl, _, rfl, r, q, M, N, rfl, rfl, dM6.1, dN6.1, by omega, fun z1 L1 H7 s7 nz1 rd1 ra1 => ⟨_, rfl, z1, un, L1, us, rfl, ra1, SqL.of (s7 _ _ hun6), hus6.same s7, eU rd1, fun H8 s8 => ⟨true, rfl, iteF ?_⟩⟩⟩
    have t8 := s7.trans s8
    refine ⟨_, rfl, _, rfl, r, q, M, N, rfl, rfl, (dM6.same t8).1, (dN6.same t8).1, by omega, fun z2 L2 H9 s9 nz2 rd2 ra2 => ⟨_, rfl, z2, co, L2, cs, rfl, ra2, SqL.of (s9 _ _ (t8 _ _ hco6)), (hcs6.same t8).same s9, by rw [ec]; exact (pick_self rM.asc rd2).symm, fun H10 s10 => ⟨true, rfl, iteF ?_⟩⟩⟩
    have t10 := (t8.trans s9).trans s10
    -- - and ^
    refine ⟨_, rfl, _, rfl, r, q, M, N, rfl, rfl, (dM6.same t10).1, (dN6.same t10).1, by omega, fun z3 L3 H11 s11 nz3 rd3 ra3 => ⟨_, rfl, z3, re, L3, rs, rfl, ra3, SqL.of (s11 _ _ (t10 _ _ hre6)), (hrs6.same t10).same s11, by rw [er]; exact (pick_self rM.asc rd3).symm, fun H12 s12 => ⟨true, rfl, iteF ?_⟩⟩⟩
    have t12 := (t10.trans s11).trans s12
    refine ⟨_, rfl, _, rfl, r, q, M, N, rfl, rfl, (dM6.same t12).1, (dN6.same t12).1, by omega, fun z4 L4 H13 s13 nz4 rd4 ra4 => ?_⟩
    have t13 := t12.trans s13
    refine ⟨_, rfl, _, rfl, re, mo, _, _, rfl, rfl, t13 _ _ hre6, t13 _ _ hmo, ?_, fun j2 nj2 => ?_⟩
    · rw [refs_len, refs_len]
      exact Nat.le_of_lt (small1000 (by omega))
    have s14 := same_upd (o := .lst (refs rs ++ refs os)) nj2
    have ej2 : (upd H13 j2 (.lst (refs rs ++ refs os))) j2 = some (.lst (refs (rs ++ os))) := by
      rw [upd_same]
      unfold refs
      rw [List.map_append]
    have hal2 : Tups (upd H13 j2 (.lst (refs rs ++ refs os))) (rs ++ os) := fun z hz => by
      rcases List.mem_append.mp hz with hz | hz
      · exact s14 _ _ (t13 _ _ (hrs6 z hz))
      · exact s14 _ _ (t13 _ _ (hos z hz))
    have eodd : cellsOf (rs ++ os) = pick true M N ++ pick true N M := by
      unfold cellsOf at er em ⊢
      rw [List.map_append, er, em]
    refine ⟨j2, rs ++ os, rfl, SqL.of ej2, hal2, by rw [eodd]; exact odd_nodup rM.asc rN.asc, by rw [List.length_append]; omega, fun ru vs H15 s15 nru hru hvs rdX => ?_⟩
    have eX : cellsOf vs = L4 := rdX.uniq rd4 fun c => by rw [eodd]
    refine ⟨z4, ru, L4, vs, rfl, (ra4.same s14).same s15, SqL.of hru, hvs, eX, fun H16 s16 => ⟨true, rfl, iteF ?_⟩⟩
    have t16 := ((t13.trans s14).trans s15).trans s16
    have dM16 := dM6.same t16
    have dN16 := dN6.same t16
    -- within
    obtain ⟨dx, d, hr0, _⟩ := id dM16.1
    refine ⟨_, rfl, r, dx, _, rfl, hr0, rfl, _, rfl, r, q, M, N, rfl, dM16.1, dN16.1, fun H17 s17 => ?_⟩
    have t17 := t16.trans s17
    have s18 : ∀ {o : Addr}, H17 o = none → Same H17 (upd H17 o (.lst [])) := fun no => same_upd no
    refine ⟨_, rfl, .bl _, .ty "bool", .type "bool", .type "bool", true, rfl, .ty _, .base (.bl _), kit_ty (by decide +kernel), true, rfl, iteF ⟨_, rfl, _, rfl, Nat.zero_le _, fun o no => ?_⟩⟩
    have t18 := t17.trans (s18 no)
    have e1 : (!decide (V.bl (M.all fun c => decide (c ∈ N)) = V.bl (PyData.eqv (.list ((cellsOf rs).map dC)) (.list ((cellsOf []).map dC))))) = false := by
      rw [dCs_eqv, er, all_pick]
      simp [cellsOf]
    refine ⟨_, _, dp_list (SqL.of (t18 _ _ hre6)) (hrs6.same t18), dp_list (ks := []) (SqL.of upd_same) (fun q hq => nomatch hq), dCs_shaped _, dCs_shaped _, rfl, _, rfl, iteFe e1 ?_⟩
    have dM18 := dM6.same t18
    have dN18 := dN6.same t18
    have t0 := t6.trans t18
    generalize upd H17 o (.lst []) = G at t18 dM18 dN18 t0
    have ha0 := t0 _ _ ha
    have hb0 := t0 _ _ hb
    have hk0 := hk.same t0
    have hl0 := hl.same t0
    have e2 : (!decide (V.bl (false != decide (M = N)) = V.bl (PyData.eqv (.list ((cellsOf ks).map dC)) (.list ((cellsOf ls).map dC))))) = false := by
      rw [dCs_eqv, ek, el]
      simp
    have e3 : (!decide (V.bl (true != decide (M = N)) = V.bl (!PyData.eqv (.list ((cellsOf ks).map dC)) (.list ((cellsOf ls).map dC))))) = false := by
      rw [dCs_eqv, ek, el]
      simp
    refine ⟨_, rfl, _, rfl, r, q, M, N, rfl, rfl, dM18.1, dN18.1, _, rfl, _, rfl, _, _, dp_list (SqL.of ha0) hk0, dp_list (SqL.of hb0) hl0, dCs_shaped _, dCs_shaped _, rfl, _, rfl, iteFe e2 ?_⟩
    refine ⟨_, rfl, _, rfl, r, q, M, N, rfl, rfl, dM18.1, dN18.1, _, rfl, _, rfl, _, _, dp_list (SqL.of ha0) hk0, dp_list (SqL.of hb0) hl0, dCs_shaped _, dCs_shaped _, rfl, _, rfl, iteFe e3 ?_⟩
    refine ⟨_, rfl, _, rfl, r, a, M, ks, rfl, dM18.1, SqL.of ha0, hk0, ek, fun H20 s20 => ⟨true, rfl, ?_⟩⟩
    exact ⟨_, rfl, _, rfl, q, b, N, ls, rfl, dN18.1.same s20, SqL.of (s20 _ _ hb0), hl0.same s20, el, fun H21 s21 => k H21 ((t0.trans s20).trans s21)⟩
end
end SmL
namespace SmL
open PySem PySem.Spec PyProof.Rows L2 ClX StX Sm
section
variable {P : Program} {w : World} {K : PySem.W.Frag} {mg : Str → Option Value} {base : Heap} {C : Addr}
abbrev nGrown : List Str := ["_law_first", "_law_second", "_law_ones", "_law_twos", "_law_union", "_law_common", "_law_rest", "_law_odd", "_law_left", "_law_more", "_law_cell"]
theorem scGrown : FnScope nGrown ["_law_first", "_law_second", "_law_ones", "_law_twos"] (defScope lGrown) := ⟨rfl, rfl, rfl, by decide +kernel, rfl, by decide +kernel, by decide +kernel⟩
theorem ok_grown {f : Addr} {fd : FuncData} (F : Fun K "_law_grown" "_law_grown" lGrown f fd) (R : RegX P w K mg base C) (Y : LawX P w K mg base C) : FnOk P w K mg base CX0 5 f fd ["_law_first", "_law_second", "_law_ones", "_law_twos"] (spAgree C) := by
  refine F.ok scGrown (fun vs H Q E h => ?_) (fun cdv A outer s H vs Q E hr h => ?_)
  · obtain ⟨r, q, a, b, M, N, rfl, _⟩ := h
    rfl
  · obtain ⟨r, q, a, b, M, N, rfl, dM, dN, few, k⟩ := h
    have hr1 : Room 1 _ := hr.mono (by decide)
    have hr2 : Room 2 _ := hr.mono (by decide)
    have hr3 : Room 3 _ := hr.mono (by decide)
    refine ⟨_, pss_cons (ps_set (i := 4) scGrown.nd rfl (.inl rfl) (pv 0))
      (pss_cons (ps_aug (i := 4) scGrown.nd rfl (.inl rfl) (pv 1) (op_iop R.oOr hr3 R.bOr R.two R.iOr R.mOr))
      (pss_cons (ps_set (i := 5) scGrown.nd rfl (.inl rfl) (pv 0))
      (pss_cons (ps_aug (i := 5) scGrown.nd rfl (.inl rfl) (pv 1) (op_iop R.oAnd hr3 R.bAnd R.two R.iAnd R.mAnd))
      (pss_cons (ps_set (i := 6) scGrown.nd rfl (.inl rfl) (pv 0))
      (pss_cons (ps_aug (i := 6) scGrown.nd rfl (.inl rfl) (pv 1) (op_iop R.oSub hr3 R.bSub R.two R.iSub R.mSub))
      (pss_cons (ps_set (i := 7) scGrown.nd rfl (.inl rfl) (pv 0))
      (pss_cons (ps_aug (i := 7) scGrown.nd rfl (.inl rfl) (pv 1) (op_iop R.oXor hr R.bXor R.two R.iXor R.mXor))
      (pss_cons (ps_setLc (i := 8) (own := [("_law_cell", 10)]) (g := gName 10) (tt := tTest (tOp (rNotInD K) (tVar 10) (tVar 3))) (te := tVar 10) rfl scGrown.nd rfl rfl rfl (pi_list (pv 2))
        (blkOk_by (own := [("_law_cell", 10)]) (N := nGrown) (sc := defScope lGrown) (by decide +kernel)) (fun _ _ _ _ _ => pg_name (i := 10) scGrown.nd rfl (Or.inl rfl)) (fun _ _ _ _ _ => pts_one (pt_cmpR (op_notInD (hu65 hr)) (pv 10) (pv 3) (by rfl))) (fun _ _ _ _ _ => pv 10))
      (pss_cons (ps_setLc (i := 9) (own := [("_law_cell", 10)]) (g := gName 10) (tt := tTest (tOp (rNotInD K) (tVar 10) (tVar 2))) (te := tVar 10) rfl scGrown.nd rfl rfl rfl (pi_list (pv 3))
        (blkOk_by (own := [("_law_cell", 10)]) (N := nGrown) (sc := defScope lGrown) (by decide +kernel)) (fun _ _ _ _ _ => pg_name (i := 10) scGrown.nd rfl (Or.inl rfl)) (fun _ _ _ _ _ => pts_one (pt_cmpR (op_notInD (hu65 hr)) (pv 10) (pv 2) (by rfl))) (fun _ _ _ _ _ => pv 10))
      (pss_cons (ps_if (pt_not (pt_val (pe_call Y.is.ok hr (by rfl) Y.is.gl Y.is.kp Y.is.bd .nil pass0 (pa_cons (pv 4)
          (pa_cons (pe_call Y.read.ok hr1 (by rfl) Y.read.gl Y.read.kp Y.read.bd .nil pass0 (pa_cons (pe_call Y.once.ok hr1 (by rfl) Y.once.gl Y.once.kp Y.once.bd .nil pass0 (pa_cons (pe_op op_cat (pv 2) (pv 3)) pa_nil)) pa_nil)) pa_nil))))) (pss_one (ps_ret pe_bl)) pss_nil)
      (pss_cons (ps_if (PW.pt (pw_or (pt_not (pt_val (pe_call Y.is.ok hr (by rfl) Y.is.gl Y.is.kp Y.is.bd .nil pass0 (pa_cons (pv 5) (pa_cons (pe_lc (own := [("_law_cell", 10)]) (g := gName 10) (tt := tTest (tOp (rInD K) (tVar 10) (tVar 3))) (te := tVar 10) rfl scGrown.nd (pi_list (pv 2))
        (blkOk_by (own := [("_law_cell", 10)]) (N := nGrown) (sc := defScope lGrown) (by decide +kernel)) (fun _ _ _ _ _ => pg_name (i := 10) scGrown.nd rfl (Or.inl rfl)) (fun _ _ _ _ _ => pts_one (pt_cmpR (op_inD (hu65 hr)) (pv 10) (pv 3) (by rfl))) (fun _ _ _ _ _ => pv 10)) pa_nil)))))
          (pw_or1 (pt_not (pt_val (pe_call Y.is.ok hr (by rfl) Y.is.gl Y.is.kp Y.is.bd .nil pass0 (pa_cons (pv 6) (pa_cons (pv 8) pa_nil)))))))) (pss_one (ps_ret pe_bl)) pss_nil)
      (pss_cons (ps_if (pt_not (pt_val (pe_call Y.is.ok hr (by rfl) Y.is.gl Y.is.kp Y.is.bd .nil pass0 (pa_cons (pv 7)
            (pa_cons (pe_call Y.read.ok hr1 (by rfl) Y.read.gl Y.read.kp Y.read.bd .nil pass0 (pa_cons (pe_op op_cat (pv 8) (pv 9)) pa_nil)) pa_nil))))) (pss_one (ps_ret pe_bl)) pss_nil)
      (pss_one (ps_ret (pe_and (pe_call Y.is.ok hr (by rfl) Y.is.gl Y.is.kp Y.is.bd .nil pass0 (pa_cons (pv 0) (pa_cons (pv 2) pa_nil))) (pe_one (pe_call Y.is.ok hr (by rfl) Y.is.gl Y.is.kp Y.is.bd .nil pass0 (pa_cons (pv 1) (pa_cons (pv 3) pa_nil))))))))))))))))))), ?_⟩
    obtain ⟨rM, ks, ha, hk, ek⟩ := id dM
    obtain ⟨rN, ls, hb, hl, el⟩ := id dN
    have lk : ks.length = M.length := by rw [← ek, cells_len]
    have ll : ls.length = N.length := by rw [← el, cells_len]
    refine ⟨_, rfl, ?_⟩
    refine ⟨_, rfl, _, rfl, r, q, M, N, rfl, rfl, dM.1, dN.1, by omega, fun z1 L1 H1 s1 nz1 rd1 ra1 => ⟨_, rfl, ?_⟩⟩
    refine ⟨_, rfl, _, rfl, r, q, M, N, rfl, rfl, (dM.same s1).1, (dN.same s1).1, by omega, fun z2 L2 H2 s2 nz2 rd2 ra2 => ⟨_, rfl, ?_⟩⟩
    have t2 := s1.trans s2
    refine ⟨_, rfl, _, rfl, r, q, M, N, rfl, rfl, (dM.same t2).1, (dN.same t2).1, by omega, fun z3 L3 H3 s3 nz3 rd3 ra3 => ⟨_, rfl, ?_⟩⟩
    have t3 := t2.trans s3
    refine ⟨_, rfl, _, rfl, r, q, M, N, rfl, rfl, (dM.same t3).1, (dN.same t3).1, by omega, fun z4 L4 H4 s4 nz4 rd4 ra4 => ?_⟩
    have t4 := t3.trans s4
    refine ⟨_, rfl, a, rfl, ⟨_, SqL.of (t4 _ _ ha)⟩, fun re nre => list_filt (K := K) (a := a) (v := 10) (T := tTest (tOp (rNotInD K) (tVar 10) (tVar 3))) (neg := true) (N := N) nre (t4 _ _ ha) (hk.same t4) (by omega) (fun _ => by exact rfl) (fun _ => by exact rfl) (fun t c G R sG ht r => by exact notIn_test (ls := ls) rfl rfl ht (sG _ _ (t4 _ _ hb)) (hl.same (t4.trans sG)) (by rw [el]; exact r)) fun rs H5 s5 hre hrs er lr => ?_⟩
    have t5 := t4.trans s5
    refine ⟨_, rfl, b, rfl, ⟨_, SqL.of (t5 _ _ hb)⟩, fun mo nmo => list_filt (K := K) (a := b) (v := 10) (T := tTest (tOp (rNotInD K) (tVar 10) (tVar 2))) (neg := true) (N := M) nmo (t5 _ _ hb) (hl.same t5) (by omega) (fun _ => by exact rfl) (fun _ => by exact rfl) (fun t c G R sG ht r => by exact notIn_test (ls := ks) rfl rfl ht (sG _ _ (t5 _ _ ha)) (hk.same (t5.trans sG)) (by rw [ek]; exact r)) fun os H6 s6 hmo hos em lo => ?_⟩
    have t6 := t5.trans s6
    rw [ek] at er
    rw [el] at em
    have s46 : Same H4 H6 := s5.trans s6
    have hre6 := s6 _ _ hre
    have hrs6 := hrs.same s6
    have dM6 := dM.same t6
    have dN6 := dN.same t6
    -- union
    refine ⟨_, rfl, _, rfl, _, rfl, a, b, _, _, rfl, rfl, t6 _ _ ha, t6 _ _ hb, ?_, fun j nj => ?_⟩
    · rw [refs_len, refs_len]
      exact Nat.le_of_lt (small1000 (by omega))
    have s7 := same_upd (o := .lst (refs ks ++ refs ls)) nj
    have ej : (upd H6 j (.lst (refs ks ++ refs ls))) j = some (.lst (refs (ks ++ ls))) := by
      rw [upd_same]
      unfold refs
      rw [List.map_append]
    have hal : Tups (upd H6 j (.lst (refs ks ++ refs ls))) (ks ++ ls) := fun z hz => by
      rcases List.mem_append.mp hz with hz | hz
      · exact s7 _ _ (t6 _ _ (hk z hz))
      · exact s7 _ _ (t6 _ _ (hl z hz))
    have ecat : cellsOf (ks ++ ls) = M ++ N := by
      unfold cellsOf at ek el ⊢
      rw [List.map_append, ek, el]
    refine ⟨j, ks ++ ls, rfl, SqL.of ej, hal, by rw [List.length_append]; omega, fun o1 ms H8 s8 no1 ho1 hms nd mem lm => ?_⟩
    rw [List.length_append] at lm
    refine ⟨o1, ms, rfl, SqL.of ho1, hms, nd, by omega, fun un us H9 s9 nun hun hus rdU => ?_⟩
    have s69 : Same H6 H9 := (s7.trans s8).trans s9
    have s19 : Same H1 H9 := ((s2.trans (s3.trans s4)).trans s46).trans s69
    have eU : cellsOf us = L1 := rdU.uniq rd1 fun c => by rw [mem c, ecat]
    refine ⟨z1, un, L1, us, rfl, ra1.same s19, SqL.of hun, hus, eU, fun H10 s10 => ⟨true, rfl, iteF ?_⟩⟩
    have t10 : Same H6 H10 := s69.trans s10
    have w10 : Same H H10 := t6.trans t10
    -- common, rest
    refine ⟨_, rfl, _, rfl, a, rfl, ⟨_, SqL.of (w10 _ _ ha)⟩, fun co nco => list_filt (K := K) (a := a) (v := 10) (T := tTest (tOp (rInD K) (tVar 10) (tVar 3))) (neg := false) (N := N) nco (w10 _ _ ha) (hk.same w10) (by omega) (fun _ => by exact rfl) (fun _ => by exact rfl) (fun t c G R sG ht r => by exact in_test (ls := ls) rfl rfl ht (sG _ _ (w10 _ _ hb)) (hl.same (w10.trans sG)) (by rw [el]; exact r)) fun cs H11 s11 hco hcs ec lc => ?_⟩
    rw [ek] at ec
    have s2B : Same H2 H11 := (((s3.trans s4).trans s46).trans t10).trans s11
    refine ⟨z2, co, L2, cs, rfl, ra2.same s2B, SqL.of hco, hcs, by rw [ec]; exact (pick_self rM.asc rd2).symm, fun H12 s12 => ⟨true, rfl, iteF ?_⟩⟩
    have t12 : Same H6 H12 := (t10.trans s11).trans s12
    have s3C : Same H3 H12 := (s4.trans s46).trans t12
    refine ⟨_, rfl, _, rfl, z3, re, L3, rs, rfl, ra3.same s3C, SqL.of (t12 _ _ hre6), hrs6.same t12, by rw [er]; exact (pick_self rM.asc rd3).symm, fun H13 s13 => ⟨true, rfl, iteF ?_⟩⟩
    have t13 := t12.trans s13
    -- odd
    refine ⟨_, rfl, _, rfl, _, rfl, re, mo, _, _, rfl, rfl, t13 _ _ hre6, t13 _ _ hmo, ?_, fun j2 nj2 => ?_⟩
    · rw [refs_len, refs_len]
      exact Nat.le_of_lt (small1000 (by omega))
    have s14 := same_upd (o := .lst (refs rs ++ refs os)) nj2
    have ej2 : (upd H13 j2 (.lst (refs rs ++ refs os))) j2 = some (.lst (refs (rs ++ os))) := by
      rw [upd_same]
      unfold refs
      rw [List.map_append]
    have hal2 : Tups (upd H13 j2 (.lst (refs rs ++ refs os))) (rs ++ os) := fun z hz => by
      rcases List.mem_append.mp hz with hz | hz
      · exact s14 _ _ (t13 _ _ (hrs6 z hz))
      · exact s14 _ _ (t13 _ _ (hos z hz))
    have eodd : cellsOf (rs ++ os) = pick true M N ++ pick true N M := by
      unfold cellsOf at er em ⊢
      rw [List.map_append, er, em]
    refine ⟨j2, rs ++ os, rfl, SqL.of ej2, hal2, by rw [eodd]; exact odd_nodup rM.asc rN.asc, by rw [List.length_append]; omega, fun ru vs H15 s15 nru hru hvs rdX => ?_⟩
    have eX : cellsOf vs = L4 := rdX.uniq rd4 fun c => by rw [eodd]
    have s4F : Same H4 H15 := ((s46.trans t13).trans s14).trans s15
    refine ⟨z4, ru, L4, vs, rfl, ra4.same s4F, SqL.of hru, hvs, eX, fun H16 s16 => ⟨true, rfl, iteF ?_⟩⟩
    have t0 : Same H H16 := (t4.trans s4F).trans s16
    refine ⟨_, rfl, _, rfl, r, a, M, ks, rfl, (dM.same t0).1, SqL.of (t0 _ _ ha), hk.same t0, ek, fun H20 s20 => ⟨true, rfl, ?_⟩⟩
    exact ⟨_, rfl, _, rfl, q, b, N, ls, rfl, (dN.same (t0.trans s20)).1, SqL.of (s20 _ _ (t0 _ _ hb)), hl.same (t0.trans s20), el, fun H21 s21 => k H21 ((t0.trans s20).trans s21)⟩
end
end SmL
namespace SmL
open PySem PySem.Spec PyProof.Rows L2 ClX StX Sm
theorem Small.mid {c : Cell} (h : Small c) : Mid c := by
  obtain ⟨h1, h2, h3, h4⟩ := h
  exact ⟨⟨by omega, by omega⟩, by omega, by omega⟩
section
variable {P : Program} {w : World} {K : PySem.W.Frag} {mg : Str → Option Value} {base : Heap} {C : Addr}
def spLaw (K : PySem.W.Frag) : Sp := fun vs H Q _ => ∃ (a : Addr) (ns : List Int), vs = [.ref a] ∧ SqL K H a (ns.map V.int) ∧ ns.length ≤ 63 ∧ ∀ H', Q (.bl true) H'
abbrev nLaw : List Str := ["_law_script", "_law_bag_here", "_law_ones", "_law_twos", "_law_first", "_law_second", "_law_none"]
theorem scLaw : FnScope nLaw ["_law_script"] (defScope lLaw) := ⟨rfl, rfl, rfl, by decide +kernel, rfl, by decide +kernel, by decide +kernel⟩
theorem ok_law {f fBag fTake fSpots fSubset fAgree fGrown : Addr} {fd dBag dTake dSpots dSubset dAgree dGrown : FuncData} (F : Fun K "law" "law" lLaw f fd) (R : RegX P w K mg base C) (Y : LawX P w K mg base C)
    (cBag : Cl P w K mg base 1 "_law_bag" ["_law_script"] (spBag K) fBag dBag) (cTake : Cl P w K mg base 1 "_law_take" ["_law_bag_here", "_law_size"] spTake fTake dTake) (cSpots : Cl P w K mg base 3 "_law_spots" ["_law_bag_here", "_law_most"] spSpots fSpots dSpots)
    (cSubset : Cl P w K mg base 3 "_law_subset" ["_law_bag_here", "_law_cells", "_law_share"] spSubset fSubset dSubset) (cAgree : Cl P w K mg base 5 "_law_agree" ["_law_first", "_law_second", "_law_ones", "_law_twos"] (spAgree C) fAgree dAgree)
    (cGrown : Cl P w K mg base 5 "_law_grown" ["_law_first", "_law_second", "_law_ones", "_law_twos"] (spAgree C) fGrown dGrown) (ms : mg "str" = none) : FnOk P w K mg base CX0 6 f fd ["_law_script"] (spLaw K) := by
  refine F.ok scLaw (fun vs H Q E h => ?_) (fun cdv A outer s H vs Q E hr h => ?_)
  · obtain ⟨a, ns, rfl, _⟩ := h
    rfl
  · obtain ⟨a, ns, rfl, ha, few, k⟩ := h
    have hr1 : Room 1 _ := hr.mono (by decide)
    have hr2 : Room 2 _ := hr.mono (by decide)
    have hr3 : Room 3 _ := hr.mono (by decide)
    have hr4 : Room 4 _ := hr.mono (by decide)
    refine ⟨_, pss_cons (ps_set (i := 1) scLaw.nd rfl (.inl rfl) (pe_call cBag.ok hr1 (by rfl) cBag.gl cBag.kp cBag.bd .nil pass0 (pa_cons (pv 0) pa_nil)))
      (pss_cons (ps_set (i := 2) scLaw.nd rfl (.inl rfl) (pe_call cSpots.ok hr3 (by rfl) cSpots.gl cSpots.kp cSpots.bd .nil pass0 (pa_cons (pv 1) (pa_cons pe_int pa_nil))))
      (pss_cons (ps_set (i := 3) scLaw.nd rfl (.inl rfl) (pe_op op_cat (pe_call cSpots.ok hr3 (by rfl) cSpots.gl cSpots.kp cSpots.bd .nil pass0 (pa_cons (pv 1) (pa_cons pe_int pa_nil))) (pe_call cSubset.ok hr3 (by rfl) cSubset.gl cSubset.kp cSubset.bd .nil pass0 (pa_cons (pv 1) (pa_cons (pv 2) (pa_cons pe_int pa_nil))))))
      (C8.pss_cut (ps_if (pt_cmpR op_eq (pe_call cTake.ok hr1 (by rfl) cTake.gl cTake.kp cTake.bd .nil pass0 (pa_cons (pv 1) (pa_cons pe_int pa_nil))) pe_int (nomark _)) (pss_one (ps_set (i := 3) scLaw.nd rfl (.inl rfl) (pe_revL (pv 2)))) pss_nil)
      (pss_cons (ps_set (i := 4) scLaw.nd rfl (.inl rfl) (pe_make R.mkI R.oI hr2 (by rfl) R.T.t.mgC R.bI .nil pass0 (pa_cons (pe_callTy call_list_of (by rfl) R.T.t.lst (by decide +kernel) (pa_cons (pv 2) pa_nil)) pa_nil)))
      (pss_cons (ps_set (i := 5) scLaw.nd rfl (.inl rfl) (pe_make R.mkI R.oI hr2 (by rfl) R.T.t.mgC R.bI .nil pass0 (pa_cons (pe_callTy call_list_of (by rfl) R.T.t.lst (by decide +kernel) (pa_cons (pv 3) pa_nil)) pa_nil)))
      (pss_cons (ps_set (i := 2) scLaw.nd rfl (.inl rfl) (pe_call Y.read.ok hr1 (by rfl) Y.read.gl Y.read.kp Y.read.bd .nil pass0 (pa_cons (pe_call Y.once.ok hr1 (by rfl) Y.once.gl Y.once.kp Y.once.bd .nil pass0 (pa_cons (pv 2) pa_nil)) pa_nil)))
      (pss_cons (ps_set (i := 3) scLaw.nd rfl (.inl rfl) (pe_call Y.read.ok hr1 (by rfl) Y.read.gl Y.read.kp Y.read.bd .nil pass0 (pa_cons (pe_call Y.once.ok hr1 (by rfl) Y.once.gl Y.once.kp Y.once.bd .nil pass0 (pa_cons (pv 3) pa_nil)) pa_nil)))
      (pss_cons (ps_set (i := 6) scLaw.nd rfl (.inl rfl) (pe_make R.mkI R.oI hr2 (by rfl) R.T.t.mgC R.bI .nil pass0 (pa_cons (pe_lst pa_nil) pa_nil)))
      (pss_cons (ps_if (PW.pt (pw_or (pt_not (pt_val (pe_call cAgree.ok hr (by rfl) cAgree.gl cAgree.kp cAgree.bd .nil pass0 (pa_cons (pv 4) (pa_cons (pv 5) (pa_cons (pv 2) (pa_cons (pv 3) pa_nil)))))))
          (pw_or1 (pt_not (pt_val (pe_call cAgree.ok hr (by rfl) cAgree.gl cAgree.kp cAgree.bd .nil pass0 (pa_cons (pv 5) (pa_cons (pv 4) (pa_cons (pv 3) (pa_cons (pv 2) pa_nil)))))))))) (pss_one (ps_ret pe_bl)) pss_nil)
      (pss_cons (ps_if (PW.pt (pw_or (pt_not (pt_val (pe_call cAgree.ok hr (by rfl) cAgree.gl cAgree.kp cAgree.bd .nil pass0 (pa_cons (pv 4) (pa_cons (pv 4) (pa_cons (pv 2) (pa_cons (pv 2) pa_nil)))))))
          (pw_or1 (pt_not (pt_val (pe_call cAgree.ok hr (by rfl) cAgree.gl cAgree.kp cAgree.bd .nil pass0 (pa_cons (pv 4) (pa_cons (pv 6) (pa_cons (pv 2) (pa_cons (pe_lst pa_nil) pa_nil)))))))))) (pss_one (ps_ret pe_bl)) pss_nil)
      (pss_cons (ps_if (PW.pt (pw_or (pt_not (pt_val (pe_call cAgree.ok hr (by rfl) cAgree.gl cAgree.kp cAgree.bd .nil pass0 (pa_cons (pv 6) (pa_cons (pv 5) (pa_cons (pe_lst pa_nil) (pa_cons (pv 3) pa_nil)))))))
          (pw_or1 (pt_not (pt_val (pe_call cAgree.ok hr (by rfl) cAgree.gl cAgree.kp cAgree.bd .nil pass0 (pa_cons (pv 6) (pa_cons (pv 6) (pa_cons (pe_lst pa_nil) (pa_cons (pe_lst pa_nil) pa_nil)))))))))) (pss_one (ps_ret pe_bl)) pss_nil)
      (pss_cons (ps_if (PW.pt (pw_or (pt_not (pt_val (pe_call cGrown.ok hr (by rfl) cGrown.gl cGrown.kp cGrown.bd .nil pass0 (pa_cons (pv 4) (pa_cons (pv 5) (pa_cons (pv 2) (pa_cons (pv 3) pa_nil)))))))
          (pw_or1 (pt_not (pt_val (pe_call cGrown.ok hr (by rfl) cGrown.gl cGrown.kp cGrown.bd .nil pass0 (pa_cons (pv 5) (pa_cons (pv 4) (pa_cons (pv 3) (pa_cons (pv 2) pa_nil)))))))))) (pss_one (ps_ret pe_bl)) pss_nil)
      (pss_cons (ps_if (PW.pt (pw_or (pt_cmpR op_isnot_bl (pe_cmpR (op_eqS R.oES hr1 R.bE R.mE R.ns) (pv 4) (pe_callTy (call_strR R.oS hr4 R.bS R.mS) (by rfl) ms (by decide +kernel) (pa_cons (pv 4) pa_nil)) (nomark _)) pe_bl (nomark _))
          (pw_or1 (pt_cmpR op_isnot_bl (pe_cmpR (op_eqS R.oES hr1 R.bE R.mE R.ns) (pv 4) pe_str (nomark _)) pe_bl (nomark _))))) (pss_one (ps_ret pe_bl)) pss_nil)
      (pss_one (ps_ret (pe_and (pe_cmpR op_is_bl (pe_cmpR (op_eqL R.oEL hr1 R.bE R.mE R.nl) (pv 4) (pv 2) (nomark _)) pe_bl (nomark _)) (pe_and (pe_cmpR op_is_bl (pe_cmpR (op_eqL R.oEL hr1 R.bE R.mE R.nl) (pv 6) (pe_lst pa_nil) (nomark _)) pe_bl (nomark _))
        (pe_one (pe_call cAgree.ok hr (by rfl) cAgree.gl cAgree.kp cAgree.bd .nil pass0 (pa_cons (pv 4) (pa_cons (pv 5) (pa_cons (pv 2) (pa_cons (pv 3) pa_nil))))))))))))))))))))))), ?_⟩
    -- bag, ones
    refine ⟨_, rfl, a, ns, rfl, ha, few, fun b l H1 s1 nb hb => ?_⟩
    refine ⟨_, rfl, b, l, 8, rfl, hb, by decide, by decide, fun p ks H2 sb2 hb2 np hp hks lks smk => ?_⟩
    have l8 : ks.length ≤ 8 := by omega
    have pb : p ≠ b := fun e => by
      obtain ⟨xs, e2⟩ := bag_b hb
      rw [e, e2] at np
      cases np
    have tb : ∀ {G G' : Hp} {xs : CL}, SameBut b G G' → BagL G b l → Tups G xs → Tups G' xs := fun {G G' xs} sb hB h q hq => sb _ _ (ne_of (h q hq) (bag_b hB).choose_spec (by intro z; cases z)) (h q hq)
    -- twos
    refine ⟨_, rfl, b, l, 8, rfl, hb2, by decide, by decide, fun p3 xs H3 sb3 hb3 np3 hp3 hxs lxs smx => ?_⟩
    have p3b : p3 ≠ b := fun e => by
      obtain ⟨xs, e2⟩ := bag_b hb2
      rw [e, e2] at np3
      cases np3
    have hp_3 : H3 p = some (.lst (refs ks)) := sb3 _ _ pb hp
    have hks3 : Tups H3 ks := tb sb3 hb2 hks
    refine ⟨_, rfl, _, rfl, b, l, p, ks, 2, rfl, hb3, hp_3, hks3, by decide, by decide, by omega, fun p4 ys H4 sb4 hb4 np4 hp4 hys lys => ?_⟩
    have hp_4 : H4 p = some (.lst (refs ks)) := sb4 _ _ pb hp_3
    have hks4 : Tups H4 ks := tb sb4 hb3 hks3
    have hxs4 : Tups H4 xs := tb sb4 hb3 hxs
    have hp3_4 : H4 p3 = some (.lst (refs xs)) := sb4 _ _ p3b hp3
    refine ⟨p3, p4, _, _, rfl, rfl, hp3_4, hp4, ?_, fun j nj => ?_⟩
    · rw [refs_len, refs_len]
      exact Nat.le_of_lt (small1000 (by omega))
    have s5 := same_upd (o := .lst (refs xs ++ refs ys)) nj
    have ej : (upd H4 j (.lst (refs xs ++ refs ys))) j = some (.lst (refs (xs ++ ys))) := by
      rw [upd_same]
      unfold refs
      rw [List.map_append]
    have hxy : Tups (upd H4 j (.lst (refs xs ++ refs ys))) (xs ++ ys) := fun z hz => by
      rcases List.mem_append.mp hz with hz | hz
      · exact s5 _ _ (hxs4 z hz)
      · exact s5 _ _ (hys z hz)
    have jb : j ≠ b := fun e => by
      obtain ⟨xs, e2⟩ := bag_b hb4
      rw [e, e2] at nj
      cases nj
    have hb5 : BagL (upd H4 j (.lst (refs xs ++ refs ys))) b l := bag_upd hb4 nj
    -- perhaps the ones in another order
    refine ⟨fun σ G => ∃ (p5 : Addr) (ls : CL), σ = [some (.ref a), some (.ref b), some (.ref p), some (.ref p5), Option.none, Option.none, Option.none] ∧ G p = some (.lst (refs ks)) ∧ Tups G ks ∧ G p5 = some (.lst (refs ls)) ∧ Tups G ls ∧ ls.length ≤ 16, ?_, ?_⟩
    · refine ⟨_, rfl, b, l, 4, rfl, hb5, by decide, by decide, fun n H6 n0 n1 bu hb6 => ⟨rfl, _, rfl, ite2 (fun _ => ?_) (fun _ => ?_)⟩⟩
      · have h6 : H6 p = some (.lst (refs ks)) := (bu p pb).trans (s5 _ _ hp_4)
        have t6 : Tups H6 ks := tb (but_same bu) hb5 (hks4.same s5)
        refine ⟨_, rfl, p, _, rfl, SqL.of h6, fun q nq => ?_⟩
        have s7 := same_upd (o := .lst (refs ks).reverse) nq
        refine ⟨q, ks.reverse, rfl, s7 _ _ h6, t6.same s7, ?_, fun z hz => t6.same s7 z (List.mem_reverse.mp hz), by rw [List.length_reverse]; omega⟩
        rw [upd_same]
        unfold refs
        rw [List.map_reverse]
      · exact ⟨j, xs ++ ys, rfl, (bu p pb).trans (s5 _ _ hp_4), tb (but_same bu) hb5 (hks4.same s5), (bu j jb).trans ej, tb (but_same bu) hb5 hxy, by rw [List.length_append]; omega⟩
    · rintro σ G ⟨p5, ls, rfl, hp, hks, hp5, hls, l16⟩
      -- the regions
      refine ⟨_, rfl, p, _, rfl, .inl (SqL.of hp), fun c1 nc1 => ?_⟩
      have u1 := same_upd (o := .lst (refs ks)) nc1
      intro z1 e1 nz1 ne1 nexz1
      refine ⟨z1, e1, c1, ks, rfl, upd_same, SqL.of (made0 (C := C) nz1 ne1 _ _ upd_same), Tups.same (hks.same u1) (made0 nz1 ne1), by omega, fun G1 M rd1 ra1 sb1 => ⟨rfl, ?_⟩⟩
      have v1 : Same (upd G c1 (.lst (refs ks))) G1 := fun y o e => made nz1 ne1 sb1 _ _ e
      have w1 := u1.trans v1
      refine ⟨_, rfl, p5, _, rfl, .inl (SqL.of (w1 _ _ hp5)), fun c2 nc2 => ?_⟩
      have u2 := same_upd (o := .lst (refs ls)) nc2
      intro z2 e2 nz2 ne2 nexz2
      refine ⟨z2, e2, c2, ls, rfl, upd_same, SqL.of (made0 (C := C) nz2 ne2 _ _ upd_same), Tups.same ((hls.same w1).same u2) (made0 nz2 ne2), by omega, fun G2 N rd2 ra2 sb2' => ⟨rfl, ?_⟩⟩
      have v2 : Same (upd G1 c2 (.lst (refs ls))) G2 := fun y o e => made nz2 ne2 sb2' _ _ e
      have w2 : Same G G2 := (w1.trans u2).trans v2
      -- ones, twos in reading order
      refine ⟨_, rfl, p, ks, rfl, SqL.of (w2 _ _ hp), hks.same w2, by omega, fun o1 ms G3 s3 no1 ho1 hms nd1 mem1 lm1 => ?_⟩
      refine ⟨o1, ms, rfl, SqL.of ho1, hms, nd1, by omega, fun d1 rs G4 s4 nd1' hd1 hrs rdA => ?_⟩
      have w4 : Same G2 G4 := s3.trans s4
      refine ⟨_, rfl, p5, ls, rfl, SqL.of (w4 _ _ (w2 _ _ hp5)), (hls.same w2).same w4, by omega, fun o2 ns2 G5 s5' no2 ho2 hns nd2 mem2 lm2 => ?_⟩
      refine ⟨o2, ns2, rfl, SqL.of ho2, hns, nd2, by omega, fun d2 ts G6 s6 nd2' hd2 hts rdB => ?_⟩
      have w6 : Same G4 G6 := s5'.trans s6
      have eM : cellsOf rs = M := rdA.uniq rd1 mem1
      have eN : cellsOf ts = N := rdB.uniq rd2 mem2
      have lenOf : ∀ {as bs : CL}, Reading (cellsOf as) (cellsOf bs) → bs.length ≤ as.length := fun {as bs} rd => by
        have nd : (cellsOf bs).Nodup := List.Pairwise.imp (fun {x y} (hb : bef x y) => show x ≠ y from fun e => bef_irr y (by rw [e] at hb; exact hb)) rd.asc
        have z := nodup_sub (cellsOf bs) (cellsOf as) nd fun d hd => (rd.mem d).mp hd
        rw [cells_len, cells_len] at z
        exact z
      have lM : M.length ≤ 8 := by
        have z := lenOf rdA
        rw [← eM, cells_len]
        omega
      have lN : N.length ≤ 16 := by
        have z := lenOf rdB
        rw [← eN, cells_len]
        omega
      have mid : ∀ d ∈ M, Mid d := fun d hd => (smk d ((rd1.mem d).mp hd)).mid
      have D1 : Due C G6 z1 d1 M := ⟨(ra1.same ((u2.trans v2).trans w4)).same w6, rs, w6 _ _ hd1, hrs.same w6, eM⟩
      have D2 : Due C G6 z2 d2 N := ⟨(ra2.same w4).same w6, ts, hd2, hts, eN⟩
      -- the region without cells
      refine ⟨Nat.zero_le _, fun c3 nc3 => ?_⟩
      have u3 := same_upd (o := .lst []) nc3
      intro z3 e3 nz3 ne3 nexz3
      refine ⟨z3, e3, c3, [], rfl, upd_same, SqL.of (made0 (C := C) nz3 ne3 _ _ upd_same), Tups.same ((fun q hq => nomatch hq : Tups _ [])) (made0 nz3 ne3), by decide, fun G7 L rd3 ra3 sb3' => ⟨rfl, ?_⟩⟩
      have v3 : Same (upd G6 c3 (.lst [])) G7 := fun y o e => made nz3 ne3 sb3' _ _ e
      have eL : L = [] := by
        cases L with
        | nil => rfl
        | cons x L => exact nomatch (rd3.mem x).mp List.mem_cons_self
      subst eL
      have w7 : Same G6 G7 := u3.trans v3
      replace D1 := D1.same w7
      replace D2 := D2.same w7
      have empty : ∀ {H : Hp} {o : Addr}, RegAt C H z3 [] → H o = none → Due C (upd H o (.lst [])) z3 o [] := fun {H o} h no => ⟨h.same (same_upd no), [], upd_same, (fun q hq => nomatch hq), rfl⟩
      clear empty
      have empty : ∀ {H : Hp} {o : Addr}, RegAt C H z3 [] → H o = none → Due C (upd H o (.lst [])) z3 o [] := fun {H o} h no => ⟨h.same (same_upd no), [], upd_same, (fun q hq => nomatch hq), rfl⟩
      have E3 : RegAt C G7 z3 [] := ra3
      -- the pairs
      refine ⟨_, rfl, _, rfl, _, rfl, _, rfl, z1, z2, d1, d2, M, N, rfl, D1, D2, by omega, fun A1 g1 => ⟨true, rfl, iteF ?_⟩⟩
      replace D1 := D1.same g1
      replace D2 := D2.same g1
      replace E3 := E3.same g1
      refine ⟨_, rfl, _, rfl, _, rfl, _, rfl, z2, z1, d2, d1, N, M, rfl, D2, D1, by omega, fun A2 g2 => ⟨true, rfl, iteF ?_⟩⟩
      replace D1 := D1.same g2
      replace D2 := D2.same g2
      replace E3 := E3.same g2
      refine ⟨_, rfl, _, rfl, _, rfl, _, rfl, z1, z1, d1, d1, M, M, rfl, D1, D1, by omega, fun A3 g3 => ⟨true, rfl, iteF ?_⟩⟩
      replace D1 := D1.same g3
      replace D2 := D2.same g3
      replace E3 := E3.same g3
      refine ⟨_, rfl, _, rfl, _, rfl, Nat.zero_le _, fun o4 no4 => ⟨z1, z3, d1, o4, M, [], rfl, D1.same (same_upd no4), empty E3 no4, by rw [List.length_nil]; omega, fun A4 g4 => ⟨true, rfl, iteF ?_⟩⟩⟩
      replace D1 := (D1.same (same_upd (o := .lst []) no4)).same g4
      replace D2 := (D2.same (same_upd (o := .lst []) no4)).same g4
      replace E3 := (E3.same (same_upd (o := .lst []) no4)).same g4
      refine ⟨_, rfl, _, rfl, Nat.zero_le _, fun o5 no5 => ⟨_, rfl, z3, z2, o5, d2, [], N, rfl, empty E3 no5, D2.same (same_upd no5), by rw [List.length_nil]; omega, fun A5 g5 => ⟨true, rfl, iteF ?_⟩⟩⟩
      replace D1 := (D1.same (same_upd (o := .lst []) no5)).same g5
      replace D2 := (D2.same (same_upd (o := .lst []) no5)).same g5
      replace E3 := (E3.same (same_upd (o := .lst []) no5)).same g5
      refine ⟨_, rfl, _, rfl, Nat.zero_le _, fun o6 no6 => ⟨Nat.zero_le _, fun o7 no7 => ⟨z3, z3, o6, o7, [], [], rfl, (empty E3 no6).same (same_upd no7), empty (E3.same (same_upd no6)) no7, by decide, fun A6 g6 => ⟨true, rfl, iteF ?_⟩⟩⟩⟩
      replace D1 := ((D1.same (same_upd (o := .lst []) no6)).same (same_upd (o := .lst []) no7)).same g6
      replace D2 := ((D2.same (same_upd (o := .lst []) no6)).same (same_upd (o := .lst []) no7)).same g6
      replace E3 := ((E3.same (same_upd (o := .lst []) no6)).same (same_upd (o := .lst []) no7)).same g6
      -- grown
      refine ⟨_, rfl, _, rfl, _, rfl, _, rfl, z1, z2, d1, d2, M, N, rfl, D1, D2, by omega, fun A7 g7 => ⟨true, rfl, iteF ?_⟩⟩
      replace D1 := D1.same g7
      replace D2 := D2.same g7
      replace E3 := E3.same g7
      refine ⟨_, rfl, _, rfl, _, rfl, _, rfl, z2, z1, d2, d1, N, M, rfl, D2, D1, by omega, fun A8 g8 => ⟨true, rfl, iteF ?_⟩⟩
      replace D1 := D1.same g8
      replace D2 := D2.same g8
      replace E3 := E3.same g8
      -- not its text
      refine ⟨_, rfl, _, rfl, z1, M, rfl, D1.1, mid, fun A9 g9 => ?_⟩
      replace D1 := D1.same g9
      replace D2 := D2.same g9
      replace E3 := E3.same g9
      refine ⟨z1, M, _, rfl, rfl, D1.1, false, false, rfl, rfl, _, rfl, iteFe (by decide) ?_⟩
      refine ⟨_, rfl, z1, M, _, rfl, rfl, D1.1, false, false, rfl, rfl, _, rfl, iteFe (by decide) ?_⟩
      -- not the list
      obtain ⟨D1r, qs, hqs, _⟩ := id D1
      refine ⟨_, rfl, _, rfl, z1, d1, M, _, rfl, rfl, D1r, hqs, false, false, rfl, rfl, true, by simp, ?_⟩
      refine ⟨_, rfl, Nat.zero_le _, fun o8 no8 => ⟨z3, o8, [], [], rfl, rfl, E3.same (same_upd no8), upd_same, false, false, rfl, rfl, true, by simp, ?_⟩⟩
      exact ⟨_, rfl, _, rfl, _, rfl, _, rfl, z1, z2, d1, d2, M, N, rfl, D1.same (same_upd no8), D2.same (same_upd no8), by omega, fun B _ => k B⟩
end
end SmL
namespace SmL
open PySem PySem.Spec PyProof.Rows L2 ClX StX
theorem kit_self {K : PySem.W.Frag} {C : Addr} : PySem.W.kitOne K (.ref C) (.ref C) = some true := by
  unfold PySem.W.kitOne
  rw [if_pos (beq_self_eq_true _)]
/-! ### what the top has left -/
theorem all_mk {l : PySem.W.OpenLaw} {w : World} {K : PySem.W.Frag} {h : Heap} {mg : Str → Option Value} {fa C fI fCs fE fWi fRo fNd fMi fXo fHs fTx fDec fBag fTake fInt fCell fCells fRead fOnce fSubset fAgree fGrown fSpot fSpots fIs fLaw : Addr} {tk : Tok} {cdC : ClassData} (X : K.In h) (G : h.Ns mainGlobals mg) (hfa : mg "law" = some (.ref fa))
    {odI anI odCs anCs odE anE odWi anWi odRo anRo odNd anNd odMi anMi odXo anXo odHs anHs odTx anTx odDec anDec odBag anBag odTake anTake odInt anInt odCell anCell odCells anCells odRead anRead odOnce anOnce odSubset anSubset odAgree anAgree odGrown anGrown odSpot anSpot odSpots anSpots odIs anIs odLaw anLaw : Option Addr}
    {slI slCs slE slWi slRo slNd slMi slXo slHs slTx slDec slBag slTake slInt slCell slCells slRead slOnce slSubset slAgree slGrown slSpot slSpots slIs slLaw : Array (Option Value)}
    {ocI kVI dcI pmI cdI ctI ocCs kVCs dcCs pmCs cdCs ctCs ocE kVE dcE pmE cdE ctE ocWi kVWi dcWi pmWi cdWi ctWi ocRo kVRo dcRo pmRo cdRo ctRo ocNd kVNd dcNd pmNd cdNd ctNd ocMi kVMi dcMi pmMi cdMi ctMi ocXo kVXo dcXo pmXo cdXo ctXo ocHs kVHs dcHs pmHs cdHs ctHs ocTx kVTx dcTx pmTx cdTx ctTx ocDec kVDec dcDec pmDec cdDec ctDec ocBag kVBag dcBag pmBag cdBag ctBag ocTake kVTake dcTake pmTake cdTake ctTake ocInt kVInt dcInt pmInt cdInt ctInt ocCell kVCell dcCell pmCell cdCell ctCell ocCells kVCells dcCells pmCells cdCells ctCells ocRead kVRead dcRead pmRead cdRead ctRead ocOnce kVOnce dcOnce pmOnce cdOnce ctOnce ocSubset kVSubset dcSubset pmSubset cdSubset ctSubset ocAgree kVAgree dcAgree pmAgree cdAgree ctAgree ocGrown kVGrown dcGrown pmGrown cdGrown ctGrown ocSpot kVSpot dcSpot pmSpot cdSpot ctSpot ocSpots kVSpots dcSpots pmSpots cdSpots ctSpots ocIs kVIs dcIs pmIs cdIs ctIs ocLaw kVLaw dcLaw pmLaw cdLaw ctLaw : Value}
    (aC : PySem.W.nsIn K mainGlobals "Region" = some (some (.ref C)))
    (aI : PySem.W.findIn K (.ref C) "__init__" = some (some (.ref fI)))
    (iI : PySem.W.isFn K (.ref fI) = true)
    (lI : K.lookup fI = some ⟨ocI, odI, .func (PySem.W.fnOf "__init__" "Region.__init__" (defArgs cInit) (defBody cInit) (defScope cInit) .none kVI dcI pmI anI cdI ctI), slI⟩)
    (cI : PySem.W.codeIn K cdI "Region.__init__" = true)
    (kI : PySem.W.keepIn K (.ref fI) = true)
    (aCs : PySem.W.findIn K (.ref C) "cells" = some (some (.ref fCs)))
    (iCs : PySem.W.isFn K (.ref fCs) = true)
    (lCs : K.lookup fCs = some ⟨ocCs, odCs, .func (PySem.W.fnOf "cells" "Region.cells" (defArgs cCells) (defBody cCells) (defScope cCells) .none kVCs dcCs pmCs anCs cdCs ctCs), slCs⟩)
    (cCs : PySem.W.codeIn K cdCs "Region.cells" = true)
    (kCs : PySem.W.keepIn K (.ref fCs) = true)
    (aE : PySem.W.findIn K (.ref C) "__eq__" = some (some (.ref fE)))
    (iE : PySem.W.isFn K (.ref fE) = true)
    (lE : K.lookup fE = some ⟨ocE, odE, .func (PySem.W.fnOf "__eq__" "Region.__eq__" (defArgs cEq) (defBody cEq) (defScope cEq) .none kVE dcE pmE anE cdE ctE), slE⟩)
    (cE : PySem.W.codeIn K cdE "Region.__eq__" = true)
    (kE : PySem.W.keepIn K (.ref fE) = true)
    (aWi : PySem.W.findIn K (.ref C) "within" = some (some (.ref fWi)))
    (iWi : PySem.W.isFn K (.ref fWi) = true)
    (lWi : K.lookup fWi = some ⟨ocWi, odWi, .func (PySem.W.fnOf "within" "Region.within" (defArgs cWithin) (defBody cWithin) (defScope cWithin) .none kVWi dcWi pmWi anWi cdWi ctWi), slWi⟩)
    (cWi : PySem.W.codeIn K cdWi "Region.within" = true)
    (kWi : PySem.W.keepIn K (.ref fWi) = true)
    (aRo : PySem.W.findIn K (.ref C) "__or__" = some (some (.ref fRo)))
    (iRo : PySem.W.isFn K (.ref fRo) = true)
    (lRo : K.lookup fRo = some ⟨ocRo, odRo, .func (PySem.W.fnOf "__or__" "Region.__or__" (defArgs cOr) (defBody cOr) (defScope cOr) .none kVRo dcRo pmRo anRo cdRo ctRo), slRo⟩)
    (cRo : PySem.W.codeIn K cdRo "Region.__or__" = true)
    (kRo : PySem.W.keepIn K (.ref fRo) = true)
    (aNd : PySem.W.findIn K (.ref C) "__and__" = some (some (.ref fNd)))
    (iNd : PySem.W.isFn K (.ref fNd) = true)
    (lNd : K.lookup fNd = some ⟨ocNd, odNd, .func (PySem.W.fnOf "__and__" "Region.__and__" (defArgs cAnd) (defBody cAnd) (defScope cAnd) .none kVNd dcNd pmNd anNd cdNd ctNd), slNd⟩)
    (cNd : PySem.W.codeIn K cdNd "Region.__and__" = true)
    (kNd : PySem.W.keepIn K (.ref fNd) = true)
    (aMi : PySem.W.findIn K (.ref C) "__sub__" = some (some (.ref fMi)))
    (iMi : PySem.W.isFn K (.ref fMi) = true)
    (lMi : K.lookup fMi = some ⟨ocMi, odMi, .func (PySem.W.fnOf "__sub__" "Region.__sub__" (defArgs cSub) (defBody cSub) (defScope cSub) .none kVMi dcMi pmMi anMi cdMi ctMi), slMi⟩)
    (cMi : PySem.W.codeIn K cdMi "Region.__sub__" = true)
    (kMi : PySem.W.keepIn K (.ref fMi) = true)
    (aXo : PySem.W.findIn K (.ref C) "__xor__" = some (some (.ref fXo)))
    (iXo : PySem.W.isFn K (.ref fXo) = true)
    (lXo : K.lookup fXo = some ⟨ocXo, odXo, .func (PySem.W.fnOf "__xor__" "Region.__xor__" (defArgs cXor) (defBody cXor) (defScope cXor) .none kVXo dcXo pmXo anXo cdXo ctXo), slXo⟩)
    (cXo : PySem.W.codeIn K cdXo "Region.__xor__" = true)
    (kXo : PySem.W.keepIn K (.ref fXo) = true)
    (aHs : PySem.W.findIn K (.ref C) "__contains__" = some (some (.ref fHs)))
    (iHs : PySem.W.isFn K (.ref fHs) = true)
    (lHs : K.lookup fHs = some ⟨ocHs, odHs, .func (PySem.W.fnOf "__contains__" "Region.__contains__" (defArgs cIn) (defBody cIn) (defScope cIn) .none kVHs dcHs pmHs anHs cdHs ctHs), slHs⟩)
    (cHs : PySem.W.codeIn K cdHs "Region.__contains__" = true)
    (kHs : PySem.W.keepIn K (.ref fHs) = true)
    (aTx : PySem.W.findIn K (.ref C) "__str__" = some (some (.ref fTx)))
    (iTx : PySem.W.isFn K (.ref fTx) = true)
    (lTx : K.lookup fTx = some ⟨ocTx, odTx, .func (PySem.W.fnOf "__str__" "Region.__str__" (defArgs cStr) (defBody cStr) (defScope cStr) .none kVTx dcTx pmTx anTx cdTx ctTx), slTx⟩)
    (cTx : PySem.W.codeIn K cdTx "Region.__str__" = true)
    (kTx : PySem.W.keepIn K (.ref fTx) = true)
    (aG : PySem.W.nsIn K mainGlobals "_GROUP" = some (some (.int 1000000000000000000 tk)))
    (aDec : PySem.W.nsIn K mainGlobals "decimal" = some (some (.ref fDec)))
    (lDec : K.lookup fDec = some ⟨ocDec, odDec, .func (PySem.W.fnOf "decimal" "decimal" (defArgs gDec) (defBody gDec) (defScope gDec) .none kVDec dcDec pmDec anDec cdDec ctDec), slDec⟩)
    (cDec : PySem.W.codeIn K cdDec "decimal" = true)
    (kDec : PySem.W.keepIn K (.ref fDec) = true)
    (aBag : PySem.W.nsIn K mainGlobals "_law_bag" = some (some (.ref fBag)))
    (lBag : K.lookup fBag = some ⟨ocBag, odBag, .func (PySem.W.fnOf "_law_bag" "_law_bag" (defArgs lBag) (defBody lBag) (defScope lBag) .none kVBag dcBag pmBag anBag cdBag ctBag), slBag⟩)
    (cBag : PySem.W.codeIn K cdBag "_law_bag" = true)
    (kBag : PySem.W.keepIn K (.ref fBag) = true)
    (aTake : PySem.W.nsIn K mainGlobals "_law_take" = some (some (.ref fTake)))
    (lTake : K.lookup fTake = some ⟨ocTake, odTake, .func (PySem.W.fnOf "_law_take" "_law_take" (defArgs lTake) (defBody lTake) (defScope lTake) .none kVTake dcTake pmTake anTake cdTake ctTake), slTake⟩)
    (cTake : PySem.W.codeIn K cdTake "_law_take" = true)
    (kTake : PySem.W.keepIn K (.ref fTake) = true)
    (aInt : PySem.W.nsIn K mainGlobals "_law_is_int" = some (some (.ref fInt)))
    (lInt : K.lookup fInt = some ⟨ocInt, odInt, .func (PySem.W.fnOf "_law_is_int" "_law_is_int" (defArgs lInt) (defBody lInt) (defScope lInt) .none kVInt dcInt pmInt anInt cdInt ctInt), slInt⟩)
    (cInt : PySem.W.codeIn K cdInt "_law_is_int" = true)
    (kInt : PySem.W.keepIn K (.ref fInt) = true)
    (aCell : PySem.W.nsIn K mainGlobals "_law_is_cell" = some (some (.ref fCell)))
    (lCell : K.lookup fCell = some ⟨ocCell, odCell, .func (PySem.W.fnOf "_law_is_cell" "_law_is_cell" (defArgs lCell) (defBody lCell) (defScope lCell) .none kVCell dcCell pmCell anCell cdCell ctCell), slCell⟩)
    (cCell : PySem.W.codeIn K cdCell "_law_is_cell" = true)
    (kCell : PySem.W.keepIn K (.ref fCell) = true)
    (aCells : PySem.W.nsIn K mainGlobals "_law_is_cells" = some (some (.ref fCells)))
    (lCells : K.lookup fCells = some ⟨ocCells, odCells, .func (PySem.W.fnOf "_law_is_cells" "_law_is_cells" (defArgs lCells) (defBody lCells) (defScope lCells) .none kVCells dcCells pmCells anCells cdCells ctCells), slCells⟩)
    (cCells : PySem.W.codeIn K cdCells "_law_is_cells" = true)
    (kCells : PySem.W.keepIn K (.ref fCells) = true)
    (aRead : PySem.W.nsIn K mainGlobals "_law_reading" = some (some (.ref fRead)))
    (lRead : K.lookup fRead = some ⟨ocRead, odRead, .func (PySem.W.fnOf "_law_reading" "_law_reading" (defArgs lRead) (defBody lRead) (defScope lRead) .none kVRead dcRead pmRead anRead cdRead ctRead), slRead⟩)
    (cRead : PySem.W.codeIn K cdRead "_law_reading" = true)
    (kRead : PySem.W.keepIn K (.ref fRead) = true)
    (aOnce : PySem.W.nsIn K mainGlobals "_law_once" = some (some (.ref fOnce)))
    (lOnce : K.lookup fOnce = some ⟨ocOnce, odOnce, .func (PySem.W.fnOf "_law_once" "_law_once" (defArgs lOnce) (defBody lOnce) (defScope lOnce) .none kVOnce dcOnce pmOnce anOnce cdOnce ctOnce), slOnce⟩)
    (cOnce : PySem.W.codeIn K cdOnce "_law_once" = true)
    (kOnce : PySem.W.keepIn K (.ref fOnce) = true)
    (aSubset : PySem.W.nsIn K mainGlobals "_law_subset" = some (some (.ref fSubset)))
    (lSubset : K.lookup fSubset = some ⟨ocSubset, odSubset, .func (PySem.W.fnOf "_law_subset" "_law_subset" (defArgs lSubset) (defBody lSubset) (defScope lSubset) .none kVSubset dcSubset pmSubset anSubset cdSubset ctSubset), slSubset⟩)
    (cSubset : PySem.W.codeIn K cdSubset "_law_subset" = true)
    (kSubset : PySem.W.keepIn K (.ref fSubset) = true)
    (aAgree : PySem.W.nsIn K mainGlobals "_law_agree" = some (some (.ref fAgree)))
    (lAgree : K.lookup fAgree = some ⟨ocAgree, odAgree, .func (PySem.W.fnOf "_law_agree" "_law_agree" (defArgs lAgree) (defBody lAgree) (defScope lAgree) .none kVAgree dcAgree pmAgree anAgree cdAgree ctAgree), slAgree⟩)
    (cAgree : PySem.W.codeIn K cdAgree "_law_agree" = true)
    (kAgree : PySem.W.keepIn K (.ref fAgree) = true)
    (aGrown : PySem.W.nsIn K mainGlobals "_law_grown" = some (some (.ref fGrown)))
    (lGrown : K.lookup fGrown = some ⟨ocGrown, odGrown, .func (PySem.W.fnOf "_law_grown" "_law_grown" (defArgs lGrown) (defBody lGrown) (defScope lGrown) .none kVGrown dcGrown pmGrown anGrown cdGrown ctGrown), slGrown⟩)
    (cGrown : PySem.W.codeIn K cdGrown "_law_grown" = true)
    (kGrown : PySem.W.keepIn K (.ref fGrown) = true)
    (aSpot : PySem.W.nsIn K mainGlobals "_law_spot" = some (some (.ref fSpot)))
    (lSpot : K.lookup fSpot = some ⟨ocSpot, odSpot, .func (PySem.W.fnOf "_law_spot" "_law_spot" (defArgs lSpot) (defBody lSpot) (defScope lSpot) .none kVSpot dcSpot pmSpot anSpot cdSpot ctSpot), slSpot⟩)
    (cSpot : PySem.W.codeIn K cdSpot "_law_spot" = true)
    (kSpot : PySem.W.keepIn K (.ref fSpot) = true)
    (aSpots : PySem.W.nsIn K mainGlobals "_law_spots" = some (some (.ref fSpots)))
    (lSpots : K.lookup fSpots = some ⟨ocSpots, odSpots, .func (PySem.W.fnOf "_law_spots" "_law_spots" (defArgs lSpots) (defBody lSpots) (defScope lSpots) .none kVSpots dcSpots pmSpots anSpots cdSpots ctSpots), slSpots⟩)
    (cSpots : PySem.W.codeIn K cdSpots "_law_spots" = true)
    (kSpots : PySem.W.keepIn K (.ref fSpots) = true)
    (aIs : PySem.W.nsIn K mainGlobals "_law_region_is" = some (some (.ref fIs)))
    (lIs : K.lookup fIs = some ⟨ocIs, odIs, .func (PySem.W.fnOf "_law_region_is" "_law_region_is" (defArgs lIs) (defBody lIs) (defScope lIs) .none kVIs dcIs pmIs anIs cdIs ctIs), slIs⟩)
    (cIs : PySem.W.codeIn K cdIs "_law_region_is" = true)
    (kIs : PySem.W.keepIn K (.ref fIs) = true)
    (aLaw : PySem.W.nsIn K mainGlobals "law" = some (some (.ref fLaw)))
    (lLaw : K.lookup fLaw = some ⟨ocLaw, odLaw, .func (PySem.W.fnOf "law" "law" (defArgs lLaw) (defBody lLaw) (defScope lLaw) .none kVLaw dcLaw pmLaw anLaw cdLaw ctLaw), slLaw⟩)
    (cLaw : PySem.W.codeIn K cdLaw "law" = true)
    (kLaw : PySem.W.keepIn K (.ref fLaw) = true)
    (pg : PySem.W.plainGet K C Str.empty = true)
    (hd : PySem.W.hasDictIn K C = true)
    (po : PySem.W.plainOver K C = true)
    (sa : PySem.W.findIn K (.ref C) "__setattr__" = some (some (.builtin "object.__setattr__")))
    (mk : PySem.W.makesIn K C = true)
    (kc : PySem.W.keepIn K (.ref C) = true)
    (nM : PySem.W.findIn K (.ref C) "_members" = some none)
    (icl : PySem.W.isClsIn K C = true)
    (tyc : PySem.W.typeIn K (.ref C) = some (.type "type"))
    (sst : PySem.W.subIn K (.type "str") (.ref C) = some false)
    (sf : PySem.W.selfFirst K C = true)
    (kcd : PySem.W.clsIn K C = some cdC)
    (mro : cdC.mro = [.ref C, .type "object"])
    (ioor : PySem.W.findIn K (.ref C) "__ior__" = some none)
    (joor : PySem.W.findIn K (.type "object") "__ior__" = some none)
    (ioand : PySem.W.findIn K (.ref C) "__iand__" = some none)
    (joand : PySem.W.findIn K (.type "object") "__iand__" = some none)
    (iosub : PySem.W.findIn K (.ref C) "__isub__" = some none)
    (josub : PySem.W.findIn K (.type "object") "__isub__" = some none)
    (ioxor : PySem.W.findIn K (.ref C) "__ixor__" = some none)
    (joxor : PySem.W.findIn K (.type "object") "__ixor__" = some none)
    (sli : PySem.W.subIn K (.type "list") (.ref C) = some false)
    (ca : PySem.W.findIn K (.ref C) "__class__" = some (some (.builtin "object.__class__")))
    (cn : PySem.W.specialIn K (.builtin "object.__class__") "__get__" = some (some (.builtin "getset_descriptor.__get__")))
    (ct : PySem.W.takesIn K (.builtin "object.__class__") = some true)
    (cm : PySem.W.mroIn K C (.type "object") = some true)
    (sub : PySem.W.subIn K (.ref C) (.type "object") = some true)
    (ne : PySem.W.findIn K (.ref C) "__ne__" = some (some (.builtin "object.__ne__")))
    (zisinstance : PySem.W.nsIn K mainGlobals "isinstance" = some none)
    (zint : PySem.W.nsIn K mainGlobals "int" = some none)
    (zbool : PySem.W.nsIn K mainGlobals "bool" = some none)
    (ztuple : PySem.W.nsIn K mainGlobals "tuple" = some none)
    (zlist : PySem.W.nsIn K mainGlobals "list" = some none)
    (zlen : PySem.W.nsIn K mainGlobals "len" = some none)
    (zsorted : PySem.W.nsIn K mainGlobals "sorted" = some none)
    (zrange : PySem.W.nsIn K mainGlobals "range" = some none)
    (zabs : PySem.W.nsIn K mainGlobals "abs" = some none)
    (zstr : PySem.W.nsIn K mainGlobals "str" = some none)
    (zall : PySem.W.nsIn K mainGlobals "all" = some none) :
    ∃ fd : FuncData, (∀ (s : Shared) (v : Value), BindsTo s fd ⟨[v], []⟩ [("_law_script", v)]) ∧ ∀ base : Heap, K.In base → base.Ns mainGlobals mg → FnOk l.prog w K mg base CX0 6 fa fd ["_law_script"] (spLaw K) := by
  have e := hfa.symm.trans (PySem.W.mg_of X G aLaw)
  cases e
  have g : ∀ {x : Str} {u : Value}, PySem.W.nsIn K mainGlobals x = some (some u) → mg x = some u := fun z => PySem.W.mg_of X G z
  have n : ∀ {x : Str}, PySem.W.nsIn K mainGlobals x = some none → mg x = none := fun z => PySem.W.mg_none_of X G z
  have T : CTxt K mg C := ⟨⟨⟨pg, hd, po, sa⟩, nM, g aC, n zsorted, n zlist⟩, n zisinstance, ca, cn, ct, cm, kit_self⟩
  have L : LTxt K mg := ⟨n zisinstance, n zint, n zbool, n ztuple, n zlist, n zlen, n zsorted⟩
  have FI := fun_mk (st := SmL.cInit) lI cI kI
  have FCs := fun_mk (st := SmL.cCells) lCs cCs kCs
  have FE := fun_mk (st := SmL.cEq) lE cE kE
  have FWi := fun_mk (st := SmL.cWithin) lWi cWi kWi
  have FRo := fun_mk (st := SmL.cOr) lRo cRo kRo
  have FNd := fun_mk (st := SmL.cAnd) lNd cNd kNd
  have FMi := fun_mk (st := SmL.cSub) lMi cMi kMi
  have FXo := fun_mk (st := SmL.cXor) lXo cXo kXo
  have FHs := fun_mk (st := SmL.cIn) lHs cHs kHs
  have FTx := fun_mk (st := SmL.cStr) lTx cTx kTx
  have FDec := fun_mk (st := SmL.gDec) lDec cDec kDec
  have FBag := fun_mk (st := SmL.lBag) lBag cBag kBag
  have FTake := fun_mk (st := SmL.lTake) lTake cTake kTake
  have FInt := fun_mk (st := SmL.lInt) lInt cInt kInt
  have FCell := fun_mk (st := SmL.lCell) lCell cCell kCell
  have FCells := fun_mk (st := SmL.lCells) lCells cCells kCells
  have FRead := fun_mk (st := SmL.lRead) lRead cRead kRead
  have FOnce := fun_mk (st := SmL.lOnce) lOnce cOnce kOnce
  have FSubset := fun_mk (st := SmL.lSubset) lSubset cSubset kSubset
  have FAgree := fun_mk (st := SmL.lAgree) lAgree cAgree kAgree
  have FGrown := fun_mk (st := SmL.lGrown) lGrown cGrown kGrown
  have FSpot := fun_mk (st := SmL.lSpot) lSpot cSpot kSpot
  have FSpots := fun_mk (st := SmL.lSpots) lSpots cSpots kSpots
  have FIs := fun_mk (st := SmL.lIs) lIs cIs kIs
  have FLaw := fun_mk (st := SmL.lLaw) lLaw cLaw kLaw
  have bI := FI.binds (ps := ["self", "cells"]) fun _ _ _ _ _ _ us hl => match us, hl with | [_, _], _ => rfl
  have bCs := FCs.binds (ps := ["self"]) fun _ _ _ _ _ _ us hl => match us, hl with | [_], _ => rfl
  have bE := FE.binds (ps := ["self", "other"]) fun _ _ _ _ _ _ us hl => match us, hl with | [_, _], _ => rfl
  have bWi := FWi.binds (ps := ["self", "other"]) fun _ _ _ _ _ _ us hl => match us, hl with | [_, _], _ => rfl
  have bRo := FRo.binds (ps := ["self", "other"]) fun _ _ _ _ _ _ us hl => match us, hl with | [_, _], _ => rfl
  have bNd := FNd.binds (ps := ["self", "other"]) fun _ _ _ _ _ _ us hl => match us, hl with | [_, _], _ => rfl
  have bMi := FMi.binds (ps := ["self", "other"]) fun _ _ _ _ _ _ us hl => match us, hl with | [_, _], _ => rfl
  have bXo := FXo.binds (ps := ["self", "other"]) fun _ _ _ _ _ _ us hl => match us, hl with | [_, _], _ => rfl
  have bHs := FHs.binds (ps := ["self", "cell"]) fun _ _ _ _ _ _ us hl => match us, hl with | [_, _], _ => rfl
  have bTx := FTx.binds (ps := ["self"]) fun _ _ _ _ _ _ us hl => match us, hl with | [_], _ => rfl
  have bDec := FDec.binds (ps := ["number"]) fun _ _ _ _ _ _ us hl => match us, hl with | [_], _ => rfl
  have bBag := FBag.binds (ps := ["_law_script"]) fun _ _ _ _ _ _ us hl => match us, hl with | [_], _ => rfl
  have bTake := FTake.binds (ps := ["_law_bag_here", "_law_size"]) fun _ _ _ _ _ _ us hl => match us, hl with | [_, _], _ => rfl
  have bInt := FInt.binds (ps := ["_law_value"]) fun _ _ _ _ _ _ us hl => match us, hl with | [_], _ => rfl
  have bCell := FCell.binds (ps := ["_law_value"]) fun _ _ _ _ _ _ us hl => match us, hl with | [_], _ => rfl
  have bCells := FCells.binds (ps := ["_law_value"]) fun _ _ _ _ _ _ us hl => match us, hl with | [_], _ => rfl
  have bRead := FRead.binds (ps := ["_law_cells"]) fun _ _ _ _ _ _ us hl => match us, hl with | [_], _ => rfl
  have bOnce := FOnce.binds (ps := ["_law_cells"]) fun _ _ _ _ _ _ us hl => match us, hl with | [_], _ => rfl
  have bSpot := FSpot.binds (ps := ["_law_bag_here"]) fun _ _ _ _ _ _ us hl => match us, hl with | [_], _ => rfl
  have bSubset := FSubset.binds (ps := ["_law_bag_here", "_law_cells", "_law_share"]) fun _ _ _ _ _ _ us hl => match us, hl with | [_, _, _], _ => rfl
  have bAgree := FAgree.binds (ps := ["_law_first", "_law_second", "_law_ones", "_law_twos"]) fun _ _ _ _ _ _ us hl => match us, hl with | [_, _, _, _], _ => rfl
  have bGrown := FGrown.binds (ps := ["_law_first", "_law_second", "_law_ones", "_law_twos"]) fun _ _ _ _ _ _ us hl => match us, hl with | [_, _, _, _], _ => rfl
  have bSpots := FSpots.binds (ps := ["_law_bag_here", "_law_most"]) fun _ _ _ _ _ _ us hl => match us, hl with | [_, _], _ => rfl
  have bIs := FIs.binds (ps := ["_law_region", "_law_due"]) fun _ _ _ _ _ _ us hl => match us, hl with | [_, _], _ => rfl
  refine ⟨PySem.W.fnOf "law" "law" (defArgs SmL.lLaw) (defBody SmL.lLaw) (defScope SmL.lLaw) .none kVLaw dcLaw pmLaw anLaw cdLaw ctLaw, fun s v => .of_eq rfl, fun base _ _ => ?_⟩
  have OI := ok_init (P := l.prog) (w := w) (base := base) FI T.t
  have OT := Sm.ok_take (P := l.prog) (w := w) (base := base) FTake L.len L.int
  have OC := ok_cell (P := l.prog) (w := w) (base := base) FCell FInt bInt (g aInt) L
  have OCs := ok_cells FCells FCell OC bCell (g aCell) L
  have M : Mk K C fI := ⟨mk, aI, iI, kc⟩
  have nt : NotT K C "list" := ⟨icl, tyc, sli⟩
  have OSp := ok_spot (P := l.prog) (w := w) (base := base) FSpot OT kTake bTake (g aTake)
  have OD := ok_dec (P := l.prog) (w := w) (base := base) FDec (n zabs) (n zstr) (PySem.W.mg_of X G aG)
  have nst : NotT K C "str" := ⟨icl, tyc, sst⟩
  have OIn := ok_in (P := l.prog) (w := w) (base := base) FHs T
  have mIn : OwnM K C "__contains__" fHs := ⟨aHs, iHs⟩
  have OCc := ok_cs (P := l.prog) (w := w) (base := base) FCs T
  have OOr := ok_or FRo T OI M bI OCc ⟨aCs, iCs, kCs⟩ bCs
  have OSub := ok_sub FMi T OI M bI OIn bHs mIn
  have mOr : OwnM K C "__or__" fRo := ⟨aRo, iRo⟩
  have mSub : OwnM K C "__sub__" fMi := ⟨aMi, iMi⟩
  let R : RegX l.prog w K mg base C := {
    T := T, L := L, fOr := _, fAnd := _, fSub := _, fXor := _, fW := _, fE := _, fS := _, fI := _, dOr := _, dAnd := _, dSub := _, dXor := _, dW := _, dE := _, dS := _, dI := _
    oOr := OOr, bOr := bRo, mOr := mOr
    oAnd := ok_and FNd T OI M bI OIn bHs mIn, bAnd := bNd, mAnd := ⟨aNd, iNd⟩
    oSub := OSub, bSub := bMi, mSub := mSub
    oXor := ok_xor FXo OSub bMi mSub OOr bRo mOr sf, bXor := bXo, mXor := ⟨aXo, iXo⟩
    oW := ok_within FWi T (n zall) OIn bHs mIn, bW := bWi, mW := ⟨aWi, iWi, kWi⟩
    oE := ok_eq FE T, oEL := ok_eqL FE T nt, oES := ok_eqS FE T nst, bE := bE, mE := ⟨aE, iE⟩, N := ⟨sub, ne⟩, nl := nt, ns := nst, sf := sf, two := ⟨⟨_, kcd, mro⟩⟩
    iOr := ⟨ioor, joor⟩, iAnd := ⟨ioand, joand⟩, iSub := ⟨iosub, josub⟩, iXor := ⟨ioxor, joxor⟩
    oS := ok_str FTx OD kDec bDec (g aDec) T, bS := bTx, mS := ⟨aTx, iTx⟩, oI := OI, mkI := M, bI := bI }
  let Y : LawX l.prog w K mg base C := {
    fOnce := _, fRead := _, fIs := _, dOnce := _, dRead := _, dIs := _
    once := ⟨ok_once FOnce, kOnce, bOnce, g aOnce⟩, read := ⟨ok_read FRead L, kRead, bRead, g aRead⟩
    is := ⟨ok_is FIs OCs kCells bCells (g aCells) OCc ⟨aCs, iCs, kCs⟩ bCs T, kIs, bIs, g aIs⟩ }
  exact ok_law FLaw R Y ⟨ok_bag FBag L, kBag, bBag, g aBag⟩ ⟨OT, kTake, bTake, g aTake⟩ ⟨ok_spots FSpots OSp kSpot bSpot (g aSpot) OT kTake bTake (g aTake) L.len (n zrange), kSpots, bSpots, g aSpots⟩
    ⟨ok_subset FSubset OT kTake bTake (g aTake), kSubset, bSubset, g aSubset⟩ ⟨ok_agree FAgree R Y, kAgree, bAgree, g aAgree⟩ ⟨ok_grown FGrown R Y, kGrown, bGrown, g aGrown⟩ (n zstr)
theorem walk {l : PySem.W.OpenLaw} {q : Program} {loose : List Str} {XP : (Str → Option Value) → Heap → Prop} {YP : World → Heap → Prop} {d : DefRec} {K : Params → PySem.W.Frag} (hn : l.most = some 63) (hdf : d.params.defaults = [])
    (hY : ∀ (w : World) (h : Heap), YP w h → (K w.params).In h)
    (F : ∀ (w : World) (mg : Str → Option Value) (fa : Addr) (h : Heap), (K w.params).In h → h.Ns mainGlobals mg → mg d.name = some (.ref fa) →
      ∃ fd : FuncData, (∀ (s : Shared) (u : Value), BindsTo s fd ⟨[u], []⟩ [("_law_script", u)]) ∧ ∀ base : Heap, (K w.params).In base → base.Ns mainGlobals mg → FnOk l.prog w (K w.params) mg base CX0 6 fa fd ["_law_script"] (spLaw (K w.params))) :
    PySem.W.WalkO q loose XP YP l.row.toRowW d [] (fun f vs => PySem.call f vs) :=
  L2.walk_of (n := 63) (k := 6) (x := "_law_script") (CX := fun _ => CX0) (sp := fun w => spLaw (K w.params)) hn (by decide) hdf ⟨rfl, by decide, by decide⟩ hY F (fun _ _ a ns hl _ hS => ⟨a, ns, rfl, hS, hl, fun _ => rfl⟩) fun _ _ _ _ _ z => z
end SmL

open PySem PySem.W PyProof.Rows in
set_option maxRecDepth 100000 in
set_option maxHeartbeats 0 in
theorem PySem.Challenge.cw_smalti_k02_region_operators_holds : PySem.Challenge.rw_smalti_k02_region_operators.Holds := by
  w_on; o_law; k_head; (case hw => w_witness2)
  k_fill
  refine SmL.walk (l := PySem.Challenge.rw_smalti_k02_region_operators) rfl rfl (fun w h Y => PySem.W.kIn_of Y) ?F
  case F =>
    intro w mg fa h KX G hmg
    refine' SmL.all_mk KX G hmg ?aC ?aI ?iI ?lI ?cI ?kI ?aCs ?iCs ?lCs ?cCs ?kCs ?aE ?iE ?lE ?cE ?kE ?aWi ?iWi ?lWi ?cWi ?kWi ?aRo ?iRo ?lRo ?cRo ?kRo ?aNd ?iNd ?lNd ?cNd ?kNd ?aMi ?iMi ?lMi ?cMi ?kMi ?aXo ?iXo ?lXo ?cXo ?kXo ?aHs ?iHs ?lHs ?cHs ?kHs ?aTx ?iTx ?lTx ?cTx ?kTx ?aG ?aDec ?lDec ?cDec ?kDec ?aBag ?lBag ?cBag ?kBag ?aTake ?lTake ?cTake ?kTake ?aInt ?lInt ?cInt ?kInt ?aCell ?lCell ?cCell ?kCell ?aCells ?lCells ?cCells ?kCells ?aRead ?lRead ?cRead ?kRead ?aOnce ?lOnce ?cOnce ?kOnce ?aSubset ?lSubset ?cSubset ?kSubset ?aAgree ?lAgree ?cAgree ?kAgree ?aGrown ?lGrown ?cGrown ?kGrown ?aSpot ?lSpot ?cSpot ?kSpot ?aSpots ?lSpots ?cSpots ?kSpots ?aIs ?lIs ?cIs ?kIs ?aLaw ?lLaw ?cLaw ?kLaw ?pg ?hd ?po ?sa ?mk ?kc ?nM ?icl ?tyc ?sst ?sf ?kcd ?mro ?ioor ?joor ?ioand ?joand ?iosub ?josub ?ioxor ?joxor ?sli ?ca ?cn ?ct ?cm ?sub ?ne ?zisinstance ?zint ?zbool ?ztuple ?zlist ?zlen ?zsorted ?zrange ?zabs ?zstr ?zall
    (case aC => k_is)
    (case aI => k_is)
    (case iI => k_is)
    (case lI => k_is)
    (case cI => k_is)
    (case kI => k_is)
    (case aCs => k_is)
    (case iCs => k_is)
    (case lCs => k_is)
    (case cCs => k_is)
    (case kCs => k_is)
    (case aE => k_is)
    (case iE => k_is)
    (case lE => k_is)
    (case cE => k_is)
    (case kE => k_is)
    (case aWi => k_is)
    (case iWi => k_is)
    (case lWi => k_is)
    (case cWi => k_is)
    (case kWi => k_is)
    (case aRo => k_is)
    (case iRo => k_is)
    (case lRo => k_is)
    (case cRo => k_is)
    (case kRo => k_is)
    (case aNd => k_is)
    (case iNd => k_is)
    (case lNd => k_is)
    (case cNd => k_is)
    (case kNd => k_is)
    (case aMi => k_is)
    (case iMi => k_is)
    (case lMi => k_is)
    (case cMi => k_is)
    (case kMi => k_is)
    (case aXo => k_is)
    (case iXo => k_is)
    (case lXo => k_is)
    (case cXo => k_is)
    (case kXo => k_is)
    (case aHs => k_is)
    (case iHs => k_is)
    (case lHs => k_is)
    (case cHs => k_is)
    (case kHs => k_is)
    (case aTx => k_is)
    (case iTx => k_is)
    (case lTx => k_is)
    (case cTx => k_is)
    (case kTx => k_is)
    (case aG => k_is)
    (case aDec => k_is)
    (case lDec => k_is)
    (case cDec => k_is)
    (case kDec => k_is)
    (case aBag => k_is)
    (case lBag => k_is)
    (case cBag => k_is)
    (case kBag => k_is)
    (case aTake => k_is)
    (case lTake => k_is)
    (case cTake => k_is)
    (case kTake => k_is)
    (case aInt => k_is)
    (case lInt => k_is)
    (case cInt => k_is)
    (case kInt => k_is)
    (case aCell => k_is)
    (case lCell => k_is)
    (case cCell => k_is)
    (case kCell => k_is)
    (case aCells => k_is)
    (case lCells => k_is)
    (case cCells => k_is)
    (case kCells => k_is)
    (case aRead => k_is)
    (case lRead => k_is)
    (case cRead => k_is)
    (case kRead => k_is)
    (case aOnce => k_is)
    (case lOnce => k_is)
    (case cOnce => k_is)
    (case kOnce => k_is)
    (case aSubset => k_is)
    (case lSubset => k_is)
    (case cSubset => k_is)
    (case kSubset => k_is)
    (case aAgree => k_is)
    (case lAgree => k_is)
    (case cAgree => k_is)
    (case kAgree => k_is)
    (case aGrown => k_is)
    (case lGrown => k_is)
    (case cGrown => k_is)
    (case kGrown => k_is)
    (case aSpot => k_is)
    (case lSpot => k_is)
    (case cSpot => k_is)
    (case kSpot => k_is)
    (case aSpots => k_is)
    (case lSpots => k_is)
    (case cSpots => k_is)
    (case kSpots => k_is)
    (case aIs => k_is)
    (case lIs => k_is)
    (case cIs => k_is)
    (case kIs => k_is)
    (case aLaw => k_is)
    (case lLaw => k_is)
    (case cLaw => k_is)
    (case kLaw => k_is)
    (case pg => k_is)
    (case hd => k_is)
    (case po => k_is)
    (case sa => k_is)
    (case mk => k_is)
    (case kc => k_is)
    (case nM => k_is)
    (case icl => k_is)
    (case tyc => k_is)
    (case sst => k_is)
    (case sf => k_is)
    (case kcd => k_is)
    (case mro => rfl)
    (case ioor => k_is)
    (case joor => k_is)
    (case ioand => k_is)
    (case joand => k_is)
    (case iosub => k_is)
    (case josub => k_is)
    (case ioxor => k_is)
    (case joxor => k_is)
    (case sli => k_is)
    (case ca => k_is)
    (case cn => k_is)
    (case ct => k_is)
    (case cm => k_is)
    (case sub => k_is)
    (case ne => k_is)
    (case zisinstance => k_is)
    (case zint => k_is)
    (case zbool => k_is)
    (case ztuple => k_is)
    (case zlist => k_is)
    (case zlen => k_is)
    (case zsorted => k_is)
    (case zrange => k_is)
    (case zabs => k_is)
    (case zstr => k_is)
    (case zall => k_is)
