import PyProof.Rows.All
import Wide.All
import OpenK.AllK
import Wide.FinOn
import HandS.ForMost
import HandS.Codes
import HandS.Deep
import HandS.ClsMeth
import HandS.Conv
import HandS.Small
import HandS.IsInst
import HandS.ExcInit
import HandS.ExcValue
import HandS.ExcIs
import HandS.ExcField
import KE.KExcIs
import PySem.Challenge.RW_smalti_k24_error_classes
set_option Elab.async false
set_option linter.all false
set_option maxRecDepth 100000
set_option maxHeartbeats 8000000
namespace Sm
open PySem L2
/-! ### the text by places -/
def top (i : Nat) : Stmt := PySem.Challenge.pw_smalti_k24_error_classes.main.body.getD i (.Pass ⟨0, 0, 0, 0⟩)
abbrev sBag : Stmt := top 32
abbrev sTake : Stmt := top 33
/-! ### the bag of drawn numbers -/
/-- the bag at b: four places; the first a list of ints, the second a place in it or its end, the third at least 0 -/
abbrev BagL (H : Hp) (b l : Addr) : Prop := ∃ (ns : List Int) (i p q : Int),
  H b = some (.lst [.ref l, .int i, .int p, .int q]) ∧ H l = some (.lst (ns.map V.int)) ∧ 0 ≤ i ∧ 0 ≤ p ∧ l ≠ b ∧ ns.length ≤ 63
/-- all but b stands as it stood -/
def But (b : Addr) (H H' : Hp) : Prop := ∀ a, a ≠ b → H' a = H a
theorem But.refl (b : Addr) (H : Hp) : But b H H := fun _ _ => rfl
theorem But.trans {b : Addr} {H H1 H2 : Hp} (x : But b H H1) (y : But b H1 H2) : But b H H2 := fun a h => (y a h).trans (x a h)
theorem But.upd {b : Addr} {H : Hp} {o : HO} : But b H (upd H b o) := fun _ h => upd_ne h
def spTake : Sp := fun vs H Q _ => ∃ (b l : Addr) (size : Int), vs = [.ref b, .int size] ∧ BagL H b l ∧ 0 < size ∧ size < 1073741824 ∧
  ∀ (n : Int) (H' : Hp), 0 ≤ n → n < size → But b H H' → BagL H' b l → Q (.int n) H'
theorem scTake : FnScope ["_law_bag_here", "_law_size", "_law_cell", "_law_digit"] ["_law_bag_here", "_law_size"] (defScope sTake) := ⟨rfl, rfl, rfl, by decide +kernel, rfl, by decide +kernel, by decide +kernel⟩
theorem at4 {a b c d : V} : atI [a, b, c, d] 0 = some a ∧ atI [a, b, c, d] 1 = some b ∧ atI [a, b, c, d] 2 = some c ∧ atI [a, b, c, d] 3 = some d := ⟨rfl, rfl, rfl, rfl⟩
section
variable {P : Program} {w : World} {K : PySem.W.Frag} {mg : Str → Option Value} {base : Heap}
theorem ok_take {f : Addr} {fd : FuncData} (F : Fun K "_law_take" "_law_take" sTake f fd) (mlen : mg "len" = none) (mint : mg "int" = none) : FnOk P w K mg base CX0 1 f fd ["_law_bag_here", "_law_size"] spTake := by
  refine F.ok scTake (fun vs H Q E h => ?_) (fun cdv A outer s H vs Q E hr h => ?_)
  · obtain ⟨b, l, size, rfl, _⟩ := h
    rfl
  · obtain ⟨b, l, size, rfl, ⟨ns, i, p, q, hb, hl, i0, p0, nlb, n63⟩, s0, s1, k⟩ := h
    refine ⟨_, C8.pss_cut (ps_if (PW.pt (pw_and (pt_cmpR op_eq (pe_ix ix_list (pv 0) pe_int (fun _ _ => rfl)) pe_int (nomark _))
          (pw_and1 (pt_cmpR op_lt (pe_ix ix_list (pv 0) pe_int (fun _ _ => rfl)) (pe_callB call_len_seq (by rfl) mlen PySem.boot_len (pa_cons (pe_ix ix_list (pv 0) pe_int (fun _ _ => rfl)) pa_nil)) (nomark _)))))
        (pss_cons (ps_set (i := 2) scTake.nd rfl (.inl rfl) (pe_ix ix_list (pe_ix ix_list (pv 0) pe_int (fun _ _ => rfl)) (pe_ix ix_list (pv 0) pe_int (fun _ _ => rfl)) (fun _ _ => rfl)))
        (pss_cons (ps_asg (pe_op op_add (pe_ix ix_list (pv 0) pe_int (fun _ _ => rfl)) pe_int) (pg_sub (pv 0) pe_int set_list))
        (pss_one (ps_if (pt_cmpR op_ge (pv 2) (pe_op op_pow pe_int pe_int) (nomark _))
          (pss_one (ps_asg (pv 2) (pg_sub (pv 0) pe_int set_list)))
          (pss_one (ps_asg (pe_op op_mod (pe_callTy call_int1 (by rfl) mint (by decide +kernel) (pa_cons (pe_op op_add (pe_op op_add (pe_op op_mul (pe_ix ix_list (pv 0) pe_int (fun _ _ => rfl)) pe_int) (pe_op op_mul (pv 2) pe_int)) pe_int) pa_nil)) pe_int) (pg_sub (pv 0) pe_int set_list)))))))
        pss_nil)
      (pss_cons (ps_if (pt_cmpR op_gt (pe_ix ix_list (pv 0) pe_int (fun _ _ => rfl)) pe_int (nomark _))
        (pss_cons (ps_set (i := 3) scTake.nd rfl (.inl rfl) (pe_op op_mod (pe_callTy call_int1 (by rfl) mint (by decide +kernel) (pa_cons (pe_ix ix_list (pv 0) pe_int (fun _ _ => rfl)) pa_nil)) (pv 1)))
        (pss_cons (ps_asg (pe_op op_fdiv (pe_ix ix_list (pv 0) pe_int (fun _ _ => rfl)) (pv 1)) (pg_sub (pv 0) pe_int set_list))
        (pss_one (ps_ret (pv 3)))))
        pss_nil)
      (pss_cons (ps_asg (pe_op op_mod (pe_callTy call_int1 (by rfl) mint (by decide +kernel) (pa_cons (pe_op op_add (pe_op op_mul (pe_ix ix_list (pv 0) pe_int (fun _ _ => rfl)) pe_int) pe_int) pa_nil)) pe_int) (pg_sub (pv 0) pe_int set_list))
      (pss_one (ps_ret (pe_op op_mod (pe_callTy call_int1 (by rfl) mint (by decide +kernel) (pa_cons (pe_op op_fdiv (pe_ix ix_list (pv 0) pe_int (fun _ _ => rfl)) pe_int) pa_nil)) (pv 1)))))), ?_⟩
    have seven : ∀ q' : Int, (0 : Int) < 2147483647 := fun _ => by decide
    refine ⟨fun σ H1 => ∃ (c : Option V) (i' p' q' : Int), σ = [some (.ref b), some (.int size), c, Option.none] ∧ But b H H1 ∧ H1 b = some (.lst [.ref l, .int i', .int p', .int q']) ∧ 0 ≤ i' ∧ 0 ≤ p', ?_, ?_⟩
    · -- if bag[2] == 0 and bag[1] < len(bag[0])
      refine ⟨_, rfl, b, _, 2, _, rfl, rfl, SqL.of hb, rfl, rfl, _, rfl, ite2 (fun _ => ?_) (fun _ => ⟨_, i, p, q, rfl, But.refl b H, hb, i0, p0⟩)⟩
      refine ⟨_, rfl, b, _, 1, _, rfl, rfl, SqL.of hb, rfl, _, rfl, b, _, 0, _, rfl, rfl, SqL.of hb, rfl, l, _, rfl, .inl (SqL.of hl), _, _, rfl, rfl, _, rfl, ite2 (fun e => ?_) (fun _ => ⟨_, i, p, q, rfl, But.refl b H, hb, i0, p0⟩)⟩
      have elt : i < ((ns.map V.int).length : Int) := of_decide_eq_true e
      rw [List.length_map] at elt
      obtain ⟨j, rfl⟩ : ∃ j : Nat, i = (j : Int) := ⟨i.toNat, by omega⟩
      have hj : j < ns.length := by omega
      have gj : (ns.map V.int)[j]? = some (.int ns[j]) := by
        rw [List.getElem?_map, List.getElem?_eq_getElem hj]
        rfl
      -- cell = bag[0][bag[1]]
      refine ⟨_, rfl, b, _, 0, _, rfl, rfl, SqL.of hb, rfl, _, rfl, b, _, 1, _, rfl, rfl, SqL.of hb, rfl, l, _, (j : Int), _, rfl, rfl, SqL.of hl, atI_nat gj, ?_⟩
      -- bag[1] = bag[1] + 1
      refine ⟨_, rfl, b, _, 1, _, rfl, rfl, SqL.of hb, rfl, _, _, rfl, rfl, _, rfl, b, _, 1, 1, rfl, rfl, hb, rfl, ?_⟩
      have hb1 : (upd H b (.lst [.ref l, .int ((j : Int) + 1), .int p, .int q])) b = some (.lst [.ref l, .int ((j : Int) + 1), .int p, .int q]) := upd_same
      have bu : But b H (upd H b (.lst [.ref l, .int ((j : Int) + 1), .int p, .int q])) := But.upd
      refine ⟨_, rfl, _, _, rfl, rfl, ⟨by decide, by decide, by decide⟩, _, _, rfl, rfl, _, rfl, ite2 (fun e2 => ?_) (fun _ => ?_)⟩
      · have big : (10 : Int) ^ (18 : Int).toNat ≤ ns[j] := of_decide_eq_true e2
        have pos : (0 : Int) ≤ (10 : Int) ^ (18 : Int).toNat := by decide
        refine ⟨_, rfl, _, rfl, b, _, 2, 2, rfl, rfl, hb1, rfl, ?_⟩
        exact ⟨_, (j : Int) + 1, ns[j], q, rfl, bu.trans But.upd, upd_same, by omega, by omega⟩
      · refine ⟨_, rfl, b, _, 3, _, rfl, rfl, SqL.of hb1, rfl, _, _, rfl, rfl, .inr ⟨by decide, by decide⟩, _, rfl, _, _, rfl, rfl, .inr ⟨by decide, by decide⟩, _, _, rfl, rfl, _, _, rfl, rfl, .inl ⟨_, rfl, _, _, rfl, rfl, seven 0, _, rfl, b, _, 3, 3, rfl, rfl, hb1, rfl, ?_⟩⟩
        exact ⟨_, (j : Int) + 1, p, _, rfl, bu.trans But.upd, upd_same, by omega, p0⟩
    · rintro σ H1 ⟨c, i', p', q', rfl, bu, hb1, i1, p1⟩
      have hl1 : H1 l = some (.lst (ns.map V.int)) := (bu l nlb).trans hl
      refine ⟨_, rfl, b, _, 2, _, rfl, rfl, SqL.of hb1, rfl, _, _, rfl, rfl, _, rfl, ite2 (fun _ => ?_) (fun _ => ?_)⟩
      · -- digit = int(bag[2]) % size; bag[2] = bag[2] // size; return digit
        refine ⟨_, rfl, b, _, 2, _, rfl, rfl, SqL.of hb1, rfl, .inl ⟨_, rfl, _, rfl, _, _, rfl, rfl, s0, ?_⟩⟩
        refine ⟨_, rfl, b, _, 2, _, rfl, rfl, SqL.of hb1, rfl, _, rfl, _, _, rfl, rfl, ⟨s0, s1⟩, _, rfl, b, _, 2, 2, rfl, rfl, hb1, rfl, _, rfl, ?_⟩
        refine k _ _ (Int.emod_nonneg _ (by omega)) (Int.emod_lt_of_pos _ s0) (bu.trans But.upd) ⟨ns, i', p' / size, q', upd_same, ?_, i1, Int.ediv_nonneg p1 (by omega), nlb, n63⟩
        rw [upd_ne nlb]
        exact hl1
      · refine ⟨_, rfl, b, _, 3, _, rfl, rfl, SqL.of hb1, rfl, _, _, rfl, rfl, .inr ⟨by decide, by decide⟩, _, _, rfl, rfl, .inl ⟨_, rfl, _, _, rfl, rfl, seven 0, _, rfl, b, _, 3, 3, rfl, rfl, hb1, rfl, ?_⟩⟩
        have hb2 : (upd H1 b (.lst [.ref l, .int i', .int p', .int ((q' * 48271 + 11) % 2147483647)])) b = some (.lst [.ref l, .int i', .int p', .int ((q' * 48271 + 11) % 2147483647)]) := upd_same
        refine ⟨_, rfl, b, _, 3, _, rfl, rfl, SqL.of hb2, rfl, _, _, rfl, rfl, ⟨by decide, by decide⟩, .inl ⟨_, rfl, _, rfl, _, _, rfl, rfl, s0, ?_⟩⟩
        refine k _ _ (Int.emod_nonneg _ (by omega)) (Int.emod_lt_of_pos _ s0) (bu.trans But.upd) ⟨ns, i', p', _, upd_same, ?_, i1, p1, nlb, n63⟩
        rw [upd_ne nlb]
        exact hl1
end
end Sm
namespace SmL
open PySem PySem.Spec PyProof.Rows L2 Sm
abbrev Cell := Int × Int
abbrev lBag : Stmt := top 32
abbrev lTake : Stmt := top 33
abbrev lSpot : Stmt := top 34
abbrev lSpots : Stmt := top 35
/-- a list of cells at a: each with its address -/
abbrev CL := List (Addr × Cell)
def refs (ks : CL) : List V := ks.map fun p => V.ref p.1
def cellsOf (ks : CL) : List Cell := ks.map (·.2)
def CellO (c : Cell) : HO := .tup [.int c.1, .int c.2]
def Tups (H : Hp) (ks : CL) : Prop := ∀ p ∈ ks, H p.1 = some (CellO p.2)
theorem Tups.same {H H' : Hp} {ks : CL} (t : Tups H ks) (s : Same H H') : Tups H' ks := fun p hp => s _ _ (t p hp)
/-- all that stood stands, but r -/
def SameBut (r : Addr) (H H' : Hp) : Prop := ∀ b o, b ≠ r → H b = some o → H' b = some o
theorem tyes {σ : L2.St} {G : Hp} {R : Bool → Hp → Prop} (h : R true G) : tYes σ G R := h
theorem same_upd {H : Hp} {p : Addr} {o : HO} (h : H p = none) : Same H (upd H p o) := fun b x e => by
  rw [upd_ne (ne_of_none e h)]
  exact e
theorem refs_at {ks : CL} {i : Nat} {x : V} (h : (refs ks)[i]? = some x) : ∃ t c, ks[i]? = some (t, c) ∧ x = .ref t := by
  unfold refs at h
  rw [List.getElem?_map] at h
  cases e : ks[i]? with
  | none =>
    rw [e] at h
    cases h
  | some p =>
    rw [e] at h
    cases h
    exact ⟨p.1, p.2, rfl, rfl⟩
/-! ### cells as data -/
def dC (c : Cell) : PyData := .tuple [.int c.1, .int c.2]
theorem dC_eqv (c d : Cell) : PyData.eqv (dC c) (dC d) = decide (c = d) := by
  obtain ⟨x, y⟩ := c
  obtain ⟨u, v⟩ := d
  simp [dC, PyData.eqv, PyData.eqvAll]
  rfl
theorem dC_shaped (c : Cell) : SeqAt.shaped (dC c) = true := by
  simp [dC, SeqAt.shaped, PyData.canLay0, PyData.canLayAll0, PyData.depth, PyData.depthAll]
theorem dCs_lay : ∀ M : List Cell, PyData.canLayAll0 (M.map dC) = true
  | [] => rfl
  | c :: M => by simp [PyData.canLayAll0, dC, PyData.canLay0, dCs_lay M]
theorem dCs_depth : ∀ M : List Cell, PyData.depthAll (M.map dC) ≤ 1
  | [] => by simp [PyData.depthAll]
  | c :: M => by
    have := dCs_depth M
    simp [PyData.depthAll, dC, PyData.depth]
    omega
theorem dCs_shaped (M : List Cell) : SeqAt.shaped (.list (M.map dC)) = true := by
  have := dCs_depth M
  simp [SeqAt.shaped, PyData.canLay0, dCs_lay M, PyData.depth]
  omega
theorem dCs_eqv : ∀ M N : List Cell, PyData.eqv (.list (M.map dC)) (.list (N.map dC)) = decide (M = N) := by
  have all : ∀ M N : List Cell, PyData.eqvAll (M.map dC) (N.map dC) = decide (M = N) := by
    intro M
    induction M with
    | nil =>
      intro N
      cases N <;> simp [PyData.eqvAll]
    | cons c M ih =>
      intro N
      cases N with
      | nil => simp [PyData.eqvAll]
      | cons d N =>
        rw [List.map_cons, List.map_cons]
        show (PyData.eqv (dC c) (dC d) && PyData.eqvAll (M.map dC) (N.map dC)) = _
        rw [dC_eqv, ih]
        simp
  intro M N
  simp [PyData.eqv, all]
theorem dp_cell {K : PySem.W.Frag} {H : Hp} {t : Addr} {c : Cell} (h : H t = some (CellO c)) : Dp K H (.ref t) (dC c) := .tup (SqT.of h) (.cons (.int _) (.cons (.int _) .nil))
theorem dp_cells {K : PySem.W.Frag} {H : Hp} : ∀ {ks : CL}, Tups H ks → DpAll K H (refs ks) ((cellsOf ks).map dC)
  | [], _ => .nil
  | p :: ks, t => .cons (dp_cell (t p List.mem_cons_self)) (dp_cells fun q hq => t q (List.mem_cons_of_mem _ hq))
theorem dp_list {K : PySem.W.Frag} {H : Hp} {a : Addr} {ks : CL} (h : SqL K H a (refs ks)) (t : Tups H ks) : Dp K H (.ref a) (.list ((cellsOf ks).map dC)) := .lst h (dp_cells t)
theorem hu65 {A : Around} {k : Nat} (hr : Room k A) : A.units + 65 < cLine := by
  have := hr.un
  omega
structure LTxt (K : PySem.W.Frag) (mg : Str → Option Value) : Prop where
  isi : mg "isinstance" = none
  int : mg "int" = none
  lst : mg "list" = none
  len : mg "len" = none
theorem refs_len (ks : CL) : (refs ks).length = ks.length := List.length_map _
theorem cells_len (ks : CL) : (cellsOf ks).length = ks.length := List.length_map _
theorem cut_to (xs : List V) (n : Nat) : cutV xs none (some (n : Int)) = xs.take n := by
  unfold cutV
  rw [HT.sIx_none, HT.sIx_nat, List.drop_zero, Nat.sub_zero]
  rcases Nat.le_total n xs.length with h | h
  · rw [Nat.min_eq_left h]
  · rw [Nat.min_eq_right h, List.take_of_length_le (Nat.le_refl _), List.take_of_length_le h]
section
variable {P : Program} {w : World} {K : PySem.W.Frag} {mg : Str → Option Value} {base : Heap}
/-! ### drawn cells -/
/-- no coordinate is large -/
def Small (c : Cell) : Prop := -100000000000000 ≤ c.1 ∧ c.1 ≤ 100000000000000 ∧ -100000000000000 ≤ c.2 ∧ c.2 ≤ 100000000000000
def spSpot : Sp := fun vs H Q _ => ∃ b l, vs = [.ref b] ∧ BagL H b l ∧ ∀ t c H', Small c → SameBut b H H' → BagL H' b l → H t = none → H' t = some (CellO c) → Q (.ref t) H'
theorem scSpot : FnScope ["_law_bag_here", "_law_cx", "_law_cy"] ["_law_bag_here"] (defScope lSpot) := ⟨rfl, rfl, rfl, by decide +kernel, rfl, by decide +kernel, by decide +kernel⟩
theorem bag_upd {H : Hp} {b l t : Addr} {o : HO} (h : BagL H b l) (n : H t = none) : BagL (upd H t o) b l := by
  obtain ⟨ns, i, p, q, hb, hl, r⟩ := h
  exact ⟨ns, i, p, q, by rw [upd_ne (ne_of_none hb n)]; exact hb, by rw [upd_ne (ne_of_none hl n)]; exact hl, r⟩
theorem ok_spot {f g : Addr} {fd gd : FuncData} (F : Fun K "_law_spot" "_law_spot" lSpot f fd) (OT : FnOk P w K mg base CX0 1 g gd ["_law_bag_here", "_law_size"] spTake) (kT : PySem.W.keepIn K (.ref g) = true) (bT : Binds K gd ["_law_bag_here", "_law_size"] [])
    (gT : mg "_law_take" = some (.ref g)) : FnOk P w K mg base CX0 2 f fd ["_law_bag_here"] spSpot := by
  refine F.ok scSpot (fun vs H Q E h => ?_) (fun cdv A outer s H vs Q E hr h => ?_)
  · obtain ⟨b, l, rfl, _⟩ := h
    rfl
  · obtain ⟨b, l, rfl, hb, k⟩ := h
    refine ⟨_, pss_cons (ps_set (i := 1) scSpot.nd rfl (.inl rfl) (pe_op op_sub (pe_call OT hr (by rfl) gT kT bT .nil pass0 (pa_cons (pv 0) (pa_cons pe_int pa_nil))) pe_int))
      (pss_cons (ps_set (i := 2) scSpot.nd rfl (.inl rfl) (pe_op op_sub (pe_call OT hr (by rfl) gT kT bT .nil pass0 (pa_cons (pv 0) (pa_cons pe_int pa_nil))) pe_int))
      (pss_cons (ps_if (pt_cmpR op_eq (pe_call OT hr (by rfl) gT kT bT .nil pass0 (pa_cons (pv 0) (pa_cons pe_int pa_nil))) pe_int (nomark _))
        (pss_one (ps_set (i := 1) scSpot.nd rfl (.inl rfl) (pe_op op_mul (pv 1) (pe_op op_pow pe_int pe_int)))) pss_nil)
      (pss_one (ps_ret (pe_tup (pa_cons (pv 1) (pa_cons (pv 2) pa_nil))))))), ?_⟩
    refine ⟨_, rfl, b, l, 18, rfl, hb, by decide, by decide, fun n1 H1 p1 q1 s1 b1 => ⟨_, _, rfl, rfl, ?_⟩⟩
    refine ⟨_, rfl, b, l, 18, rfl, b1, by decide, by decide, fun n2 H2 p2 q2 s2 b2 => ⟨_, _, rfl, rfl, ?_⟩⟩
    refine ⟨_, rfl, b, l, 6, rfl, b2, by decide, by decide, fun n3 H3 p3 q3 s3 b3 => ⟨rfl, _, rfl, ?_⟩⟩
    have all : ∀ a o, a ≠ b → H a = some o → H3 a = some o := fun a o ha e => by
      rw [s3 a ha, s2 a ha, s1 a ha]
      exact e
    have back : ∀ t, H3 t = none → H t = none := fun t e => by
      by_cases et : t = b
      · rw [et] at e
        obtain ⟨_, _, _, _, hb3, _⟩ := b3
        rw [hb3] at e
        cases e
      · cases z : H t with
        | none => rfl
        | some o =>
          rw [all t o et z] at e
          cases e
    have fin : ∀ c : Cell, Small c → ∀ t, H3 t = none → Q (.ref t) (upd H3 t (.tup [.int c.1, .int c.2])) := fun c hc t nt =>
      k t c _ hc (fun a o ha e => by
        rw [upd_ne (ne_of_none (all a o ha e) nt)]
        exact all a o ha e) (bag_upd b3 nt) (back t nt) upd_same
    refine ite2 (fun _ => ?_) (fun _ => ?_)
    · refine ⟨_, rfl, _, _, rfl, rfl, ⟨by decide, by decide, by decide⟩, _, _, rfl, rfl, .inl ⟨by omega, by omega⟩, ?_⟩
      exact ⟨_, rfl, _, rfl, (by show 2 ≤ sizeLine; decide), fun t nt => fin ((n1 - 5) * 1000000000000, n2 - 5) ⟨by show -100000000000000 ≤ (n1 - 5) * 1000000000000; omega, by show (n1 - 5) * 1000000000000 ≤ 100000000000000; omega, by show -100000000000000 ≤ n2 - 5; omega, by show n2 - 5 ≤ 100000000000000; omega⟩ t nt⟩
    · exact ⟨_, rfl, _, rfl, (by show 2 ≤ sizeLine; decide), fun t nt => fin (n1 - 5, n2 - 5) ⟨by show -100000000000000 ≤ n1 - 5; omega, by show n1 - 5 ≤ 100000000000000; omega, by show -100000000000000 ≤ n2 - 5; omega, by show n2 - 5 ≤ 100000000000000; omega⟩ t nt⟩
/-! ### the bag -/
def spBag (K : PySem.W.Frag) : Sp := fun vs H Q _ => ∃ (a : Addr) (ns : List Int), vs = [.ref a] ∧ SqL K H a (ns.map V.int) ∧ ns.length ≤ 63 ∧ ∀ b l H', Same H H' → H b = none → BagL H' b l → Q (.ref b) H'
abbrev nBag : List Str := ["_law_script", "_law_cell"]
theorem scBag : FnScope nBag ["_law_script"] (defScope lBag) := ⟨rfl, rfl, rfl, by decide +kernel, rfl, by decide +kernel, by decide +kernel⟩
theorem ok_bag {f : Addr} {fd : FuncData} (F : Fun K "_law_bag" "_law_bag" lBag f fd) (T : LTxt K mg) : FnOk P w K mg base CX0 1 f fd ["_law_script"] (spBag K) := by
  refine F.ok scBag (fun vs H Q E h => ?_) (fun cdv A outer s H vs Q E hr h => ?_)
  · obtain ⟨a, ns, rfl, _⟩ := h
    rfl
  · obtain ⟨a, ns, rfl, ha, few, k⟩ := h
    refine ⟨_, pss_one (ps_ret (pe_lst (pa_cons (pe_lc (own := [("_law_cell", 1)]) (g := gName 1) (tt := tYes) rfl scBag.nd (pi_list (pe_slice sl_list (pv 0) po_none (po_some pe_int)))
      (blkOk_by (own := [("_law_cell", 1)]) (N := nBag) (sc := defScope lBag) (by decide +kernel)) (fun _ _ _ _ _ => pg_name (i := 1) scBag.nd rfl (Or.inl rfl)) (fun _ _ _ _ _ => pts_nil)
      (fun _ _ _ _ _ => pe_callTy call_int1 (by rfl) T.int (by decide +kernel) (pa_cons (pv 1) pa_nil))) (pa_cons pe_int (pa_cons pe_int (pa_cons pe_int pa_nil)))))), ?_⟩
    refine ⟨_, rfl, 63, rfl, a, _, rfl, ha, fun q nq => ?_⟩
    have ec : cutV (ns.map V.int) none (some 63) = ns.map V.int := by
      rw [show (some 63 : Option Int) = some ((63 : Nat) : Int) from rfl, cut_to, List.take_of_length_le (by rw [List.length_map]; exact few)]
    rw [ec]
    have s1 := same_upd (o := .lst (ns.map V.int)) nq
    refine ⟨q, rfl, ⟨_, SqL.of upd_same⟩, fun D nD => lc_list (K := K) (a := q) (xs := ns.map V.int) (fun i G => Same (upd H q (.lst (ns.map V.int))) G ∧ G D = some (.lst ((ns.take i).map V.int))) ⟨same_upd nD, upd_same⟩ (fun i G _ ⟨sm, _⟩ => SqL.of (sm _ _ upd_same)) ?_ ?_⟩
    · rintro i x G hx ⟨sm, hD⟩
      rw [List.getElem?_map] at hx
      cases e : ns[i]? with
      | none =>
        rw [e] at hx
        cases hx
      | some n =>
        rw [e] at hx
        cases hx
        refine ⟨rfl, tyes (iteT ⟨_, rfl, .inl ⟨n, rfl, _, hD, ?_, fun b o eb => ?_, ?_⟩⟩)⟩
        · rw [List.length_map, List.length_take]
          exact small1000 (by omega)
        · rw [upd_ne (ne_of_none eb nD)]
          exact sm _ _ eb
        · rw [upd_same, List.take_add_one, e, List.map_append]
          rfl
    · rintro G ⟨sm, hD⟩
      rw [List.length_map, List.take_of_length_le (Nat.le_refl _)] at hD
      refine ⟨(by show 4 ≤ sizeLine; decide), fun b nb => ?_⟩
      have nb0 : H b = none := by
        cases z : H b with
        | none => rfl
        | some o =>
          rw [sm _ _ (s1 _ _ z)] at nb
          cases nb
      have ndb : D ≠ b := ne_of_none hD nb
      exact k b D _ (fun x o e => by
        rw [upd_ne (ne_of_none (sm _ _ (s1 _ _ e)) nb)]
        exact sm _ _ (s1 _ _ e)) nb0 ⟨ns, 0, 0, 7, upd_same, by rw [upd_ne ndb]; exact hD, by decide, by decide, ndb, few⟩
def spSpots : Sp := fun vs H Q _ => ∃ b l most, vs = [.ref b, .int most] ∧ BagL H b l ∧ 0 ≤ most ∧ most ≤ 1000 ∧
  ∀ p ks H', SameBut b H H' → BagL H' b l → H p = none → H' p = some (.lst (refs ks)) → Tups H' ks → (ks.length : Int) ≤ most → (∀ c ∈ cellsOf ks, Small c) → Q (.ref p) H'
theorem scSpots : FnScope ["_law_bag_here", "_law_most", "_law_spots_here", "_law_k", "_law_spot_here"] ["_law_bag_here", "_law_most"] (defScope lSpots) := ⟨rfl, rfl, rfl, by decide +kernel, rfl, by decide +kernel, by decide +kernel⟩
theorem bag_b {H : Hp} {b l : Addr} (h : BagL H b l) : ∃ xs, H b = some (.lst xs) := by
  obtain ⟨_, _, _, _, hb, _⟩ := h
  exact ⟨_, hb⟩
theorem but_same {b : Addr} {H H' : Hp} (h : But b H H') : SameBut b H H' := fun a o ha e => (h a ha).trans e
theorem sb_trans {b : Addr} {H H1 H2 : Hp} (h : SameBut b H H1) (k : SameBut b H1 H2) : SameBut b H H2 := fun a o ha e => k a o ha (h a o ha e)
theorem ok_spots {f g t : Addr} {fd gd td : FuncData} (F : Fun K "_law_spots" "_law_spots" lSpots f fd) (OS : FnOk P w K mg base CX0 2 g gd ["_law_bag_here"] spSpot) (kS : PySem.W.keepIn K (.ref g) = true) (bS : Binds K gd ["_law_bag_here"] []) (gS : mg "_law_spot" = some (.ref g))
    (OT : FnOk P w K mg base CX0 1 t td ["_law_bag_here", "_law_size"] spTake) (kT : PySem.W.keepIn K (.ref t) = true) (bT : Binds K td ["_law_bag_here", "_law_size"] []) (gT : mg "_law_take" = some (.ref t)) (mlen : mg "len" = none) (mr : mg "range" = none) :
    FnOk P w K mg base CX0 3 f fd ["_law_bag_here", "_law_most"] spSpots := by
  refine F.ok scSpots (fun vs H Q E h => ?_) (fun cdv A outer s H vs Q E hr h => ?_)
  · obtain ⟨b, l, most, rfl, _⟩ := h
    rfl
  · obtain ⟨b, l, most, rfl, hb, m0, m1, k⟩ := h
    have hr1 : Room 1 _ := hr.mono (by decide)
    refine ⟨_, pss_cons (ps_set (i := 2) scSpots.nd rfl (.inl rfl) (pe_lst pa_nil))
      (pss_cons (ps_for PassesOwn.never rfl (pi_range1 (by rfl) mr (pa_cons (pe_call OT hr1 (by rfl) gT kT bT .nil pass0 (pa_cons (pv 0) (pa_cons (pe_op op_add (pv 1) pe_int) pa_nil))) pa_nil)) (pg_name (i := 3) scSpots.nd rfl (.inl rfl))
        (pss_cons (ps_set (i := 4) scSpots.nd rfl (.inl rfl) (pe_call OS hr (by rfl) gS kS bS .nil pass0 (pa_cons (pv 0) pa_nil)))
        (C8.pss_cut (ps_if (PW.pt (pw_and (pt_cmpR op_gt (pe_callB call_len_seq (by rfl) mlen PySem.boot_len (pa_cons (pv 2) pa_nil)) pe_int (nomark _)) (pw_and1 (pt_cmpR op_eq (pe_call OT hr1 (by rfl) gT kT bT .nil pass0 (pa_cons (pv 0) (pa_cons pe_int pa_nil))) pe_int (nomark _)))))
          (pss_one (ps_set (i := 4) scSpots.nd rfl (.inl rfl) (pe_ix ix_list (pv 2) (pe_call OT hr1 (by rfl) gT kT bT .nil pass0 (pa_cons (pv 0) (pa_cons (pe_callB call_len_seq (by rfl) mlen PySem.boot_len (pa_cons (pv 2) pa_nil)) pa_nil))) (fun _ _ => rfl)))) pss_nil)
        (pss_one (ps_expr (pe_bm PySem.F.plainAttrs_list PySem.F.slot_list_append PySem.F.type_list_append mt_append (pv 2) (pa_cons (pv 4) pa_nil)))))))
      (pss_one (ps_ret (pv 2)))), ?_⟩
    refine ⟨Nat.zero_le _, fun o no => ?_⟩
    have nol : o ≠ l := fun e => by
      obtain ⟨_, _, _, _, _, e2, _⟩ := hb
      rw [e, e2] at no
      cases no
    have nob : o ≠ b := fun e => by
      obtain ⟨xs, e2⟩ := bag_b hb
      rw [e, e2] at no
      cases no
    refine ⟨_, rfl, _, rfl, _, _, rfl, rfl, b, l, most + 1, rfl, bag_upd hb no, by omega, by omega, fun n H1 n0 n1 bu hb1 => ?_⟩
    have s1 : SameBut b H H1 := fun a u ha e => (bu a ha).trans ((same_upd no) _ _ e)
    have ho1 : H1 o = some (.lst (refs [])) := (bu o nob).trans upd_same
    refine ⟨n, rfl, by omega, by omega, for_range (lo := 0) (n := n.toNat) (fun i σ G => ∃ y z ks, σ = [some (.ref b), some (.int most), some (.ref o), y, z] ∧ SameBut b H G ∧ BagL G b l ∧ G o = some (.lst (refs ks)) ∧ Tups G ks ∧ ks.length ≤ i ∧ ks.length ≤ 1000 ∧ ∀ c ∈ cellsOf ks, Small c)
      ⟨_, _, [], rfl, s1, hb1, ho1, (fun p hp => nomatch hp), Nat.zero_le _, Nat.zero_le _, fun c hc => nomatch hc⟩ ?_ ?_⟩
    · rintro i σ G hi ⟨y, z, ks, rfl, sG, bG, hoG, hk, hl, hl2, sm⟩
      refine ⟨_, rfl, b, l, rfl, bG, fun t c G1 smc sb1 bG1 nt ht => ?_⟩
      have ho1 : G1 o = some (.lst (refs ks)) := sb1 o _ nob hoG
      have hk1 : Tups G1 ks := fun p hp => sb1 _ _ (ne_of (hk p hp) (bag_b bG).choose_spec (by intro z; cases z)) (hk p hp)
      have sG1 := sb_trans sG sb1
      -- what stands behind the if
      refine ⟨fun σ G => ∃ y t c, σ = [some (.ref b), some (.int most), some (.ref o), y, some (.ref t)] ∧ SameBut b H G ∧ BagL G b l ∧ G o = some (.lst (refs ks)) ∧ Tups G ks ∧ G t = some (CellO c) ∧ Small c, ?_, ?_⟩
      · refine ⟨_, rfl, o, _, rfl, .inl (SqL.of ho1), _, _, rfl, rfl, _, rfl, ite2 (fun e => ?_) (fun _ => ⟨_, t, c, rfl, sG1, bG1, ho1, hk1, ht, smc⟩)⟩
        have pos : 0 < ks.length := by
          have z : (0 : Int) < ((refs ks).length : Int) := of_decide_eq_true e
          rw [refs_len] at z
          omega
        refine ⟨_, rfl, b, l, 4, rfl, bG1, by decide, by decide, fun m G2 p0 p1 bu2 bG2 => ⟨rfl, _, rfl, ?_⟩⟩
        have tr : ∀ {t : Addr} {c : Cell}, G1 t = some (CellO c) → G2 t = some (CellO c) := fun {t c} g => (bu2 t (ne_of g (bag_b bG1).choose_spec (by intro z; cases z))).trans g
        have ho2 : G2 o = some (.lst (refs ks)) := (bu2 o nob).trans ho1
        have sG2 := sb_trans sG1 (but_same bu2)
        refine ite2 (fun _ => ?_) (fun _ => ⟨_, t, c, rfl, sG2, bG2, ho2, fun p hp => tr (hk1 p hp), tr ht, smc⟩)
        refine ⟨_, rfl, _, rfl, _, rfl, o, _, rfl, .inl (SqL.of ho2), b, l, _, rfl, bG2, ?_, ?_, fun m2 G3 q0 q1 bu3 bG3 => ?_⟩
        · rw [refs_len]
          omega
        · rw [refs_len]
          omega
        rw [refs_len] at q1
        have tr3 : ∀ {t : Addr} {c : Cell}, G2 t = some (CellO c) → G3 t = some (CellO c) := fun {t c} g => (bu3 t (ne_of g (bag_b bG2).choose_spec (by intro z; cases z))).trans g
        have ho3 : G3 o = some (.lst (refs ks)) := (bu3 o nob).trans ho2
        obtain ⟨j, rfl⟩ : ∃ j : Nat, m2 = (j : Int) := ⟨m2.toNat, by omega⟩
        have hj : j < ks.length := by omega
        have gj : (refs ks)[j]? = some (.ref ks[j].1) := by
          unfold refs
          rw [List.getElem?_map, List.getElem?_eq_getElem hj]
          rfl
        have mj : ks[j] ∈ ks := List.getElem_mem hj
        refine ⟨o, _, (j : Int), _, rfl, rfl, SqL.of ho3, atI_nat gj, ?_⟩
        exact ⟨_, ks[j].1, ks[j].2, rfl, sb_trans sG2 (but_same bu3), bG3, ho3, fun p hp => tr3 (tr (hk1 p hp)), tr3 (tr (hk1 _ mj)), sm _ (List.mem_map.mpr ⟨_, mj, rfl⟩)⟩
      · rintro σ G2 ⟨y, t, c, rfl, s2, b2, ho2, hk2, ht2, sm2⟩
        refine ⟨_, rfl, .inl ⟨rfl, _, SqL.of ho2⟩, _, rfl, o, _, _, rfl, rfl, ho2, ?_, ?_⟩
        · rw [refs_len]
          exact small1000 (by omega)
        refine ⟨_, _, ks ++ [(t, c)], rfl, fun a u ha e => ?_, ?_, ?_, fun p hp => ?_, ?_, ?_, fun d hd => ?_⟩
        · rw [upd_ne (ne_of_none e no)]
          exact s2 a u ha e
        · obtain ⟨ns, ii, p, q, hb2, hl2, rr⟩ := b2
          exact ⟨ns, ii, p, q, by rw [upd_ne nob.symm]; exact hb2, by rw [upd_ne nol.symm]; exact hl2, rr⟩
        · rw [upd_same]
          unfold refs
          rw [List.map_append]
          rfl
        · rcases List.mem_append.mp hp with z | z
          · rw [upd_ne (ne_of (hk2 p z) ho2 (by intro q; cases q))]
            exact hk2 p z
          · have ep : p = (t, c) := by simpa using z
            rw [ep, upd_ne (ne_of ht2 ho2 (by intro q; cases q))]
            exact ht2
        · rw [List.length_append]
          show ks.length + 1 ≤ i + 1
          omega
        · rw [List.length_append]
          show ks.length + 1 ≤ 1000
          omega
        · unfold cellsOf at hd
          rw [List.map_append] at hd
          rcases List.mem_append.mp hd with z | z
          · exact sm d z
          · have ed : d = c := by simpa using z
            rw [ed]
            exact sm2
    · rintro σ G ⟨y, z, ks, rfl, sG, bG, hoG, hk, hl, hl2, sm⟩
      exact ⟨_, rfl, k o ks G sG bG no hoG hk (by omega) sm⟩
end
end SmL
namespace SmL
open PySem PySem.Spec PyProof.Rows L2 Sm
/-! ### errors of the program as values -/
section
variable {X : Cx} {e : Expr} {es : List Expr} {ta : TA} {p pos : Pos}
/-- C(e, ..), the error itself as the value; C's own __init__ keeps sp -/
def tErr (C : Addr) (sp : Sp) (ta : TA) : TE := fun σ H Q => ta σ H fun vs H1 =>
  vs.length ≤ 1000 ∧ ∀ a, H1 a = none → sp (.ref a :: (vs ++ [])) (upd H1 a (exo a C none)) (fun v H2 => v = .non ∧ Q (.ref a) H2) E0
theorem pe_err {x : Str} {C f : Addr} {k : Nat} {fd : FuncData} {ps : List Str} {sp : Sp} (T : OexC X.K C) (at_ : PySem.W.findIn X.K (.ref C) "__init__" = some (some (.ref f))) (ty : PySem.W.typeIn X.K (.ref f) = some (.type "function"))
    (fn1 : FnOk X.prog X.w X.K X.mg X.base CX0 k f fd ps sp) (room : Room (k + 1) X.A) (bd : Binds X.K fd ps []) (gl : Gl X x) (mg : X.mg x = some (.ref C)) (ha : PA X (e :: es) ta)
    (dbg : (x == ("__debug__" : Str)) = false := by decide) (st : starEach (e :: es) X.env = (false, eval e X.env) :: starEach es X.env := by rfl) (pl : (backTo pos (starEach es X.env)).any (·.1) = false := by rfl) :
    PE X (.Call (.Name x p) (e :: es) [] pos) (tErr C sp ta) := by
  refine ⟨fun pins s σ H Q I h => ?_⟩
  obtain ⟨cn, cq, cN, cb, bm, csn, csub, cab, ccol, cdd, j0, j1, j2, j3, j5, look, vm⟩ := T.cls
  refine wpAny_Call_Name_kw (ld_glob I gl mg ?_ dbg)
  refine PySem.W.callWith_K (h₀ := X.base) I.ok.mod.kin T.kC (thn (ha.run pos pins s σ H _ I h) fun us s1 z => ?_) st pl
  obtain ⟨vs, H1, I1, r1, few, q1⟩ := z
  refine ⟨I1.kIn, ?_⟩
  show wpAny _ _ (call (.ref C) us) _ _ _
  obtain ⟨h0, gs, dr, tk, os⟩ := s1
  have le : h0.objs.size ≤ h0.objs.size + 1 := Nat.le_add_right _ 1
  have none1 : H1 (h0.objs.size + 1) = none := I1.hok.fresh le
  have hq := q1 _ none1
  let hh := (h0.push (PySem.W.kdv_tup us)).push (PySem.HandSPX.excO C h0.objs.size)
  have there : hh.get? (h0.objs.size + 1) = some (PySem.HandSPX.excO C h0.objs.size) := by heap_get
  have kept : ∀ b o, h0.get? b = some o → hh.get? b = some o := fun b o z => Heap.get?_push_of_some _ (Heap.get?_push_of_some _ z)
  have J : L2.Inv X pins σ (upd H1 (h0.objs.size + 1) (exo (h0.objs.size + 1) C none)) ⟨hh, gs, dr, tk, os⟩ := I1.laid (t' := tk) (a := h0.objs.size + 1) kept le (exo_ok there)
  have rs : Vals (V.ref (h0.objs.size + 1) :: (vs ++ [])) (Value.ref (h0.objs.size + 1) :: (us ++ [])) := .cons rfl (r1.append .nil)
  have len : (Value.ref (h0.objs.size + 1) :: us ++ []).length = ps.length := by
    rw [← fn1.len _ _ _ _ hq]
    exact rs.length.symm
  have fit : us.length ≤ sizeLine := by
    have z := Paired.length r1
    rw [sizeLine_eq]
    omega
  have binds : BindsTo ⟨hh, gs, dr, tk, os⟩ fd ⟨Value.ref (h0.objs.size + 1) :: us, []⟩ (ps.zip (Value.ref (h0.objs.size + 1) :: (us ++ []))) := bd ⟨hh, gs, dr, tk, os⟩ (Value.ref (h0.objs.size + 1) :: us) J.kIn len
  refine wpAny_call (PySem.HandSPX.call_own F.excBase_ValueError (fun Y => PySem.HandSPX.refsVE_contains Y bm vm) (I1.kIn _ _ look) (PySem.W.looks_findIn I1.kIn at_) (fun self => PySem.W.bind_fn I1.kIn self ty) fit
    (codeAny_mono (fn1.run _ X.stack _ _ ⟨Value.ref (h0.objs.size + 1) :: us, []⟩ (Value.ref (h0.objs.size + 1) :: (us ++ [])) _ _ E0 (room.make C us []) (J.env0.make C us []) binds rs hq) fun r s2 z => ?_))
  cases r with
  | error er => exact pass0 pins σ _ _ er s2 J z
  | ok fl =>
    cases fl with
    | ret u =>
      obtain ⟨v, H2, J2, rv, ev, q2⟩ := J.after z
      subst ev
      exact ⟨rv, .ref (h0.objs.size + 1), H2, J2, rfl, q2⟩
    | next => exact z.elim
    | brk => exact z.elim
    | cont => exact z.elim
/-- C(), C without an own __init__ -/
theorem pe_err0 {C : Addr} {bmB : List Value} {B newId initId : String} {x : Str} (fb : ExcBaseFacts B newId initId bmB) (q : PySem.W.excIn X.K C bmB newId = true) (gC : X.mg x = some (.ref C)) (kC : PySem.W.keepIn X.K (.ref C) = true) (hg : Gl X x)
    (dbg : (x == ("__debug__" : Str)) = false := by decide) : PE X (.Call (.Name x p) [] [] pos) (fun σ H Q => ∀ a, H a = none → Q (.ref a) (upd H a (ExO (.ref C) a))) := by
  refine ⟨fun pins s σ H Q I h => ?_⟩
  refine wpAny_Call_Name_kw (ld_glob I hg gC ?_ dbg)
  refine PySem.W.callWith_K0 I.kIn kC ?_
  obtain ⟨bm, N, nm, qn, bs, hdct, sn, sub, ab, col, dd, k0, k1, k2, k3, k5, mN, lkC, lkN, noI, tl⟩ := exc_obj I.kIn q
  refine wpAny_call_exc_subT fb tl lkC lkN noI (fun h' a made => ?_) (Nat.zero_le _)
  have fresh : H a = none := I.hok.gone made.new
  obtain ⟨t, there, _, _⟩ := made.there
  exact ⟨.ref a, upd H a (ExO (.ref C) a), I.laidN made.keeps made.new fresh (exO_ok there ⟨rfl, rfl⟩ rfl rfl rfl (show 4 < 6 by decide)), rfl, h a fresh⟩
/-! ### an error at an address -/
/-- at a: an error of the class at C, its fields fs, or none -/
inductive ErrAt (H : Hp) (a C : Addr) : Option (List (Str × V)) → Prop where
  | own {dx : Addr} {fs : List (Str × V)} (h : H a = some (exo a C (some dx))) (d : H dx = some (exd dx fs)) : ErrAt H a C (some fs)
  | bare (h : H a = some (ExO (.ref C) a)) : ErrAt H a C none
theorem ErrAt.inst {pins : List (Addr × Obj)} {σ : L2.St} {H : Hp} {s : Shared} {a C : Addr} {o : Option (List (Str × V))} (I : L2.Inv X pins σ H s) (h : ErrAt H a C o) : ∃ ox od, PySem.W.InstAt s.heap a ox C od := by
  cases h with
  | own h d =>
    obtain ⟨t, g⟩ := exo_at I.hok h
    obtain ⟨mA, ns, _⟩ := exd_at I.hok d
    obtain ⟨od, ho, _⟩ := lookIn_ns ns
    exact ⟨_, some od, g, rfl, rfl, ho⟩
  | bare h =>
    obtain ⟨⟨oe, vs, g, z, dt, _⟩, _⟩ := I.hok a _ h
    obtain ⟨oc, od, oda, osl⟩ := oe
    obtain ⟨z1, z2⟩ := z
    dsimp only at z1 z2 dt
    subst z1 z2 dt
    exact ⟨_, none, g, rfl, rfl, trivial⟩
/-- what is asked of the class of an error -/
structure ErrC (K : PySem.W.Frag) (D : Addr) : Prop where
  cl : (PySem.W.clsIn K D).isSome = true
  hg : PySem.W.findIn K (.ref D) "__getattribute__" = some (some (.builtin "BaseException.__getattribute__"))
  hk : PySem.W.findIn K (.ref D) "__getattr__" = some none
  hs : PySem.W.subIn K (.ref D) (.type "BaseException") = some true
  ha : PySem.W.findIn K (.ref D) "__class__" = some (some (.builtin "object.__class__"))
  hn : PySem.W.specialIn K (.builtin "object.__class__") "__get__" = some (some (.builtin "getset_descriptor.__get__"))
  ht : PySem.W.takesIn K (.builtin "object.__class__") = some true
  hm : PySem.W.mroIn K D (.type "object") = some true
  hd : PySem.W.hasDictIn K D = true
def rIsErr (K : PySem.W.Frag) : List V → Hp → VK → Prop := fun xs H Q => ∃ (a D : Addr) (o : Option (List (Str × V))) (c : V) (cv : Value) (b : Bool), xs = [.ref a, c] ∧ ErrAt H a D o ∧ ErrC K D ∧ (∀ u, RelV c u → u = cv) ∧ PySem.W.kitOne K (.ref D) cv = some b ∧ Q (.bl b) H
theorem call_isErr : CallR X (.builtin "isinstance") (rIsErr X.K) := by
  intro pins s σ H xs us Q I r h
  obtain ⟨a, D, o, c, cv, b, rfl, he, C, hcv, e, q⟩ := h
  match r with
  | .cons rx (.cons rt .nil) =>
    cases rx
    cases hcv _ rt
    obtain ⟨ox, od, J⟩ := he.inst I
    exact PySem.W.kia_one (PySem.W.kitx_exc C.cl C.hg C.hk C.hs C.ha C.hn C.ht C.hm) I.kIn J e (fun z => nomatch z) fun tk => ⟨.bl b, H, I.kept (t' := tk) fun _ _ z => z, rfl, q⟩
/-- e.f of an error -/
def tErrF (K : PySem.W.Frag) (f : Str) (te : TE) : TE := fun σ H Q => te σ H fun x H1 => ∃ (a D : Addr) (fs : List (Str × V)) (v : V), x = .ref a ∧ ErrAt H1 a D (some fs) ∧ ErrC K D ∧ PySem.W.findIn K (.ref D) f = some none ∧ fs.lookup f = some v ∧ Q v H1
theorem pe_errF {te : TE} {n : Str} (he : PE X e te) (hb : attributeBase e n X.env (eval e X.env) = eval e X.env := by rfl) : PE X (.Attribute e n pos) (tErrF X.K n te) := by
  refine ⟨fun pins s σ H Q I h => ?_⟩
  refine attr_of hb (thn (he.run pins s σ H _ I h) fun u s1 z => ?_)
  obtain ⟨x, H1, I1, rx, a, D, fs, v, ex, ea, C, hno, l, q⟩ := z
  subst ex
  obtain rfl : u = Value.ref a := rx
  cases ea with
  | own h d =>
    obtain ⟨t, g⟩ := exo_at I1.hok h
    obtain ⟨mA, ns, hr⟩ := exd_at I1.hok d
    obtain ⟨od, ho, hl⟩ := lookIn_ns ns
    have rl := hr n
    rw [l] at rl
    obtain ⟨u, hu, ru⟩ := RelO.some_of (v := v) (o := mA n) rl
    have J : PySem.W.InstAt s1.heap a _ D (some od) := ⟨g, rfl, rfl, ho⟩
    exact HandSPX.exc_get I1.kIn J C.hg C.hk C.hs (PySem.W.findObj_own C.hd hno rfl (by rw [hl, hu])) (handed_of ru) ⟨v, H1, I1.tok _, ru, q⟩
end
end SmL
namespace SmL
open PySem PySem.Spec PyProof.Rows L2 Sm
/-! ### the __init__ of each error class -/
section
variable {P : Program} {w : World} {K : PySem.W.Frag} {mg : Str → Option Value} {base : Heap}
def sp1 (C : Addr) (n : Str) : Sp := fun vs H Q _ => ∃ a v, vs = [.ref a, v] ∧ H a = some (exo a C none) ∧ ∀ H', ErrAt H' a C (some [(n, v)]) → SameBut a H H' → Q .non H'
def sp2 (C : Addr) : Sp := fun vs H Q _ => ∃ a v u, vs = [.ref a, v, u] ∧ H a = some (exo a C none) ∧ ∀ H', ErrAt H' a C (some [("y", u), ("x", v)]) → SameBut a H H' → Q .non H'
theorem err_new {H : Hp} {a dx C : Addr} {fs : List (Str × V)} (nd : H dx = none) (ne : dx ≠ a) : ErrAt (upd (upd H dx (exd dx fs)) a (exo a C (some dx))) a C (some fs) ∧ SameBut a H (upd (upd H dx (exd dx fs)) a (exo a C (some dx))) := by
  refine ⟨.own upd_same (by rw [upd_ne ne, upd_same]), fun b o nb e => ?_⟩
  rw [upd_ne nb, upd_ne (ne_of_none e nd)]
  exact e
theorem err_put {H H' : Hp} {a dx C : Addr} {n : Str} {v : V} {fs : List (Str × V)} (nd : H dx = none) (ne : dx ≠ a) (h : H' = upd (upd H dx (exd dx fs)) a (exo a C (some dx))) : ErrAt (upd H' dx (exd dx ((n, v) :: fs))) a C (some ((n, v) :: fs)) ∧ SameBut a H (upd H' dx (exd dx ((n, v) :: fs))) := by
  subst h
  refine ⟨.own (by rw [upd_ne ne.symm]; exact upd_same) upd_same, fun b o nb e => ?_⟩
  rw [upd_ne (ne_of_none e nd), upd_ne nb, upd_ne (ne_of_none e nd)]
  exact e
abbrev iOutOfPicture : Stmt := inClass (top 10) 0
theorem scOutOfPicture : FnScope ["self", "x", "y"] ["self", "x", "y"] (defScope iOutOfPicture) := ⟨rfl, rfl, rfl, by decide +kernel, rfl, by decide +kernel, by decide +kernel⟩
theorem okOutOfPicture {f C : Addr} {fd : FuncData} (F : Fun K "__init__" "OutOfPicture.__init__" iOutOfPicture f fd) (T : OexC K C) (nx : PySem.W.findIn K (.ref C) "x" = some none) (ny : PySem.W.findIn K (.ref C) "y" = some none) : FnOk P w K mg base CX0 1 f fd ["self", "x", "y"] (sp2 C) := by
  refine F.ok scOutOfPicture (fun vs H Q E h => ?_) (fun cdv A outer s H vs Q E hr h => ?_)
  · obtain ⟨a, v, u, rfl, _⟩ := h
    rfl
  · obtain ⟨a, v, u, rfl, ha, k⟩ := h
    refine ⟨_, pss_cons (ps_ost (pv 0) (pv 1)) (pss_one (ps_ost (pv 0) (pv 2))), ?_⟩
    refine ⟨_, rfl, _, rfl, a, C, rfl, T, nx, .inl ⟨ha, fun dx nd ne => ?_⟩⟩
    refine ⟨_, rfl, _, rfl, a, C, rfl, T, ny, .inr ⟨dx, [("x", v)], upd_same, by rw [upd_ne ne, upd_same], by show 1 ≤ 900; decide, ?_⟩⟩
    obtain ⟨e1, e2⟩ := err_put (n := "y") (v := u) nd ne rfl
    exact k _ e1 e2
abbrev iNoStone : Stmt := inClass (top 11) 0
theorem scNoStone : FnScope ["self", "x", "y"] ["self", "x", "y"] (defScope iNoStone) := ⟨rfl, rfl, rfl, by decide +kernel, rfl, by decide +kernel, by decide +kernel⟩
theorem okNoStone {f C : Addr} {fd : FuncData} (F : Fun K "__init__" "NoStone.__init__" iNoStone f fd) (T : OexC K C) (nx : PySem.W.findIn K (.ref C) "x" = some none) (ny : PySem.W.findIn K (.ref C) "y" = some none) : FnOk P w K mg base CX0 1 f fd ["self", "x", "y"] (sp2 C) := by
  refine F.ok scNoStone (fun vs H Q E h => ?_) (fun cdv A outer s H vs Q E hr h => ?_)
  · obtain ⟨a, v, u, rfl, _⟩ := h
    rfl
  · obtain ⟨a, v, u, rfl, ha, k⟩ := h
    refine ⟨_, pss_cons (ps_ost (pv 0) (pv 1)) (pss_one (ps_ost (pv 0) (pv 2))), ?_⟩
    refine ⟨_, rfl, _, rfl, a, C, rfl, T, nx, .inl ⟨ha, fun dx nd ne => ?_⟩⟩
    refine ⟨_, rfl, _, rfl, a, C, rfl, T, ny, .inr ⟨dx, [("x", v)], upd_same, by rw [upd_ne ne, upd_same], by show 1 ≤ 900; decide, ?_⟩⟩
    obtain ⟨e1, e2⟩ := err_put (n := "y") (v := u) nd ne rfl
    exact k _ e1 e2
abbrev iNoHole : Stmt := inClass (top 12) 0
theorem scNoHole : FnScope ["self", "x", "y"] ["self", "x", "y"] (defScope iNoHole) := ⟨rfl, rfl, rfl, by decide +kernel, rfl, by decide +kernel, by decide +kernel⟩
theorem okNoHole {f C : Addr} {fd : FuncData} (F : Fun K "__init__" "NoHole.__init__" iNoHole f fd) (T : OexC K C) (nx : PySem.W.findIn K (.ref C) "x" = some none) (ny : PySem.W.findIn K (.ref C) "y" = some none) : FnOk P w K mg base CX0 1 f fd ["self", "x", "y"] (sp2 C) := by
  refine F.ok scNoHole (fun vs H Q E h => ?_) (fun cdv A outer s H vs Q E hr h => ?_)
  · obtain ⟨a, v, u, rfl, _⟩ := h
    rfl
  · obtain ⟨a, v, u, rfl, ha, k⟩ := h
    refine ⟨_, pss_cons (ps_ost (pv 0) (pv 1)) (pss_one (ps_ost (pv 0) (pv 2))), ?_⟩
    refine ⟨_, rfl, _, rfl, a, C, rfl, T, nx, .inl ⟨ha, fun dx nd ne => ?_⟩⟩
    refine ⟨_, rfl, _, rfl, a, C, rfl, T, ny, .inr ⟨dx, [("x", v)], upd_same, by rw [upd_ne ne, upd_same], by show 1 ≤ 900; decide, ?_⟩⟩
    obtain ⟨e1, e2⟩ := err_put (n := "y") (v := u) nd ne rfl
    exact k _ e1 e2
abbrev iEmptyCell : Stmt := inClass (top 13) 0
theorem scEmptyCell : FnScope ["self", "x", "y"] ["self", "x", "y"] (defScope iEmptyCell) := ⟨rfl, rfl, rfl, by decide +kernel, rfl, by decide +kernel, by decide +kernel⟩
theorem okEmptyCell {f C : Addr} {fd : FuncData} (F : Fun K "__init__" "EmptyCell.__init__" iEmptyCell f fd) (T : OexC K C) (nx : PySem.W.findIn K (.ref C) "x" = some none) (ny : PySem.W.findIn K (.ref C) "y" = some none) : FnOk P w K mg base CX0 1 f fd ["self", "x", "y"] (sp2 C) := by
  refine F.ok scEmptyCell (fun vs H Q E h => ?_) (fun cdv A outer s H vs Q E hr h => ?_)
  · obtain ⟨a, v, u, rfl, _⟩ := h
    rfl
  · obtain ⟨a, v, u, rfl, ha, k⟩ := h
    refine ⟨_, pss_cons (ps_ost (pv 0) (pv 1)) (pss_one (ps_ost (pv 0) (pv 2))), ?_⟩
    refine ⟨_, rfl, _, rfl, a, C, rfl, T, nx, .inl ⟨ha, fun dx nd ne => ?_⟩⟩
    refine ⟨_, rfl, _, rfl, a, C, rfl, T, ny, .inr ⟨dx, [("x", v)], upd_same, by rw [upd_ne ne, upd_same], by show 1 ≤ 900; decide, ?_⟩⟩
    obtain ⟨e1, e2⟩ := err_put (n := "y") (v := u) nd ne rfl
    exact k _ e1 e2
abbrev iOpposed : Stmt := inClass (top 14) 0
theorem scOpposed : FnScope ["self", "x", "y"] ["self", "x", "y"] (defScope iOpposed) := ⟨rfl, rfl, rfl, by decide +kernel, rfl, by decide +kernel, by decide +kernel⟩
theorem okOpposed {f C : Addr} {fd : FuncData} (F : Fun K "__init__" "Opposed.__init__" iOpposed f fd) (T : OexC K C) (nx : PySem.W.findIn K (.ref C) "x" = some none) (ny : PySem.W.findIn K (.ref C) "y" = some none) : FnOk P w K mg base CX0 1 f fd ["self", "x", "y"] (sp2 C) := by
  refine F.ok scOpposed (fun vs H Q E h => ?_) (fun cdv A outer s H vs Q E hr h => ?_)
  · obtain ⟨a, v, u, rfl, _⟩ := h
    rfl
  · obtain ⟨a, v, u, rfl, ha, k⟩ := h
    refine ⟨_, pss_cons (ps_ost (pv 0) (pv 1)) (pss_one (ps_ost (pv 0) (pv 2))), ?_⟩
    refine ⟨_, rfl, _, rfl, a, C, rfl, T, nx, .inl ⟨ha, fun dx nd ne => ?_⟩⟩
    refine ⟨_, rfl, _, rfl, a, C, rfl, T, ny, .inr ⟨dx, [("x", v)], upd_same, by rw [upd_ne ne, upd_same], by show 1 ≤ 900; decide, ?_⟩⟩
    obtain ⟨e1, e2⟩ := err_put (n := "y") (v := u) nd ne rfl
    exact k _ e1 e2
abbrev iNotOld : Stmt := inClass (top 15) 0
theorem scNotOld : FnScope ["self", "x", "y"] ["self", "x", "y"] (defScope iNotOld) := ⟨rfl, rfl, rfl, by decide +kernel, rfl, by decide +kernel, by decide +kernel⟩
theorem okNotOld {f C : Addr} {fd : FuncData} (F : Fun K "__init__" "NotOld.__init__" iNotOld f fd) (T : OexC K C) (nx : PySem.W.findIn K (.ref C) "x" = some none) (ny : PySem.W.findIn K (.ref C) "y" = some none) : FnOk P w K mg base CX0 1 f fd ["self", "x", "y"] (sp2 C) := by
  refine F.ok scNotOld (fun vs H Q E h => ?_) (fun cdv A outer s H vs Q E hr h => ?_)
  · obtain ⟨a, v, u, rfl, _⟩ := h
    rfl
  · obtain ⟨a, v, u, rfl, ha, k⟩ := h
    refine ⟨_, pss_cons (ps_ost (pv 0) (pv 1)) (pss_one (ps_ost (pv 0) (pv 2))), ?_⟩
    refine ⟨_, rfl, _, rfl, a, C, rfl, T, nx, .inl ⟨ha, fun dx nd ne => ?_⟩⟩
    refine ⟨_, rfl, _, rfl, a, C, rfl, T, ny, .inr ⟨dx, [("x", v)], upd_same, by rw [upd_ne ne, upd_same], by show 1 ≤ 900; decide, ?_⟩⟩
    obtain ⟨e1, e2⟩ := err_put (n := "y") (v := u) nd ne rfl
    exact k _ e1 e2
abbrev iNotNew : Stmt := inClass (top 16) 0
theorem scNotNew : FnScope ["self", "x", "y"] ["self", "x", "y"] (defScope iNotNew) := ⟨rfl, rfl, rfl, by decide +kernel, rfl, by decide +kernel, by decide +kernel⟩
theorem okNotNew {f C : Addr} {fd : FuncData} (F : Fun K "__init__" "NotNew.__init__" iNotNew f fd) (T : OexC K C) (nx : PySem.W.findIn K (.ref C) "x" = some none) (ny : PySem.W.findIn K (.ref C) "y" = some none) : FnOk P w K mg base CX0 1 f fd ["self", "x", "y"] (sp2 C) := by
  refine F.ok scNotNew (fun vs H Q E h => ?_) (fun cdv A outer s H vs Q E hr h => ?_)
  · obtain ⟨a, v, u, rfl, _⟩ := h
    rfl
  · obtain ⟨a, v, u, rfl, ha, k⟩ := h
    refine ⟨_, pss_cons (ps_ost (pv 0) (pv 1)) (pss_one (ps_ost (pv 0) (pv 2))), ?_⟩
    refine ⟨_, rfl, _, rfl, a, C, rfl, T, nx, .inl ⟨ha, fun dx nd ne => ?_⟩⟩
    refine ⟨_, rfl, _, rfl, a, C, rfl, T, ny, .inr ⟨dx, [("x", v)], upd_same, by rw [upd_ne ne, upd_same], by show 1 ≤ 900; decide, ?_⟩⟩
    obtain ⟨e1, e2⟩ := err_put (n := "y") (v := u) nd ne rfl
    exact k _ e1 e2
abbrev iSurelyOld : Stmt := inClass (top 17) 0
theorem scSurelyOld : FnScope ["self", "x", "y"] ["self", "x", "y"] (defScope iSurelyOld) := ⟨rfl, rfl, rfl, by decide +kernel, rfl, by decide +kernel, by decide +kernel⟩
theorem okSurelyOld {f C : Addr} {fd : FuncData} (F : Fun K "__init__" "SurelyOld.__init__" iSurelyOld f fd) (T : OexC K C) (nx : PySem.W.findIn K (.ref C) "x" = some none) (ny : PySem.W.findIn K (.ref C) "y" = some none) : FnOk P w K mg base CX0 1 f fd ["self", "x", "y"] (sp2 C) := by
  refine F.ok scSurelyOld (fun vs H Q E h => ?_) (fun cdv A outer s H vs Q E hr h => ?_)
  · obtain ⟨a, v, u, rfl, _⟩ := h
    rfl
  · obtain ⟨a, v, u, rfl, ha, k⟩ := h
    refine ⟨_, pss_cons (ps_ost (pv 0) (pv 1)) (pss_one (ps_ost (pv 0) (pv 2))), ?_⟩
    refine ⟨_, rfl, _, rfl, a, C, rfl, T, nx, .inl ⟨ha, fun dx nd ne => ?_⟩⟩
    refine ⟨_, rfl, _, rfl, a, C, rfl, T, ny, .inr ⟨dx, [("x", v)], upd_same, by rw [upd_ne ne, upd_same], by show 1 ≤ 900; decide, ?_⟩⟩
    obtain ⟨e1, e2⟩ := err_put (n := "y") (v := u) nd ne rfl
    exact k _ e1 e2
abbrev iSurelyNew : Stmt := inClass (top 18) 0
theorem scSurelyNew : FnScope ["self", "x", "y"] ["self", "x", "y"] (defScope iSurelyNew) := ⟨rfl, rfl, rfl, by decide +kernel, rfl, by decide +kernel, by decide +kernel⟩
theorem okSurelyNew {f C : Addr} {fd : FuncData} (F : Fun K "__init__" "SurelyNew.__init__" iSurelyNew f fd) (T : OexC K C) (nx : PySem.W.findIn K (.ref C) "x" = some none) (ny : PySem.W.findIn K (.ref C) "y" = some none) : FnOk P w K mg base CX0 1 f fd ["self", "x", "y"] (sp2 C) := by
  refine F.ok scSurelyNew (fun vs H Q E h => ?_) (fun cdv A outer s H vs Q E hr h => ?_)
  · obtain ⟨a, v, u, rfl, _⟩ := h
    rfl
  · obtain ⟨a, v, u, rfl, ha, k⟩ := h
    refine ⟨_, pss_cons (ps_ost (pv 0) (pv 1)) (pss_one (ps_ost (pv 0) (pv 2))), ?_⟩
    refine ⟨_, rfl, _, rfl, a, C, rfl, T, nx, .inl ⟨ha, fun dx nd ne => ?_⟩⟩
    refine ⟨_, rfl, _, rfl, a, C, rfl, T, ny, .inr ⟨dx, [("x", v)], upd_same, by rw [upd_ne ne, upd_same], by show 1 ≤ 900; decide, ?_⟩⟩
    obtain ⟨e1, e2⟩ := err_put (n := "y") (v := u) nd ne rfl
    exact k _ e1 e2
abbrev iSurelyAfter : Stmt := inClass (top 19) 0
theorem scSurelyAfter : FnScope ["self", "x", "y"] ["self", "x", "y"] (defScope iSurelyAfter) := ⟨rfl, rfl, rfl, by decide +kernel, rfl, by decide +kernel, by decide +kernel⟩
theorem okSurelyAfter {f C : Addr} {fd : FuncData} (F : Fun K "__init__" "SurelyAfter.__init__" iSurelyAfter f fd) (T : OexC K C) (nx : PySem.W.findIn K (.ref C) "x" = some none) (ny : PySem.W.findIn K (.ref C) "y" = some none) : FnOk P w K mg base CX0 1 f fd ["self", "x", "y"] (sp2 C) := by
  refine F.ok scSurelyAfter (fun vs H Q E h => ?_) (fun cdv A outer s H vs Q E hr h => ?_)
  · obtain ⟨a, v, u, rfl, _⟩ := h
    rfl
  · obtain ⟨a, v, u, rfl, ha, k⟩ := h
    refine ⟨_, pss_cons (ps_ost (pv 0) (pv 1)) (pss_one (ps_ost (pv 0) (pv 2))), ?_⟩
    refine ⟨_, rfl, _, rfl, a, C, rfl, T, nx, .inl ⟨ha, fun dx nd ne => ?_⟩⟩
    refine ⟨_, rfl, _, rfl, a, C, rfl, T, ny, .inr ⟨dx, [("x", v)], upd_same, by rw [upd_ne ne, upd_same], by show 1 ≤ 900; decide, ?_⟩⟩
    obtain ⟨e1, e2⟩ := err_put (n := "y") (v := u) nd ne rfl
    exact k _ e1 e2
abbrev iInvalidPicture : Stmt := inClass (top 2) 0
theorem scInvalidPicture : FnScope ["self", "line"] ["self", "line"] (defScope iInvalidPicture) := ⟨rfl, rfl, rfl, by decide +kernel, rfl, by decide +kernel, by decide +kernel⟩
theorem okInvalidPicture {f C : Addr} {fd : FuncData} (F : Fun K "__init__" "InvalidPicture.__init__" iInvalidPicture f fd) (T : OexC K C) (nx : PySem.W.findIn K (.ref C) "line" = some none) : FnOk P w K mg base CX0 1 f fd ["self", "line"] (sp1 C "line") := by
  refine F.ok scInvalidPicture (fun vs H Q E h => ?_) (fun cdv A outer s H vs Q E hr h => ?_)
  · obtain ⟨a, v, rfl, _⟩ := h
    rfl
  · obtain ⟨a, v, rfl, ha, k⟩ := h
    refine ⟨_, pss_one (ps_ost (pv 0) (pv 1)), ?_⟩
    refine ⟨_, rfl, _, rfl, a, C, rfl, T, nx, .inl ⟨ha, fun dx nd ne => ?_⟩⟩
    obtain ⟨e1, e2⟩ := err_new (C := C) (fs := [("line", v)]) nd ne
    exact k _ e1 e2
abbrev iInvalidRule : Stmt := inClass (top 3) 0
theorem scInvalidRule : FnScope ["self", "part"] ["self", "part"] (defScope iInvalidRule) := ⟨rfl, rfl, rfl, by decide +kernel, rfl, by decide +kernel, by decide +kernel⟩
theorem okInvalidRule {f C : Addr} {fd : FuncData} (F : Fun K "__init__" "InvalidRule.__init__" iInvalidRule f fd) (T : OexC K C) (nx : PySem.W.findIn K (.ref C) "part" = some none) : FnOk P w K mg base CX0 1 f fd ["self", "part"] (sp1 C "part") := by
  refine F.ok scInvalidRule (fun vs H Q E h => ?_) (fun cdv A outer s H vs Q E hr h => ?_)
  · obtain ⟨a, v, rfl, _⟩ := h
    rfl
  · obtain ⟨a, v, rfl, ha, k⟩ := h
    refine ⟨_, pss_one (ps_ost (pv 0) (pv 1)), ?_⟩
    refine ⟨_, rfl, _, rfl, a, C, rfl, T, nx, .inl ⟨ha, fun dx nd ne => ?_⟩⟩
    obtain ⟨e1, e2⟩ := err_new (C := C) (fs := [("part", v)]) nd ne
    exact k _ e1 e2
abbrev iInvalidBook : Stmt := inClass (top 4) 0
theorem scInvalidBook : FnScope ["self", "line"] ["self", "line"] (defScope iInvalidBook) := ⟨rfl, rfl, rfl, by decide +kernel, rfl, by decide +kernel, by decide +kernel⟩
theorem okInvalidBook {f C : Addr} {fd : FuncData} (F : Fun K "__init__" "InvalidBook.__init__" iInvalidBook f fd) (T : OexC K C) (nx : PySem.W.findIn K (.ref C) "line" = some none) : FnOk P w K mg base CX0 1 f fd ["self", "line"] (sp1 C "line") := by
  refine F.ok scInvalidBook (fun vs H Q E h => ?_) (fun cdv A outer s H vs Q E hr h => ?_)
  · obtain ⟨a, v, rfl, _⟩ := h
    rfl
  · obtain ⟨a, v, rfl, ha, k⟩ := h
    refine ⟨_, pss_one (ps_ost (pv 0) (pv 1)), ?_⟩
    refine ⟨_, rfl, _, rfl, a, C, rfl, T, nx, .inl ⟨ha, fun dx nd ne => ?_⟩⟩
    obtain ⟨e1, e2⟩ := err_new (C := C) (fs := [("line", v)]) nd ne
    exact k _ e1 e2
abbrev iInvalidSketch : Stmt := inClass (top 5) 0
theorem scInvalidSketch : FnScope ["self", "line"] ["self", "line"] (defScope iInvalidSketch) := ⟨rfl, rfl, rfl, by decide +kernel, rfl, by decide +kernel, by decide +kernel⟩
theorem okInvalidSketch {f C : Addr} {fd : FuncData} (F : Fun K "__init__" "InvalidSketch.__init__" iInvalidSketch f fd) (T : OexC K C) (nx : PySem.W.findIn K (.ref C) "line" = some none) : FnOk P w K mg base CX0 1 f fd ["self", "line"] (sp1 C "line") := by
  refine F.ok scInvalidSketch (fun vs H Q E h => ?_) (fun cdv A outer s H vs Q E hr h => ?_)
  · obtain ⟨a, v, rfl, _⟩ := h
    rfl
  · obtain ⟨a, v, rfl, ha, k⟩ := h
    refine ⟨_, pss_one (ps_ost (pv 0) (pv 1)), ?_⟩
    refine ⟨_, rfl, _, rfl, a, C, rfl, T, nx, .inl ⟨ha, fun dx nd ne => ?_⟩⟩
    obtain ⟨e1, e2⟩ := err_new (C := C) (fs := [("line", v)]) nd ne
    exact k _ e1 e2
abbrev iInvalidHistory : Stmt := inClass (top 6) 0
theorem scInvalidHistory : FnScope ["self", "line"] ["self", "line"] (defScope iInvalidHistory) := ⟨rfl, rfl, rfl, by decide +kernel, rfl, by decide +kernel, by decide +kernel⟩
theorem okInvalidHistory {f C : Addr} {fd : FuncData} (F : Fun K "__init__" "InvalidHistory.__init__" iInvalidHistory f fd) (T : OexC K C) (nx : PySem.W.findIn K (.ref C) "line" = some none) : FnOk P w K mg base CX0 1 f fd ["self", "line"] (sp1 C "line") := by
  refine F.ok scInvalidHistory (fun vs H Q E h => ?_) (fun cdv A outer s H vs Q E hr h => ?_)
  · obtain ⟨a, v, rfl, _⟩ := h
    rfl
  · obtain ⟨a, v, rfl, ha, k⟩ := h
    refine ⟨_, pss_one (ps_ost (pv 0) (pv 1)), ?_⟩
    refine ⟨_, rfl, _, rfl, a, C, rfl, T, nx, .inl ⟨ha, fun dx nd ne => ?_⟩⟩
    obtain ⟨e1, e2⟩ := err_new (C := C) (fs := [("line", v)]) nd ne
    exact k _ e1 e2
abbrev iInvalidSign : Stmt := inClass (top 7) 0
theorem scInvalidSign : FnScope ["self", "sign"] ["self", "sign"] (defScope iInvalidSign) := ⟨rfl, rfl, rfl, by decide +kernel, rfl, by decide +kernel, by decide +kernel⟩
theorem okInvalidSign {f C : Addr} {fd : FuncData} (F : Fun K "__init__" "InvalidSign.__init__" iInvalidSign f fd) (T : OexC K C) (nx : PySem.W.findIn K (.ref C) "sign" = some none) : FnOk P w K mg base CX0 1 f fd ["self", "sign"] (sp1 C "sign") := by
  refine F.ok scInvalidSign (fun vs H Q E h => ?_) (fun cdv A outer s H vs Q E hr h => ?_)
  · obtain ⟨a, v, rfl, _⟩ := h
    rfl
  · obtain ⟨a, v, rfl, ha, k⟩ := h
    refine ⟨_, pss_one (ps_ost (pv 0) (pv 1)), ?_⟩
    refine ⟨_, rfl, _, rfl, a, C, rfl, T, nx, .inl ⟨ha, fun dx nd ne => ?_⟩⟩
    obtain ⟨e1, e2⟩ := err_new (C := C) (fs := [("sign", v)]) nd ne
    exact k _ e1 e2
abbrev iInvalidSigns : Stmt := inClass (top 8) 0
theorem scInvalidSigns : FnScope ["self", "signs"] ["self", "signs"] (defScope iInvalidSigns) := ⟨rfl, rfl, rfl, by decide +kernel, rfl, by decide +kernel, by decide +kernel⟩
theorem okInvalidSigns {f C : Addr} {fd : FuncData} (F : Fun K "__init__" "InvalidSigns.__init__" iInvalidSigns f fd) (T : OexC K C) (nx : PySem.W.findIn K (.ref C) "signs" = some none) : FnOk P w K mg base CX0 1 f fd ["self", "signs"] (sp1 C "signs") := by
  refine F.ok scInvalidSigns (fun vs H Q E h => ?_) (fun cdv A outer s H vs Q E hr h => ?_)
  · obtain ⟨a, v, rfl, _⟩ := h
    rfl
  · obtain ⟨a, v, rfl, ha, k⟩ := h
    refine ⟨_, pss_one (ps_ost (pv 0) (pv 1)), ?_⟩
    refine ⟨_, rfl, _, rfl, a, C, rfl, T, nx, .inl ⟨ha, fun dx nd ne => ?_⟩⟩
    obtain ⟨e1, e2⟩ := err_new (C := C) (fs := [("signs", v)]) nd ne
    exact k _ e1 e2
abbrev iInvalidLimit : Stmt := inClass (top 9) 0
theorem scInvalidLimit : FnScope ["self", "value"] ["self", "value"] (defScope iInvalidLimit) := ⟨rfl, rfl, rfl, by decide +kernel, rfl, by decide +kernel, by decide +kernel⟩
theorem okInvalidLimit {f C : Addr} {fd : FuncData} (F : Fun K "__init__" "InvalidLimit.__init__" iInvalidLimit f fd) (T : OexC K C) (nx : PySem.W.findIn K (.ref C) "value" = some none) : FnOk P w K mg base CX0 1 f fd ["self", "value"] (sp1 C "value") := by
  refine F.ok scInvalidLimit (fun vs H Q E h => ?_) (fun cdv A outer s H vs Q E hr h => ?_)
  · obtain ⟨a, v, rfl, _⟩ := h
    rfl
  · obtain ⟨a, v, rfl, ha, k⟩ := h
    refine ⟨_, pss_one (ps_ost (pv 0) (pv 1)), ?_⟩
    refine ⟨_, rfl, _, rfl, a, C, rfl, T, nx, .inl ⟨ha, fun dx nd ne => ?_⟩⟩
    obtain ⟨e1, e2⟩ := err_new (C := C) (fs := [("value", v)]) nd ne
    exact k _ e1 e2
abbrev iNoRule : Stmt := inClass (top 20) 0
theorem scNoRule : FnScope ["self", "number"] ["self", "number"] (defScope iNoRule) := ⟨rfl, rfl, rfl, by decide +kernel, rfl, by decide +kernel, by decide +kernel⟩
theorem okNoRule {f C : Addr} {fd : FuncData} (F : Fun K "__init__" "NoRule.__init__" iNoRule f fd) (T : OexC K C) (nx : PySem.W.findIn K (.ref C) "number" = some none) : FnOk P w K mg base CX0 1 f fd ["self", "number"] (sp1 C "number") := by
  refine F.ok scNoRule (fun vs H Q E h => ?_) (fun cdv A outer s H vs Q E hr h => ?_)
  · obtain ⟨a, v, rfl, _⟩ := h
    rfl
  · obtain ⟨a, v, rfl, ha, k⟩ := h
    refine ⟨_, pss_one (ps_ost (pv 0) (pv 1)), ?_⟩
    refine ⟨_, rfl, _, rfl, a, C, rfl, T, nx, .inl ⟨ha, fun dx nd ne => ?_⟩⟩
    obtain ⟨e1, e2⟩ := err_new (C := C) (fs := [("number", v)]) nd ne
    exact k _ e1 e2
abbrev iNoPhotograph : Stmt := inClass (top 21) 0
theorem scNoPhotograph : FnScope ["self", "number"] ["self", "number"] (defScope iNoPhotograph) := ⟨rfl, rfl, rfl, by decide +kernel, rfl, by decide +kernel, by decide +kernel⟩
theorem okNoPhotograph {f C : Addr} {fd : FuncData} (F : Fun K "__init__" "NoPhotograph.__init__" iNoPhotograph f fd) (T : OexC K C) (nx : PySem.W.findIn K (.ref C) "number" = some none) : FnOk P w K mg base CX0 1 f fd ["self", "number"] (sp1 C "number") := by
  refine F.ok scNoPhotograph (fun vs H Q E h => ?_) (fun cdv A outer s H vs Q E hr h => ?_)
  · obtain ⟨a, v, rfl, _⟩ := h
    rfl
  · obtain ⟨a, v, rfl, ha, k⟩ := h
    refine ⟨_, pss_one (ps_ost (pv 0) (pv 1)), ?_⟩
    refine ⟨_, rfl, _, rfl, a, C, rfl, T, nx, .inl ⟨ha, fun dx nd ne => ?_⟩⟩
    obtain ⟨e1, e2⟩ := err_new (C := C) (fs := [("number", v)]) nd ne
    exact k _ e1 e2
abbrev iWrongStone : Stmt := inClass (top 22) 0
theorem scWrongStone : FnScope ["self", "stone"] ["self", "stone"] (defScope iWrongStone) := ⟨rfl, rfl, rfl, by decide +kernel, rfl, by decide +kernel, by decide +kernel⟩
theorem okWrongStone {f C : Addr} {fd : FuncData} (F : Fun K "__init__" "WrongStone.__init__" iWrongStone f fd) (T : OexC K C) (nx : PySem.W.findIn K (.ref C) "stone" = some none) : FnOk P w K mg base CX0 1 f fd ["self", "stone"] (sp1 C "stone") := by
  refine F.ok scWrongStone (fun vs H Q E h => ?_) (fun cdv A outer s H vs Q E hr h => ?_)
  · obtain ⟨a, v, rfl, _⟩ := h
    rfl
  · obtain ⟨a, v, rfl, ha, k⟩ := h
    refine ⟨_, pss_one (ps_ost (pv 0) (pv 1)), ?_⟩
    refine ⟨_, rfl, _, rfl, a, C, rfl, T, nx, .inl ⟨ha, fun dx nd ne => ?_⟩⟩
    obtain ⟨e1, e2⟩ := err_new (C := C) (fs := [("stone", v)]) nd ne
    exact k _ e1 e2
abbrev iRuleClash : Stmt := inClass (top 23) 0
theorem scRuleClash : FnScope ["self", "places"] ["self", "places"] (defScope iRuleClash) := ⟨rfl, rfl, rfl, by decide +kernel, rfl, by decide +kernel, by decide +kernel⟩
theorem okRuleClash {f C : Addr} {fd : FuncData} (F : Fun K "__init__" "RuleClash.__init__" iRuleClash f fd) (T : OexC K C) (nx : PySem.W.findIn K (.ref C) "places" = some none) : FnOk P w K mg base CX0 1 f fd ["self", "places"] (sp1 C "places") := by
  refine F.ok scRuleClash (fun vs H Q E h => ?_) (fun cdv A outer s H vs Q E hr h => ?_)
  · obtain ⟨a, v, rfl, _⟩ := h
    rfl
  · obtain ⟨a, v, rfl, ha, k⟩ := h
    refine ⟨_, pss_one (ps_ost (pv 0) (pv 1)), ?_⟩
    refine ⟨_, rfl, _, rfl, a, C, rfl, T, nx, .inl ⟨ha, fun dx nd ne => ?_⟩⟩
    obtain ⟨e1, e2⟩ := err_new (C := C) (fs := [("places", v)]) nd ne
    exact k _ e1 e2
abbrev iBadDeed : Stmt := inClass (top 24) 0
theorem scBadDeed : FnScope ["self", "index"] ["self", "index"] (defScope iBadDeed) := ⟨rfl, rfl, rfl, by decide +kernel, rfl, by decide +kernel, by decide +kernel⟩
theorem okBadDeed {f C : Addr} {fd : FuncData} (F : Fun K "__init__" "BadDeed.__init__" iBadDeed f fd) (T : OexC K C) (nx : PySem.W.findIn K (.ref C) "index" = some none) : FnOk P w K mg base CX0 1 f fd ["self", "index"] (sp1 C "index") := by
  refine F.ok scBadDeed (fun vs H Q E h => ?_) (fun cdv A outer s H vs Q E hr h => ?_)
  · obtain ⟨a, v, rfl, _⟩ := h
    rfl
  · obtain ⟨a, v, rfl, ha, k⟩ := h
    refine ⟨_, pss_one (ps_ost (pv 0) (pv 1)), ?_⟩
    refine ⟨_, rfl, _, rfl, a, C, rfl, T, nx, .inl ⟨ha, fun dx nd ne => ?_⟩⟩
    obtain ⟨e1, e2⟩ := err_new (C := C) (fs := [("index", v)]) nd ne
    exact k _ e1 e2
abbrev iImpossible : Stmt := inClass (top 25) 0
theorem scImpossible : FnScope ["self", "lacking"] ["self", "lacking"] (defScope iImpossible) := ⟨rfl, rfl, rfl, by decide +kernel, rfl, by decide +kernel, by decide +kernel⟩
theorem okImpossible {f C : Addr} {fd : FuncData} (F : Fun K "__init__" "Impossible.__init__" iImpossible f fd) (T : OexC K C) (nx : PySem.W.findIn K (.ref C) "lacking" = some none) : FnOk P w K mg base CX0 1 f fd ["self", "lacking"] (sp1 C "lacking") := by
  refine F.ok scImpossible (fun vs H Q E h => ?_) (fun cdv A outer s H vs Q E hr h => ?_)
  · obtain ⟨a, v, rfl, _⟩ := h
    rfl
  · obtain ⟨a, v, rfl, ha, k⟩ := h
    refine ⟨_, pss_one (ps_ost (pv 0) (pv 1)), ?_⟩
    refine ⟨_, rfl, _, rfl, a, C, rfl, T, nx, .inl ⟨ha, fun dx nd ne => ?_⟩⟩
    obtain ⟨e1, e2⟩ := err_new (C := C) (fs := [("lacking", v)]) nd ne
    exact k _ e1 e2
abbrev iTooManyCases : Stmt := inClass (top 26) 0
theorem scTooManyCases : FnScope ["self", "cases"] ["self", "cases"] (defScope iTooManyCases) := ⟨rfl, rfl, rfl, by decide +kernel, rfl, by decide +kernel, by decide +kernel⟩
theorem okTooManyCases {f C : Addr} {fd : FuncData} (F : Fun K "__init__" "TooManyCases.__init__" iTooManyCases f fd) (T : OexC K C) (nx : PySem.W.findIn K (.ref C) "cases" = some none) : FnOk P w K mg base CX0 1 f fd ["self", "cases"] (sp1 C "cases") := by
  refine F.ok scTooManyCases (fun vs H Q E h => ?_) (fun cdv A outer s H vs Q E hr h => ?_)
  · obtain ⟨a, v, rfl, _⟩ := h
    rfl
  · obtain ⟨a, v, rfl, ha, k⟩ := h
    refine ⟨_, pss_one (ps_ost (pv 0) (pv 1)), ?_⟩
    refine ⟨_, rfl, _, rfl, a, C, rfl, T, nx, .inl ⟨ha, fun dx nd ne => ?_⟩⟩
    obtain ⟨e1, e2⟩ := err_new (C := C) (fs := [("cases", v)]) nd ne
    exact k _ e1 e2
abbrev iUnknownOption : Stmt := inClass (top 27) 0
theorem scUnknownOption : FnScope ["self", "name"] ["self", "name"] (defScope iUnknownOption) := ⟨rfl, rfl, rfl, by decide +kernel, rfl, by decide +kernel, by decide +kernel⟩
theorem okUnknownOption {f C : Addr} {fd : FuncData} (F : Fun K "__init__" "UnknownOption.__init__" iUnknownOption f fd) (T : OexC K C) (nx : PySem.W.findIn K (.ref C) "name" = some none) : FnOk P w K mg base CX0 1 f fd ["self", "name"] (sp1 C "name") := by
  refine F.ok scUnknownOption (fun vs H Q E h => ?_) (fun cdv A outer s H vs Q E hr h => ?_)
  · obtain ⟨a, v, rfl, _⟩ := h
    rfl
  · obtain ⟨a, v, rfl, ha, k⟩ := h
    refine ⟨_, pss_one (ps_ost (pv 0) (pv 1)), ?_⟩
    refine ⟨_, rfl, _, rfl, a, C, rfl, T, nx, .inl ⟨ha, fun dx nd ne => ?_⟩⟩
    obtain ⟨e1, e2⟩ := err_new (C := C) (fs := [("name", v)]) nd ne
    exact k _ e1 e2
end
end SmL
namespace SmL
open PySem PySem.Spec PyProof.Rows L2 Sm
abbrev lCellKinds : Stmt := top 36
abbrev lOtherKinds : Stmt := top 37
abbrev lIsKind : Stmt := top 38
abbrev lCellErrors : Stmt := top 39
abbrev lOtherErrors : Stmt := top 40
abbrev lFields : Stmt := top 41
abbrev lLaw : Stmt := top 42
def nameAt (i : Nat) : Str := (["OutOfPicture", "NoStone", "NoHole", "EmptyCell", "Opposed", "NotOld", "NotNew", "SurelyOld", "SurelyNew", "SurelyAfter", "InvalidPicture", "InvalidRule", "InvalidBook", "InvalidSketch", "InvalidHistory", "InvalidSign", "InvalidSigns", "InvalidLimit", "NoRule", "NoPhotograph", "WrongStone", "RuleClash", "BadDeed", "Impossible", "TooManyCases", "UnknownOption", "UnequalSize", "NothingToUndo", "StillPossible"] : List Str).getD i ""
/-- an error class below S -/
structure ECls (K : PySem.W.Frag) (S C : Addr) : Prop where
  er : ErrC K C
  mro : ∃ cd, PySem.W.clsIn K C = some cd ∧ cd.mro = [.ref C, .ref S, .type "ValueError", .type "Exception", .type "BaseException", .type "object"]
  ty : PySem.W.typeIn K (.ref C) = some (.type "type")
/-- the error classes, in the order in which they are asked for -/
structure Kit (K : PySem.W.Frag) (mg : Str → Option Value) (S : Addr) (cs : Nat → Addr) : Prop where
  gl : ∀ i, i < 29 → mg (nameAt i) = some (.ref (cs i))
  ec : ∀ i, i < 29 → ECls K S (cs i)
  inj : ∀ i j, i < 29 → j < 29 → cs i = cs j → i = j
  ns : ∀ i, i < 29 → cs i ≠ S
  gS : mg "SmaltiError" = some (.ref S)
  clS : (PySem.W.clsIn K S).isSome = true
  tyS : PySem.W.typeIn K (.ref S) = some (.type "type")
  mV : mg "ValueError" = none
  isi : mg "isinstance" = none
theorem ErrAt.same {H H' : Hp} {a C : Addr} {o : Option (List (Str × V))} (h : ErrAt H a C o) (s : Same H H') : ErrAt H' a C o := by
  cases h with
  | own h d => exact .own (s _ _ h) (s _ _ d)
  | bare h => exact .bare (s _ _ h)
section
variable {K : PySem.W.Frag} {mg : Str → Option Value} {S : Addr} {cs : Nat → Addr}
theorem Kit.sub (k : Kit K mg S cs) {i : Nat} (hi : i < 29) (b : Value) : PySem.W.subIn K (.ref (cs i)) b = some (([.ref (cs i), .ref S, .type "ValueError", .type "Exception", .type "BaseException", .type "object"] : List Value).contains b) := by
  obtain ⟨cd, hc, hm⟩ := (k.ec i hi).mro
  show PySem.W.mroIn K (cs i) b = _
  unfold PySem.W.mroIn
  rw [hc, Option.bind_some, hm]
  rfl
theorem Kit.kit (k : Kit K mg S cs) {i j : Nat} (hi : i < 29) (hj : j < 29) : PySem.W.kitOne K (.ref (cs i)) (.ref (cs j)) = some (decide (i = j)) := by
  unfold PySem.W.kitOne
  by_cases e : i = j
  · subst e
    rw [if_pos (beq_self_eq_true _), decide_eq_true rfl]
  · have ne : cs i ≠ cs j := fun z => e (k.inj i j hi hj z)
    have nS : cs j ≠ S := k.ns j hj
    rw [if_neg (by simpa using ne), decide_eq_false e]
    obtain ⟨cd, hc, _⟩ := (k.ec j hj).mro
    show (if ((PySem.W.clsIn K (cs j)).isSome && PySem.W.typeIn K (.ref (cs j)) == some (.type "type")) = true then PySem.W.subIn K (.ref (cs i)) (.ref (cs j)) else none) = some false
    rw [if_pos (by rw [hc, (k.ec j hj).ty]; rfl), k.sub hi]
    refine congrArg some ?_
    rw [Bool.eq_false_iff]
    intro z
    have z := List.contains_iff_mem.mp z
    simp only [List.mem_cons, List.not_mem_nil, or_false, Value.ref.injEq, reduceCtorEq] at z
    rcases z with z | z
    · exact ne z.symm
    · exact nS z
theorem Kit.kitS (k : Kit K mg S cs) {i : Nat} (hi : i < 29) : PySem.W.kitOne K (.ref (cs i)) (.ref S) = some true := by
  unfold PySem.W.kitOne
  rw [if_neg (by simpa using k.ns i hi)]
  show (if ((PySem.W.clsIn K S).isSome && PySem.W.typeIn K (.ref S) == some (.type "type")) = true then PySem.W.subIn K (.ref (cs i)) (.ref S) else none) = some true
  rw [if_pos (by rw [k.clS, k.tyS]; rfl), k.sub hi]
  refine congrArg some (List.contains_iff_mem.mpr ?_)
  simp
theorem Kit.kitV (k : Kit K mg S cs) {i : Nat} (hi : i < 29) : PySem.W.kitOne K (.ref (cs i)) (.type "ValueError") = some true := by
  unfold PySem.W.kitOne
  rw [if_neg (by simp)]
  show (if PySem.W.kitMeta "ValueError" = true then PySem.W.subIn K (.ref (cs i)) (.type "ValueError") else none) = some true
  rw [if_pos (by decide +kernel), k.sub hi]
  refine congrArg some (List.contains_iff_mem.mpr ?_)
  simp
end
section
variable {P : Program} {w : World} {K : PySem.W.Frag} {mg : Str → Option Value} {base : Heap} {S : Addr} {cs : Nat → Addr}
def kinds (i lo n : Nat) : List V := (List.range n).map fun j => V.bl (decide (i = lo + j))
def spKinds (cs : Nat → Addr) (lo n : Nat) : Sp := fun vs H Q _ => ∃ a i o, vs = [.ref a] ∧ i < 29 ∧ ErrAt H a (cs i) o ∧ ∀ p H', Same H H' → H p = none → H' p = some (.lst (kinds i lo n)) → Q (.ref p) H'

theorem back {H H' : Hp} (s : Same H H') {t : Addr} (h : H' t = none) : H t = none := by
  cases z : H t with
  | none => rfl
  | some o =>
    rw [s _ _ z] at h
    cases h

theorem scCellKinds : FnScope ["_law_e", "_law_kinds"] ["_law_e"] (defScope lCellKinds) := ⟨rfl, rfl, rfl, by decide +kernel, rfl, by decide +kernel, by decide +kernel⟩
theorem okCellKinds {f : Addr} {fd : FuncData} (F : Fun K "_law_cell_kinds" "_law_cell_kinds" lCellKinds f fd) (Z : Kit K mg S cs) : FnOk P w K mg base CX0 1 f fd ["_law_e"] (spKinds cs 0 10) := by
  refine F.ok scCellKinds (fun vs H Q E h => ?_) (fun cdv A outer s H vs Q E hr h => ?_)
  · obtain ⟨a, i, o, rfl, _⟩ := h
    rfl
  · obtain ⟨a, i, o, rfl, hi, he, k⟩ := h
    refine ⟨_, pss_cons (ps_set (i := 1) scCellKinds.nd rfl (.inl rfl) (pe_lst (pa_cons (pe_callB call_isErr (by rfl) Z.isi (by decide +kernel) (pa_cons (pv 0) (pa_cons (pe_glob (v := .ref (cs 0)) (by rfl) (Z.gl 0 (by decide)) rfl) pa_nil))) (pa_cons (pe_callB call_isErr (by rfl) Z.isi (by decide +kernel) (pa_cons (pv 0) (pa_cons (pe_glob (v := .ref (cs 1)) (by rfl) (Z.gl 1 (by decide)) rfl) pa_nil))) (pa_cons (pe_callB call_isErr (by rfl) Z.isi (by decide +kernel) (pa_cons (pv 0) (pa_cons (pe_glob (v := .ref (cs 2)) (by rfl) (Z.gl 2 (by decide)) rfl) pa_nil))) (pa_cons (pe_callB call_isErr (by rfl) Z.isi (by decide +kernel) (pa_cons (pv 0) (pa_cons (pe_glob (v := .ref (cs 3)) (by rfl) (Z.gl 3 (by decide)) rfl) pa_nil))) pa_nil))))))
      (pss_cons (ps_set (i := 1) scCellKinds.nd rfl (.inl rfl) (pe_op op_cat (pv 1) (pe_lst (pa_cons (pe_callB call_isErr (by rfl) Z.isi (by decide +kernel) (pa_cons (pv 0) (pa_cons (pe_glob (v := .ref (cs 4)) (by rfl) (Z.gl 4 (by decide)) rfl) pa_nil))) (pa_cons (pe_callB call_isErr (by rfl) Z.isi (by decide +kernel) (pa_cons (pv 0) (pa_cons (pe_glob (v := .ref (cs 5)) (by rfl) (Z.gl 5 (by decide)) rfl) pa_nil))) (pa_cons (pe_callB call_isErr (by rfl) Z.isi (by decide +kernel) (pa_cons (pv 0) (pa_cons (pe_glob (v := .ref (cs 6)) (by rfl) (Z.gl 6 (by decide)) rfl) pa_nil))) pa_nil))))))
      (pss_one (ps_ret (pe_op op_cat (pv 1) (pe_lst (pa_cons (pe_callB call_isErr (by rfl) Z.isi (by decide +kernel) (pa_cons (pv 0) (pa_cons (pe_glob (v := .ref (cs 7)) (by rfl) (Z.gl 7 (by decide)) rfl) pa_nil))) (pa_cons (pe_callB call_isErr (by rfl) Z.isi (by decide +kernel) (pa_cons (pv 0) (pa_cons (pe_glob (v := .ref (cs 8)) (by rfl) (Z.gl 8 (by decide)) rfl) pa_nil))) (pa_cons (pe_callB call_isErr (by rfl) Z.isi (by decide +kernel) (pa_cons (pv 0) (pa_cons (pe_glob (v := .ref (cs 9)) (by rfl) (Z.gl 9 (by decide)) rfl) pa_nil))) pa_nil)))))))), ?_⟩
    refine ⟨_, rfl, a, cs i, o, .ref (cs 0), .ref (cs 0), _, rfl, he, Z.ec i hi |>.er, fun u z => z, Z.kit hi (j := 0) (by decide), ?_⟩
    refine ⟨_, rfl, a, cs i, o, .ref (cs 1), .ref (cs 1), _, rfl, he, Z.ec i hi |>.er, fun u z => z, Z.kit hi (j := 1) (by decide), ?_⟩
    refine ⟨_, rfl, a, cs i, o, .ref (cs 2), .ref (cs 2), _, rfl, he, Z.ec i hi |>.er, fun u z => z, Z.kit hi (j := 2) (by decide), ?_⟩
    refine ⟨_, rfl, a, cs i, o, .ref (cs 3), .ref (cs 3), _, rfl, he, Z.ec i hi |>.er, fun u z => z, Z.kit hi (j := 3) (by decide), ?_⟩
    refine ⟨(by show 4 ≤ sizeLine; decide), fun p0 n0 => ?_⟩
    have s0 := same_upd (o := .lst ([.bl (decide (i = 0)), .bl (decide (i = 1)), .bl (decide (i = 2)), .bl (decide (i = 3))])) n0
    have h0 : (upd H p0 (.lst ([.bl (decide (i = 0)), .bl (decide (i = 1)), .bl (decide (i = 2)), .bl (decide (i = 3))]))) p0 = some (.lst ([.bl (decide (i = 0)), .bl (decide (i = 1)), .bl (decide (i = 2)), .bl (decide (i = 3))])) := upd_same
    generalize upd H p0 (.lst ([.bl (decide (i = 0)), .bl (decide (i = 1)), .bl (decide (i = 2)), .bl (decide (i = 3))])) = G0 at s0 h0
    have e1 := he.same s0
    refine ⟨_, rfl, ?_⟩
    refine ⟨_, rfl, a, cs i, o, .ref (cs 4), .ref (cs 4), _, rfl, e1, Z.ec i hi |>.er, fun u z => z, Z.kit hi (j := 4) (by decide), ?_⟩
    refine ⟨_, rfl, a, cs i, o, .ref (cs 5), .ref (cs 5), _, rfl, e1, Z.ec i hi |>.er, fun u z => z, Z.kit hi (j := 5) (by decide), ?_⟩
    refine ⟨_, rfl, a, cs i, o, .ref (cs 6), .ref (cs 6), _, rfl, e1, Z.ec i hi |>.er, fun u z => z, Z.kit hi (j := 6) (by decide), ?_⟩
    refine ⟨(by show 3 ≤ sizeLine; decide), fun q1 m1 => ?_⟩
    have t1 := same_upd (o := .lst ([.bl (decide (i = 4)), .bl (decide (i = 5)), .bl (decide (i = 6))])) m1
    refine ⟨p0, q1, _, _, rfl, rfl, t1 _ _ h0, upd_same, (by show 4 + 3 ≤ sizeLine; decide), fun p1 n1 => ?_⟩
    have s1 : Same H (upd (upd G0 q1 (.lst ([.bl (decide (i = 4)), .bl (decide (i = 5)), .bl (decide (i = 6))]))) p1 (.lst ([.bl (decide (i = 0)), .bl (decide (i = 1)), .bl (decide (i = 2)), .bl (decide (i = 3))] ++ [.bl (decide (i = 4)), .bl (decide (i = 5)), .bl (decide (i = 6))]))) := (s0.trans t1).trans (same_upd n1)
    have h1 : (upd (upd G0 q1 (.lst ([.bl (decide (i = 4)), .bl (decide (i = 5)), .bl (decide (i = 6))]))) p1 (.lst ([.bl (decide (i = 0)), .bl (decide (i = 1)), .bl (decide (i = 2)), .bl (decide (i = 3))] ++ [.bl (decide (i = 4)), .bl (decide (i = 5)), .bl (decide (i = 6))]))) p1 = some (.lst ([.bl (decide (i = 0)), .bl (decide (i = 1)), .bl (decide (i = 2)), .bl (decide (i = 3)), .bl (decide (i = 4)), .bl (decide (i = 5)), .bl (decide (i = 6))])) := upd_same
    have b1 : H p1 = none := back (s0.trans t1) n1
    generalize (upd (upd G0 q1 (.lst ([.bl (decide (i = 4)), .bl (decide (i = 5)), .bl (decide (i = 6))]))) p1 (.lst ([.bl (decide (i = 0)), .bl (decide (i = 1)), .bl (decide (i = 2)), .bl (decide (i = 3))] ++ [.bl (decide (i = 4)), .bl (decide (i = 5)), .bl (decide (i = 6))]))) = G1 at s1 h1
    have e2 := he.same s1
    refine ⟨_, rfl, ?_⟩
    refine ⟨_, rfl, a, cs i, o, .ref (cs 7), .ref (cs 7), _, rfl, e2, Z.ec i hi |>.er, fun u z => z, Z.kit hi (j := 7) (by decide), ?_⟩
    refine ⟨_, rfl, a, cs i, o, .ref (cs 8), .ref (cs 8), _, rfl, e2, Z.ec i hi |>.er, fun u z => z, Z.kit hi (j := 8) (by decide), ?_⟩
    refine ⟨_, rfl, a, cs i, o, .ref (cs 9), .ref (cs 9), _, rfl, e2, Z.ec i hi |>.er, fun u z => z, Z.kit hi (j := 9) (by decide), ?_⟩
    refine ⟨(by show 3 ≤ sizeLine; decide), fun q2 m2 => ?_⟩
    have t2 := same_upd (o := .lst ([.bl (decide (i = 7)), .bl (decide (i = 8)), .bl (decide (i = 9))])) m2
    refine ⟨p1, q2, _, _, rfl, rfl, t2 _ _ h1, upd_same, (by show 7 + 3 ≤ sizeLine; decide), fun p2 n2 => ?_⟩
    have s2 : Same H (upd (upd G1 q2 (.lst ([.bl (decide (i = 7)), .bl (decide (i = 8)), .bl (decide (i = 9))]))) p2 (.lst ([.bl (decide (i = 0)), .bl (decide (i = 1)), .bl (decide (i = 2)), .bl (decide (i = 3)), .bl (decide (i = 4)), .bl (decide (i = 5)), .bl (decide (i = 6))] ++ [.bl (decide (i = 7)), .bl (decide (i = 8)), .bl (decide (i = 9))]))) := (s1.trans t2).trans (same_upd n2)
    have h2 : (upd (upd G1 q2 (.lst ([.bl (decide (i = 7)), .bl (decide (i = 8)), .bl (decide (i = 9))]))) p2 (.lst ([.bl (decide (i = 0)), .bl (decide (i = 1)), .bl (decide (i = 2)), .bl (decide (i = 3)), .bl (decide (i = 4)), .bl (decide (i = 5)), .bl (decide (i = 6))] ++ [.bl (decide (i = 7)), .bl (decide (i = 8)), .bl (decide (i = 9))]))) p2 = some (.lst ([.bl (decide (i = 0)), .bl (decide (i = 1)), .bl (decide (i = 2)), .bl (decide (i = 3)), .bl (decide (i = 4)), .bl (decide (i = 5)), .bl (decide (i = 6)), .bl (decide (i = 7)), .bl (decide (i = 8)), .bl (decide (i = 9))])) := upd_same
    have b2 : H p2 = none := back (s1.trans t2) n2
    exact k p2 _ s2 b2 h2

theorem scOtherKinds : FnScope ["_law_e", "_law_kinds"] ["_law_e"] (defScope lOtherKinds) := ⟨rfl, rfl, rfl, by decide +kernel, rfl, by decide +kernel, by decide +kernel⟩
theorem okOtherKinds {f : Addr} {fd : FuncData} (F : Fun K "_law_other_kinds" "_law_other_kinds" lOtherKinds f fd) (Z : Kit K mg S cs) : FnOk P w K mg base CX0 1 f fd ["_law_e"] (spKinds cs 10 19) := by
  refine F.ok scOtherKinds (fun vs H Q E h => ?_) (fun cdv A outer s H vs Q E hr h => ?_)
  · obtain ⟨a, i, o, rfl, _⟩ := h
    rfl
  · obtain ⟨a, i, o, rfl, hi, he, k⟩ := h
    refine ⟨_, pss_cons (ps_set (i := 1) scOtherKinds.nd rfl (.inl rfl) (pe_lst (pa_cons (pe_callB call_isErr (by rfl) Z.isi (by decide +kernel) (pa_cons (pv 0) (pa_cons (pe_glob (v := .ref (cs 10)) (by rfl) (Z.gl 10 (by decide)) rfl) pa_nil))) (pa_cons (pe_callB call_isErr (by rfl) Z.isi (by decide +kernel) (pa_cons (pv 0) (pa_cons (pe_glob (v := .ref (cs 11)) (by rfl) (Z.gl 11 (by decide)) rfl) pa_nil))) (pa_cons (pe_callB call_isErr (by rfl) Z.isi (by decide +kernel) (pa_cons (pv 0) (pa_cons (pe_glob (v := .ref (cs 12)) (by rfl) (Z.gl 12 (by decide)) rfl) pa_nil))) pa_nil)))))
      (pss_cons (ps_set (i := 1) scOtherKinds.nd rfl (.inl rfl) (pe_op op_cat (pv 1) (pe_lst (pa_cons (pe_callB call_isErr (by rfl) Z.isi (by decide +kernel) (pa_cons (pv 0) (pa_cons (pe_glob (v := .ref (cs 13)) (by rfl) (Z.gl 13 (by decide)) rfl) pa_nil))) (pa_cons (pe_callB call_isErr (by rfl) Z.isi (by decide +kernel) (pa_cons (pv 0) (pa_cons (pe_glob (v := .ref (cs 14)) (by rfl) (Z.gl 14 (by decide)) rfl) pa_nil))) (pa_cons (pe_callB call_isErr (by rfl) Z.isi (by decide +kernel) (pa_cons (pv 0) (pa_cons (pe_glob (v := .ref (cs 15)) (by rfl) (Z.gl 15 (by decide)) rfl) pa_nil))) pa_nil))))))
      (pss_cons (ps_set (i := 1) scOtherKinds.nd rfl (.inl rfl) (pe_op op_cat (pv 1) (pe_lst (pa_cons (pe_callB call_isErr (by rfl) Z.isi (by decide +kernel) (pa_cons (pv 0) (pa_cons (pe_glob (v := .ref (cs 16)) (by rfl) (Z.gl 16 (by decide)) rfl) pa_nil))) (pa_cons (pe_callB call_isErr (by rfl) Z.isi (by decide +kernel) (pa_cons (pv 0) (pa_cons (pe_glob (v := .ref (cs 17)) (by rfl) (Z.gl 17 (by decide)) rfl) pa_nil))) (pa_cons (pe_callB call_isErr (by rfl) Z.isi (by decide +kernel) (pa_cons (pv 0) (pa_cons (pe_glob (v := .ref (cs 18)) (by rfl) (Z.gl 18 (by decide)) rfl) pa_nil))) pa_nil))))))
      (pss_cons (ps_set (i := 1) scOtherKinds.nd rfl (.inl rfl) (pe_op op_cat (pv 1) (pe_lst (pa_cons (pe_callB call_isErr (by rfl) Z.isi (by decide +kernel) (pa_cons (pv 0) (pa_cons (pe_glob (v := .ref (cs 19)) (by rfl) (Z.gl 19 (by decide)) rfl) pa_nil))) (pa_cons (pe_callB call_isErr (by rfl) Z.isi (by decide +kernel) (pa_cons (pv 0) (pa_cons (pe_glob (v := .ref (cs 20)) (by rfl) (Z.gl 20 (by decide)) rfl) pa_nil))) (pa_cons (pe_callB call_isErr (by rfl) Z.isi (by decide +kernel) (pa_cons (pv 0) (pa_cons (pe_glob (v := .ref (cs 21)) (by rfl) (Z.gl 21 (by decide)) rfl) pa_nil))) pa_nil))))))
      (pss_cons (ps_set (i := 1) scOtherKinds.nd rfl (.inl rfl) (pe_op op_cat (pv 1) (pe_lst (pa_cons (pe_callB call_isErr (by rfl) Z.isi (by decide +kernel) (pa_cons (pv 0) (pa_cons (pe_glob (v := .ref (cs 22)) (by rfl) (Z.gl 22 (by decide)) rfl) pa_nil))) (pa_cons (pe_callB call_isErr (by rfl) Z.isi (by decide +kernel) (pa_cons (pv 0) (pa_cons (pe_glob (v := .ref (cs 23)) (by rfl) (Z.gl 23 (by decide)) rfl) pa_nil))) (pa_cons (pe_callB call_isErr (by rfl) Z.isi (by decide +kernel) (pa_cons (pv 0) (pa_cons (pe_glob (v := .ref (cs 24)) (by rfl) (Z.gl 24 (by decide)) rfl) pa_nil))) pa_nil))))))
      (pss_cons (ps_set (i := 1) scOtherKinds.nd rfl (.inl rfl) (pe_op op_cat (pv 1) (pe_lst (pa_cons (pe_callB call_isErr (by rfl) Z.isi (by decide +kernel) (pa_cons (pv 0) (pa_cons (pe_glob (v := .ref (cs 25)) (by rfl) (Z.gl 25 (by decide)) rfl) pa_nil))) (pa_cons (pe_callB call_isErr (by rfl) Z.isi (by decide +kernel) (pa_cons (pv 0) (pa_cons (pe_glob (v := .ref (cs 26)) (by rfl) (Z.gl 26 (by decide)) rfl) pa_nil))) (pa_cons (pe_callB call_isErr (by rfl) Z.isi (by decide +kernel) (pa_cons (pv 0) (pa_cons (pe_glob (v := .ref (cs 27)) (by rfl) (Z.gl 27 (by decide)) rfl) pa_nil))) pa_nil))))))
      (pss_one (ps_ret (pe_op op_cat (pv 1) (pe_lst (pa_cons (pe_callB call_isErr (by rfl) Z.isi (by decide +kernel) (pa_cons (pv 0) (pa_cons (pe_glob (v := .ref (cs 28)) (by rfl) (Z.gl 28 (by decide)) rfl) pa_nil))) pa_nil)))))))))), ?_⟩
    refine ⟨_, rfl, a, cs i, o, .ref (cs 10), .ref (cs 10), _, rfl, he, Z.ec i hi |>.er, fun u z => z, Z.kit hi (j := 10) (by decide), ?_⟩
    refine ⟨_, rfl, a, cs i, o, .ref (cs 11), .ref (cs 11), _, rfl, he, Z.ec i hi |>.er, fun u z => z, Z.kit hi (j := 11) (by decide), ?_⟩
    refine ⟨_, rfl, a, cs i, o, .ref (cs 12), .ref (cs 12), _, rfl, he, Z.ec i hi |>.er, fun u z => z, Z.kit hi (j := 12) (by decide), ?_⟩
    refine ⟨(by show 3 ≤ sizeLine; decide), fun p0 n0 => ?_⟩
    have s0 := same_upd (o := .lst ([.bl (decide (i = 10)), .bl (decide (i = 11)), .bl (decide (i = 12))])) n0
    have h0 : (upd H p0 (.lst ([.bl (decide (i = 10)), .bl (decide (i = 11)), .bl (decide (i = 12))]))) p0 = some (.lst ([.bl (decide (i = 10)), .bl (decide (i = 11)), .bl (decide (i = 12))])) := upd_same
    generalize upd H p0 (.lst ([.bl (decide (i = 10)), .bl (decide (i = 11)), .bl (decide (i = 12))])) = G0 at s0 h0
    have e1 := he.same s0
    refine ⟨_, rfl, ?_⟩
    refine ⟨_, rfl, a, cs i, o, .ref (cs 13), .ref (cs 13), _, rfl, e1, Z.ec i hi |>.er, fun u z => z, Z.kit hi (j := 13) (by decide), ?_⟩
    refine ⟨_, rfl, a, cs i, o, .ref (cs 14), .ref (cs 14), _, rfl, e1, Z.ec i hi |>.er, fun u z => z, Z.kit hi (j := 14) (by decide), ?_⟩
    refine ⟨_, rfl, a, cs i, o, .ref (cs 15), .ref (cs 15), _, rfl, e1, Z.ec i hi |>.er, fun u z => z, Z.kit hi (j := 15) (by decide), ?_⟩
    refine ⟨(by show 3 ≤ sizeLine; decide), fun q1 m1 => ?_⟩
    have t1 := same_upd (o := .lst ([.bl (decide (i = 13)), .bl (decide (i = 14)), .bl (decide (i = 15))])) m1
    refine ⟨p0, q1, _, _, rfl, rfl, t1 _ _ h0, upd_same, (by show 3 + 3 ≤ sizeLine; decide), fun p1 n1 => ?_⟩
    have s1 : Same H (upd (upd G0 q1 (.lst ([.bl (decide (i = 13)), .bl (decide (i = 14)), .bl (decide (i = 15))]))) p1 (.lst ([.bl (decide (i = 10)), .bl (decide (i = 11)), .bl (decide (i = 12))] ++ [.bl (decide (i = 13)), .bl (decide (i = 14)), .bl (decide (i = 15))]))) := (s0.trans t1).trans (same_upd n1)
    have h1 : (upd (upd G0 q1 (.lst ([.bl (decide (i = 13)), .bl (decide (i = 14)), .bl (decide (i = 15))]))) p1 (.lst ([.bl (decide (i = 10)), .bl (decide (i = 11)), .bl (decide (i = 12))] ++ [.bl (decide (i = 13)), .bl (decide (i = 14)), .bl (decide (i = 15))]))) p1 = some (.lst ([.bl (decide (i = 10)), .bl (decide (i = 11)), .bl (decide (i = 12)), .bl (decide (i = 13)), .bl (decide (i = 14)), .bl (decide (i = 15))])) := upd_same
    have b1 : H p1 = none := back (s0.trans t1) n1
    generalize (upd (upd G0 q1 (.lst ([.bl (decide (i = 13)), .bl (decide (i = 14)), .bl (decide (i = 15))]))) p1 (.lst ([.bl (decide (i = 10)), .bl (decide (i = 11)), .bl (decide (i = 12))] ++ [.bl (decide (i = 13)), .bl (decide (i = 14)), .bl (decide (i = 15))]))) = G1 at s1 h1
    have e2 := he.same s1
    refine ⟨_, rfl, ?_⟩
    refine ⟨_, rfl, a, cs i, o, .ref (cs 16), .ref (cs 16), _, rfl, e2, Z.ec i hi |>.er, fun u z => z, Z.kit hi (j := 16) (by decide), ?_⟩
    refine ⟨_, rfl, a, cs i, o, .ref (cs 17), .ref (cs 17), _, rfl, e2, Z.ec i hi |>.er, fun u z => z, Z.kit hi (j := 17) (by decide), ?_⟩
    refine ⟨_, rfl, a, cs i, o, .ref (cs 18), .ref (cs 18), _, rfl, e2, Z.ec i hi |>.er, fun u z => z, Z.kit hi (j := 18) (by decide), ?_⟩
    refine ⟨(by show 3 ≤ sizeLine; decide), fun q2 m2 => ?_⟩
    have t2 := same_upd (o := .lst ([.bl (decide (i = 16)), .bl (decide (i = 17)), .bl (decide (i = 18))])) m2
    refine ⟨p1, q2, _, _, rfl, rfl, t2 _ _ h1, upd_same, (by show 6 + 3 ≤ sizeLine; decide), fun p2 n2 => ?_⟩
    have s2 : Same H (upd (upd G1 q2 (.lst ([.bl (decide (i = 16)), .bl (decide (i = 17)), .bl (decide (i = 18))]))) p2 (.lst ([.bl (decide (i = 10)), .bl (decide (i = 11)), .bl (decide (i = 12)), .bl (decide (i = 13)), .bl (decide (i = 14)), .bl (decide (i = 15))] ++ [.bl (decide (i = 16)), .bl (decide (i = 17)), .bl (decide (i = 18))]))) := (s1.trans t2).trans (same_upd n2)
    have h2 : (upd (upd G1 q2 (.lst ([.bl (decide (i = 16)), .bl (decide (i = 17)), .bl (decide (i = 18))]))) p2 (.lst ([.bl (decide (i = 10)), .bl (decide (i = 11)), .bl (decide (i = 12)), .bl (decide (i = 13)), .bl (decide (i = 14)), .bl (decide (i = 15))] ++ [.bl (decide (i = 16)), .bl (decide (i = 17)), .bl (decide (i = 18))]))) p2 = some (.lst ([.bl (decide (i = 10)), .bl (decide (i = 11)), .bl (decide (i = 12)), .bl (decide (i = 13)), .bl (decide (i = 14)), .bl (decide (i = 15)), .bl (decide (i = 16)), .bl (decide (i = 17)), .bl (decide (i = 18))])) := upd_same
    have b2 : H p2 = none := back (s1.trans t2) n2
    generalize (upd (upd G1 q2 (.lst ([.bl (decide (i = 16)), .bl (decide (i = 17)), .bl (decide (i = 18))]))) p2 (.lst ([.bl (decide (i = 10)), .bl (decide (i = 11)), .bl (decide (i = 12)), .bl (decide (i = 13)), .bl (decide (i = 14)), .bl (decide (i = 15))] ++ [.bl (decide (i = 16)), .bl (decide (i = 17)), .bl (decide (i = 18))]))) = G2 at s2 h2
    have e3 := he.same s2
    refine ⟨_, rfl, ?_⟩
    refine ⟨_, rfl, a, cs i, o, .ref (cs 19), .ref (cs 19), _, rfl, e3, Z.ec i hi |>.er, fun u z => z, Z.kit hi (j := 19) (by decide), ?_⟩
    refine ⟨_, rfl, a, cs i, o, .ref (cs 20), .ref (cs 20), _, rfl, e3, Z.ec i hi |>.er, fun u z => z, Z.kit hi (j := 20) (by decide), ?_⟩
    refine ⟨_, rfl, a, cs i, o, .ref (cs 21), .ref (cs 21), _, rfl, e3, Z.ec i hi |>.er, fun u z => z, Z.kit hi (j := 21) (by decide), ?_⟩
    refine ⟨(by show 3 ≤ sizeLine; decide), fun q3 m3 => ?_⟩
    have t3 := same_upd (o := .lst ([.bl (decide (i = 19)), .bl (decide (i = 20)), .bl (decide (i = 21))])) m3
    refine ⟨p2, q3, _, _, rfl, rfl, t3 _ _ h2, upd_same, (by show 9 + 3 ≤ sizeLine; decide), fun p3 n3 => ?_⟩
    have s3 : Same H (upd (upd G2 q3 (.lst ([.bl (decide (i = 19)), .bl (decide (i = 20)), .bl (decide (i = 21))]))) p3 (.lst ([.bl (decide (i = 10)), .bl (decide (i = 11)), .bl (decide (i = 12)), .bl (decide (i = 13)), .bl (decide (i = 14)), .bl (decide (i = 15)), .bl (decide (i = 16)), .bl (decide (i = 17)), .bl (decide (i = 18))] ++ [.bl (decide (i = 19)), .bl (decide (i = 20)), .bl (decide (i = 21))]))) := (s2.trans t3).trans (same_upd n3)
    have h3 : (upd (upd G2 q3 (.lst ([.bl (decide (i = 19)), .bl (decide (i = 20)), .bl (decide (i = 21))]))) p3 (.lst ([.bl (decide (i = 10)), .bl (decide (i = 11)), .bl (decide (i = 12)), .bl (decide (i = 13)), .bl (decide (i = 14)), .bl (decide (i = 15)), .bl (decide (i = 16)), .bl (decide (i = 17)), .bl (decide (i = 18))] ++ [.bl (decide (i = 19)), .bl (decide (i = 20)), .bl (decide (i = 21))]))) p3 = some (.lst ([.bl (decide (i = 10)), .bl (decide (i = 11)), .bl (decide (i = 12)), .bl (decide (i = 13)), .bl (decide (i = 14)), .bl (decide (i = 15)), .bl (decide (i = 16)), .bl (decide (i = 17)), .bl (decide (i = 18)), .bl (decide (i = 19)), .bl (decide (i = 20)), .bl (decide (i = 21))])) := upd_same
    have b3 : H p3 = none := back (s2.trans t3) n3
    generalize (upd (upd G2 q3 (.lst ([.bl (decide (i = 19)), .bl (decide (i = 20)), .bl (decide (i = 21))]))) p3 (.lst ([.bl (decide (i = 10)), .bl (decide (i = 11)), .bl (decide (i = 12)), .bl (decide (i = 13)), .bl (decide (i = 14)), .bl (decide (i = 15)), .bl (decide (i = 16)), .bl (decide (i = 17)), .bl (decide (i = 18))] ++ [.bl (decide (i = 19)), .bl (decide (i = 20)), .bl (decide (i = 21))]))) = G3 at s3 h3
    have e4 := he.same s3
    refine ⟨_, rfl, ?_⟩
    refine ⟨_, rfl, a, cs i, o, .ref (cs 22), .ref (cs 22), _, rfl, e4, Z.ec i hi |>.er, fun u z => z, Z.kit hi (j := 22) (by decide), ?_⟩
    refine ⟨_, rfl, a, cs i, o, .ref (cs 23), .ref (cs 23), _, rfl, e4, Z.ec i hi |>.er, fun u z => z, Z.kit hi (j := 23) (by decide), ?_⟩
    refine ⟨_, rfl, a, cs i, o, .ref (cs 24), .ref (cs 24), _, rfl, e4, Z.ec i hi |>.er, fun u z => z, Z.kit hi (j := 24) (by decide), ?_⟩
    refine ⟨(by show 3 ≤ sizeLine; decide), fun q4 m4 => ?_⟩
    have t4 := same_upd (o := .lst ([.bl (decide (i = 22)), .bl (decide (i = 23)), .bl (decide (i = 24))])) m4
    refine ⟨p3, q4, _, _, rfl, rfl, t4 _ _ h3, upd_same, (by show 12 + 3 ≤ sizeLine; decide), fun p4 n4 => ?_⟩
    have s4 : Same H (upd (upd G3 q4 (.lst ([.bl (decide (i = 22)), .bl (decide (i = 23)), .bl (decide (i = 24))]))) p4 (.lst ([.bl (decide (i = 10)), .bl (decide (i = 11)), .bl (decide (i = 12)), .bl (decide (i = 13)), .bl (decide (i = 14)), .bl (decide (i = 15)), .bl (decide (i = 16)), .bl (decide (i = 17)), .bl (decide (i = 18)), .bl (decide (i = 19)), .bl (decide (i = 20)), .bl (decide (i = 21))] ++ [.bl (decide (i = 22)), .bl (decide (i = 23)), .bl (decide (i = 24))]))) := (s3.trans t4).trans (same_upd n4)
    have h4 : (upd (upd G3 q4 (.lst ([.bl (decide (i = 22)), .bl (decide (i = 23)), .bl (decide (i = 24))]))) p4 (.lst ([.bl (decide (i = 10)), .bl (decide (i = 11)), .bl (decide (i = 12)), .bl (decide (i = 13)), .bl (decide (i = 14)), .bl (decide (i = 15)), .bl (decide (i = 16)), .bl (decide (i = 17)), .bl (decide (i = 18)), .bl (decide (i = 19)), .bl (decide (i = 20)), .bl (decide (i = 21))] ++ [.bl (decide (i = 22)), .bl (decide (i = 23)), .bl (decide (i = 24))]))) p4 = some (.lst ([.bl (decide (i = 10)), .bl (decide (i = 11)), .bl (decide (i = 12)), .bl (decide (i = 13)), .bl (decide (i = 14)), .bl (decide (i = 15)), .bl (decide (i = 16)), .bl (decide (i = 17)), .bl (decide (i = 18)), .bl (decide (i = 19)), .bl (decide (i = 20)), .bl (decide (i = 21)), .bl (decide (i = 22)), .bl (decide (i = 23)), .bl (decide (i = 24))])) := upd_same
    have b4 : H p4 = none := back (s3.trans t4) n4
    generalize (upd (upd G3 q4 (.lst ([.bl (decide (i = 22)), .bl (decide (i = 23)), .bl (decide (i = 24))]))) p4 (.lst ([.bl (decide (i = 10)), .bl (decide (i = 11)), .bl (decide (i = 12)), .bl (decide (i = 13)), .bl (decide (i = 14)), .bl (decide (i = 15)), .bl (decide (i = 16)), .bl (decide (i = 17)), .bl (decide (i = 18)), .bl (decide (i = 19)), .bl (decide (i = 20)), .bl (decide (i = 21))] ++ [.bl (decide (i = 22)), .bl (decide (i = 23)), .bl (decide (i = 24))]))) = G4 at s4 h4
    have e5 := he.same s4
    refine ⟨_, rfl, ?_⟩
    refine ⟨_, rfl, a, cs i, o, .ref (cs 25), .ref (cs 25), _, rfl, e5, Z.ec i hi |>.er, fun u z => z, Z.kit hi (j := 25) (by decide), ?_⟩
    refine ⟨_, rfl, a, cs i, o, .ref (cs 26), .ref (cs 26), _, rfl, e5, Z.ec i hi |>.er, fun u z => z, Z.kit hi (j := 26) (by decide), ?_⟩
    refine ⟨_, rfl, a, cs i, o, .ref (cs 27), .ref (cs 27), _, rfl, e5, Z.ec i hi |>.er, fun u z => z, Z.kit hi (j := 27) (by decide), ?_⟩
    refine ⟨(by show 3 ≤ sizeLine; decide), fun q5 m5 => ?_⟩
    have t5 := same_upd (o := .lst ([.bl (decide (i = 25)), .bl (decide (i = 26)), .bl (decide (i = 27))])) m5
    refine ⟨p4, q5, _, _, rfl, rfl, t5 _ _ h4, upd_same, (by show 15 + 3 ≤ sizeLine; decide), fun p5 n5 => ?_⟩
    have s5 : Same H (upd (upd G4 q5 (.lst ([.bl (decide (i = 25)), .bl (decide (i = 26)), .bl (decide (i = 27))]))) p5 (.lst ([.bl (decide (i = 10)), .bl (decide (i = 11)), .bl (decide (i = 12)), .bl (decide (i = 13)), .bl (decide (i = 14)), .bl (decide (i = 15)), .bl (decide (i = 16)), .bl (decide (i = 17)), .bl (decide (i = 18)), .bl (decide (i = 19)), .bl (decide (i = 20)), .bl (decide (i = 21)), .bl (decide (i = 22)), .bl (decide (i = 23)), .bl (decide (i = 24))] ++ [.bl (decide (i = 25)), .bl (decide (i = 26)), .bl (decide (i = 27))]))) := (s4.trans t5).trans (same_upd n5)
    have h5 : (upd (upd G4 q5 (.lst ([.bl (decide (i = 25)), .bl (decide (i = 26)), .bl (decide (i = 27))]))) p5 (.lst ([.bl (decide (i = 10)), .bl (decide (i = 11)), .bl (decide (i = 12)), .bl (decide (i = 13)), .bl (decide (i = 14)), .bl (decide (i = 15)), .bl (decide (i = 16)), .bl (decide (i = 17)), .bl (decide (i = 18)), .bl (decide (i = 19)), .bl (decide (i = 20)), .bl (decide (i = 21)), .bl (decide (i = 22)), .bl (decide (i = 23)), .bl (decide (i = 24))] ++ [.bl (decide (i = 25)), .bl (decide (i = 26)), .bl (decide (i = 27))]))) p5 = some (.lst ([.bl (decide (i = 10)), .bl (decide (i = 11)), .bl (decide (i = 12)), .bl (decide (i = 13)), .bl (decide (i = 14)), .bl (decide (i = 15)), .bl (decide (i = 16)), .bl (decide (i = 17)), .bl (decide (i = 18)), .bl (decide (i = 19)), .bl (decide (i = 20)), .bl (decide (i = 21)), .bl (decide (i = 22)), .bl (decide (i = 23)), .bl (decide (i = 24)), .bl (decide (i = 25)), .bl (decide (i = 26)), .bl (decide (i = 27))])) := upd_same
    have b5 : H p5 = none := back (s4.trans t5) n5
    generalize (upd (upd G4 q5 (.lst ([.bl (decide (i = 25)), .bl (decide (i = 26)), .bl (decide (i = 27))]))) p5 (.lst ([.bl (decide (i = 10)), .bl (decide (i = 11)), .bl (decide (i = 12)), .bl (decide (i = 13)), .bl (decide (i = 14)), .bl (decide (i = 15)), .bl (decide (i = 16)), .bl (decide (i = 17)), .bl (decide (i = 18)), .bl (decide (i = 19)), .bl (decide (i = 20)), .bl (decide (i = 21)), .bl (decide (i = 22)), .bl (decide (i = 23)), .bl (decide (i = 24))] ++ [.bl (decide (i = 25)), .bl (decide (i = 26)), .bl (decide (i = 27))]))) = G5 at s5 h5
    have e6 := he.same s5
    refine ⟨_, rfl, ?_⟩
    refine ⟨_, rfl, a, cs i, o, .ref (cs 28), .ref (cs 28), _, rfl, e6, Z.ec i hi |>.er, fun u z => z, Z.kit hi (j := 28) (by decide), ?_⟩
    refine ⟨(by show 1 ≤ sizeLine; decide), fun q6 m6 => ?_⟩
    have t6 := same_upd (o := .lst ([.bl (decide (i = 28))])) m6
    refine ⟨p5, q6, _, _, rfl, rfl, t6 _ _ h5, upd_same, (by show 18 + 1 ≤ sizeLine; decide), fun p6 n6 => ?_⟩
    have s6 : Same H (upd (upd G5 q6 (.lst ([.bl (decide (i = 28))]))) p6 (.lst ([.bl (decide (i = 10)), .bl (decide (i = 11)), .bl (decide (i = 12)), .bl (decide (i = 13)), .bl (decide (i = 14)), .bl (decide (i = 15)), .bl (decide (i = 16)), .bl (decide (i = 17)), .bl (decide (i = 18)), .bl (decide (i = 19)), .bl (decide (i = 20)), .bl (decide (i = 21)), .bl (decide (i = 22)), .bl (decide (i = 23)), .bl (decide (i = 24)), .bl (decide (i = 25)), .bl (decide (i = 26)), .bl (decide (i = 27))] ++ [.bl (decide (i = 28))]))) := (s5.trans t6).trans (same_upd n6)
    have h6 : (upd (upd G5 q6 (.lst ([.bl (decide (i = 28))]))) p6 (.lst ([.bl (decide (i = 10)), .bl (decide (i = 11)), .bl (decide (i = 12)), .bl (decide (i = 13)), .bl (decide (i = 14)), .bl (decide (i = 15)), .bl (decide (i = 16)), .bl (decide (i = 17)), .bl (decide (i = 18)), .bl (decide (i = 19)), .bl (decide (i = 20)), .bl (decide (i = 21)), .bl (decide (i = 22)), .bl (decide (i = 23)), .bl (decide (i = 24)), .bl (decide (i = 25)), .bl (decide (i = 26)), .bl (decide (i = 27))] ++ [.bl (decide (i = 28))]))) p6 = some (.lst ([.bl (decide (i = 10)), .bl (decide (i = 11)), .bl (decide (i = 12)), .bl (decide (i = 13)), .bl (decide (i = 14)), .bl (decide (i = 15)), .bl (decide (i = 16)), .bl (decide (i = 17)), .bl (decide (i = 18)), .bl (decide (i = 19)), .bl (decide (i = 20)), .bl (decide (i = 21)), .bl (decide (i = 22)), .bl (decide (i = 23)), .bl (decide (i = 24)), .bl (decide (i = 25)), .bl (decide (i = 26)), .bl (decide (i = 27)), .bl (decide (i = 28))])) := upd_same
    have b6 : H p6 = none := back (s5.trans t6) n6
    exact k p6 _ s6 b6 h6

end
end SmL
namespace SmL
open PySem PySem.Spec PyProof.Rows L2 Sm
structure Cl (P : Program) (w : World) (K : PySem.W.Frag) (mg : Str → Option Value) (base : Heap) (k : Nat) (name : Str) (ps : List Str) (sp : Sp) (f : Addr) (fd : FuncData) : Prop where
  ok : FnOk P w K mg base CX0 k f fd ps sp
  kp : PySem.W.keepIn K (.ref f) = true
  bd : Binds K fd ps []
  gl : mg name = some (.ref f)
theorem iteFe {b : Bool} {p q : Prop} (h : b = false) (z : q) : if b = true then p else q := by
  subst h
  exact iteF z
section
variable {P : Program} {w : World} {K : PySem.W.Frag} {mg : Str → Option Value} {base : Heap} {S : Addr} {cs : Nat → Addr}
theorem kinds_cat (i : Nat) : kinds i 0 10 ++ kinds i 10 19 = kinds i 0 29 := by
  unfold kinds
  rfl
theorem kinds_at {i j : Nat} (h : j < 29) : (kinds i 0 29)[j]? = some (V.bl (decide (i = j))) := by
  unfold kinds
  rw [List.getElem?_map, List.getElem?_range h]
  show some (V.bl (decide (i = 0 + j))) = _
  rw [Nat.zero_add]
def spIsKind (cs : Nat → Addr) : Sp := fun vs H Q _ => ∃ a i o, vs = [.ref a, .int ((i : Nat) : Int)] ∧ i < 29 ∧ ErrAt H a (cs i) o ∧ ∀ H', Same H H' → Q (.bl true) H'
theorem scIsKind : FnScope ["_law_e", "_law_at", "_law_kinds", "_law_k"] ["_law_e", "_law_at"] (defScope lIsKind) := ⟨rfl, rfl, rfl, by decide +kernel, rfl, by decide +kernel, by decide +kernel⟩
theorem ok_iskind {f g h : Addr} {fd gd hd : FuncData} (F : Fun K "_law_is_kind" "_law_is_kind" lIsKind f fd) (Z : Kit K mg S cs) (cG : Cl P w K mg base 1 "_law_cell_kinds" ["_law_e"] (spKinds cs 0 10) g gd) (cH : Cl P w K mg base 1 "_law_other_kinds" ["_law_e"] (spKinds cs 10 19) h hd) (ml : mg "len" = none) (mr : mg "range" = none) :
    FnOk P w K mg base CX0 2 f fd ["_law_e", "_law_at"] (spIsKind cs) := by
  refine F.ok scIsKind (fun vs H Q E h => ?_) (fun cdv A outer s H vs Q E hr h => ?_)
  · obtain ⟨a, i, o, rfl, _⟩ := h
    rfl
  · obtain ⟨a, i, o, rfl, hi, he, k⟩ := h
    refine ⟨_, pss_cons (ps_set (i := 2) scIsKind.nd rfl (.inl rfl) (pe_op op_cat (pe_call cG.ok hr (by rfl) cG.gl cG.kp cG.bd .nil pass0 (pa_cons (pv 0) pa_nil)) (pe_call cH.ok hr (by rfl) cH.gl cH.kp cH.bd .nil pass0 (pa_cons (pv 0) pa_nil))))
      (pss_cons (ps_for PassesOwn.never rfl (pi_range1 (by rfl) mr (pa_cons (pe_callB call_len_seq (by rfl) ml PySem.boot_len (pa_cons (pv 2) pa_nil)) pa_nil)) (pg_name (i := 3) scIsKind.nd rfl (.inl rfl))
        (pss_one (ps_if (pt_cmpR op_ne (pe_ix ix_list (pv 2) (pv 3) (fun _ _ => rfl)) (pe_cmpR op_eq (pv 3) (pv 1) (nomark _)) (nomark _)) (pss_one (ps_ret pe_bl)) pss_nil)))
      (pss_one (ps_ret (pe_and (pe_callB call_isErr (by rfl) Z.isi (by decide +kernel) (pa_cons (pv 0) (pa_cons (pe_glob (v := .ref S) (by rfl) Z.gS rfl) pa_nil)))
        (pe_one (pe_callB call_isErr (by rfl) Z.isi (by decide +kernel) (pa_cons (pv 0) (pa_cons (pe_bltn (v := .ty "ValueError") (by rfl) Z.mV (by decide +kernel) rfl) pa_nil)))))))), ?_⟩
    refine ⟨_, rfl, a, i, o, rfl, hi, he, fun p H1 s1 np hp => ?_⟩
    refine ⟨_, rfl, a, i, o, rfl, hi, he.same s1, fun q H2 s2 nq hq => ?_⟩
    refine ⟨p, q, _, _, rfl, rfl, s2 _ _ hp, hq, (by show 10 + 19 ≤ sizeLine; decide), fun j nj => ?_⟩
    have s3 : Same H (upd H2 j (.lst (kinds i 0 10 ++ kinds i 10 19))) := (s1.trans s2).trans (same_upd nj)
    have hj : (upd H2 j (.lst (kinds i 0 10 ++ kinds i 10 19))) j = some (.lst (kinds i 0 29)) := by rw [upd_same, kinds_cat]
    generalize upd H2 j (.lst (kinds i 0 10 ++ kinds i 10 19)) = G at s3 hj
    have lk : (kinds i 0 29).length = 29 := rfl
    refine ⟨_, rfl, j, _, rfl, .inl (SqL.of hj), ((29 : Nat) : Int), by rw [lk], by decide, by decide, for_range (lo := 0) (n := 29) (fun m σ G' => ∃ y, σ = [some (.ref a), some (.int (i : Int)), some (.ref j), y] ∧ G' = G) ⟨_, rfl, rfl⟩ ?_ ?_⟩
    · rintro m σ G' hm ⟨y, rfl, rfl⟩
      have hm2 : m < 29 := by omega
      have e0 : (0 : Int) + (m : Int) = (m : Int) := Int.zero_add _
      rw [e0]
      have e5 : (!decide (V.bl (decide (i = m)) = V.bl (decide (V.int (m : Int) = V.int (i : Int))))) = false := by
        have z : decide (i = m) = decide (V.int (m : Int) = V.int (i : Int)) := by
          refine decide_eq_decide.mpr ⟨fun e => by rw [e], fun e => ?_⟩
          injection e with e
          omega
        rw [z]
        simp
      exact ⟨_, rfl, _, rfl, j, _, _, _, rfl, rfl, SqL.of hj, atI_nat (kinds_at hm2), _, rfl, _, rfl, rfl, rfl, _, rfl, iteFe e5 ⟨_, rfl, rfl⟩⟩
    · rintro σ G' ⟨y, rfl, rfl⟩
      have he3 := he.same s3
      refine ⟨_, rfl, a, cs i, o, .ref S, .ref S, _, rfl, he3, (Z.ec i hi).er, fun u z => z, Z.kitS hi, true, rfl, ?_⟩
      exact ⟨_, rfl, a, cs i, o, .ty "ValueError", .type "ValueError", _, rfl, he3, (Z.ec i hi).er, fun u z => z, Z.kitV hi, k _ s3⟩
end
end SmL
namespace SmL
open PySem PySem.Spec PyProof.Rows L2 Sm
structure EMk (P : Program) (w : World) (K : PySem.W.Frag) (mg : Str → Option Value) (base : Heap) (C : Addr) (ps : List Str) (sp : Sp) (f : Addr) (fd : FuncData) : Prop where
  T : OexC K C
  at_ : PySem.W.findIn K (.ref C) "__init__" = some (some (.ref f))
  ty : PySem.W.typeIn K (.ref f) = some (.type "function")
  ok : FnOk P w K mg base CX0 1 f fd ps sp
  bd : Binds K fd ps []
theorem mk_same {H G : Hp} {a : Addr} {o : HO} (n : H a = none) (b : SameBut a (upd H a o) G) : Same H G := fun x u e => by
  have ne : x ≠ a := ne_of_none e n
  exact b x u ne (by rw [upd_ne ne]; exact e)
section
variable {P : Program} {w : World} {K : PySem.W.Frag} {mg : Str → Option Value} {base : Heap} {S : Addr} {cs : Nat → Addr}
/-- addresses in a row -/
def adr (n : Nat) (as : Nat → Addr) : List V := (List.range n).map fun i => V.ref (as i)

def spCellErrors (cs : Nat → Addr) : Sp := fun vs H Q _ => ∃ one two, vs = [.int one, .int two] ∧ ∀ p as H', Same H H' → H p = none → H' p = some (.lst (adr 10 as)) → (∀ i, i < 10 → ErrAt H' (as i) (cs i) (some [("y", .int two), ("x", .int one)])) → Q (.ref p) H'

theorem scCellErrors : FnScope ["_law_one", "_law_two", "_law_found"] ["_law_one", "_law_two"] (defScope lCellErrors) := ⟨rfl, rfl, rfl, by decide +kernel, rfl, by decide +kernel, by decide +kernel⟩
theorem okCellErrors {f f0 f1 f2 f3 f4 f5 f6 f7 f8 f9 : Addr} {fd d0 d1 d2 d3 d4 d5 d6 d7 d8 d9 : FuncData} (F : Fun K "_law_cell_errors" "_law_cell_errors" lCellErrors f fd) (Z : Kit K mg S cs) (m0 : EMk P w K mg base (cs 0) ["self", "x", "y"] (sp2 (cs 0)) f0 d0) (m1 : EMk P w K mg base (cs 1) ["self", "x", "y"] (sp2 (cs 1)) f1 d1) (m2 : EMk P w K mg base (cs 2) ["self", "x", "y"] (sp2 (cs 2)) f2 d2) (m3 : EMk P w K mg base (cs 3) ["self", "x", "y"] (sp2 (cs 3)) f3 d3) (m4 : EMk P w K mg base (cs 4) ["self", "x", "y"] (sp2 (cs 4)) f4 d4) (m5 : EMk P w K mg base (cs 5) ["self", "x", "y"] (sp2 (cs 5)) f5 d5) (m6 : EMk P w K mg base (cs 6) ["self", "x", "y"] (sp2 (cs 6)) f6 d6) (m7 : EMk P w K mg base (cs 7) ["self", "x", "y"] (sp2 (cs 7)) f7 d7) (m8 : EMk P w K mg base (cs 8) ["self", "x", "y"] (sp2 (cs 8)) f8 d8) (m9 : EMk P w K mg base (cs 9) ["self", "x", "y"] (sp2 (cs 9)) f9 d9)  : FnOk P w K mg base CX0 3 f fd ["_law_one", "_law_two"] (spCellErrors cs) := by
  refine F.ok scCellErrors (fun vs H Q E h => ?_) (fun cdv A outer s H vs Q E hr h => ?_)
  · obtain ⟨one, two, rfl, _⟩ := h
    rfl
  · obtain ⟨one, two, rfl, k⟩ := h
    refine ⟨_, pss_cons (ps_set (i := 2) scCellErrors.nd rfl (.inl rfl) (pe_lst (pa_cons (pe_err m0.T m0.at_ m0.ty m0.ok hr m0.bd (by rfl) (Z.gl 0 (by decide)) (pa_cons (pv 0) (pa_cons (pv 1) pa_nil))) (pa_cons (pe_err m1.T m1.at_ m1.ty m1.ok hr m1.bd (by rfl) (Z.gl 1 (by decide)) (pa_cons (pv 0) (pa_cons (pv 1) pa_nil))) (pa_cons (pe_err m2.T m2.at_ m2.ty m2.ok hr m2.bd (by rfl) (Z.gl 2 (by decide)) (pa_cons (pv 0) (pa_cons (pv 1) pa_nil))) (pa_cons (pe_err m3.T m3.at_ m3.ty m3.ok hr m3.bd (by rfl) (Z.gl 3 (by decide)) (pa_cons (pv 0) (pa_cons (pv 1) pa_nil))) (pa_cons (pe_err m4.T m4.at_ m4.ty m4.ok hr m4.bd (by rfl) (Z.gl 4 (by decide)) (pa_cons (pv 0) (pa_cons (pv 1) pa_nil))) pa_nil)))))))
      (pss_cons (ps_set (i := 2) scCellErrors.nd rfl (.inl rfl) (pe_op op_cat (pv 2) (pe_lst (pa_cons (pe_err m5.T m5.at_ m5.ty m5.ok hr m5.bd (by rfl) (Z.gl 5 (by decide)) (pa_cons (pv 0) (pa_cons (pv 1) pa_nil))) (pa_cons (pe_err m6.T m6.at_ m6.ty m6.ok hr m6.bd (by rfl) (Z.gl 6 (by decide)) (pa_cons (pv 0) (pa_cons (pv 1) pa_nil))) (pa_cons (pe_err m7.T m7.at_ m7.ty m7.ok hr m7.bd (by rfl) (Z.gl 7 (by decide)) (pa_cons (pv 0) (pa_cons (pv 1) pa_nil))) (pa_cons (pe_err m8.T m8.at_ m8.ty m8.ok hr m8.bd (by rfl) (Z.gl 8 (by decide)) (pa_cons (pv 0) (pa_cons (pv 1) pa_nil))) pa_nil)))))))
      (pss_one (ps_ret (pe_op op_cat (pv 2) (pe_lst (pa_cons (pe_err m9.T m9.at_ m9.ty m9.ok hr m9.bd (by rfl) (Z.gl 9 (by decide)) (pa_cons (pv 0) (pa_cons (pv 1) pa_nil))) pa_nil)))))), ?_⟩
    have S0 : Same H H := Same.refl H
    refine ⟨_, rfl, _, rfl, (by show 2 ≤ 1000; decide), fun a0 n0 => ⟨a0, .int one, .int two, rfl, upd_same, fun G0 e0 b0 => ⟨rfl, ?_⟩⟩⟩
    have v0 := mk_same n0 b0
    replace S0 := S0.trans v0
    refine ⟨_, rfl, _, rfl, (by show 2 ≤ 1000; decide), fun a1 n1 => ⟨a1, .int one, .int two, rfl, upd_same, fun G1 e1 b1 => ⟨rfl, ?_⟩⟩⟩
    have v1 := mk_same n1 b1
    replace e0 := e0.same v1
    replace S0 := S0.trans v1
    refine ⟨_, rfl, _, rfl, (by show 2 ≤ 1000; decide), fun a2 n2 => ⟨a2, .int one, .int two, rfl, upd_same, fun G2 e2 b2 => ⟨rfl, ?_⟩⟩⟩
    have v2 := mk_same n2 b2
    replace e0 := e0.same v2
    replace e1 := e1.same v2
    replace S0 := S0.trans v2
    refine ⟨_, rfl, _, rfl, (by show 2 ≤ 1000; decide), fun a3 n3 => ⟨a3, .int one, .int two, rfl, upd_same, fun G3 e3 b3 => ⟨rfl, ?_⟩⟩⟩
    have v3 := mk_same n3 b3
    replace e0 := e0.same v3
    replace e1 := e1.same v3
    replace e2 := e2.same v3
    replace S0 := S0.trans v3
    refine ⟨_, rfl, _, rfl, (by show 2 ≤ 1000; decide), fun a4 n4 => ⟨a4, .int one, .int two, rfl, upd_same, fun G4 e4 b4 => ⟨rfl, ?_⟩⟩⟩
    have v4 := mk_same n4 b4
    replace e0 := e0.same v4
    replace e1 := e1.same v4
    replace e2 := e2.same v4
    replace e3 := e3.same v4
    replace S0 := S0.trans v4
    refine ⟨(by show 5 ≤ sizeLine; decide), fun p0 m_p0 => ?_⟩
    have w_p0 := same_upd (o := .lst ([.ref a0, .ref a1, .ref a2, .ref a3, .ref a4])) m_p0
    have h_p0 : (upd G4 p0 (.lst ([.ref a0, .ref a1, .ref a2, .ref a3, .ref a4]))) p0 = some (.lst ([.ref a0, .ref a1, .ref a2, .ref a3, .ref a4])) := upd_same
    have z_p0 : H p0 = none := back S0 m_p0
    replace e0 := e0.same w_p0
    replace e1 := e1.same w_p0
    replace e2 := e2.same w_p0
    replace e3 := e3.same w_p0
    replace e4 := e4.same w_p0
    replace S0 := S0.trans w_p0
    refine ⟨_, rfl, ?_⟩
    refine ⟨_, rfl, _, rfl, (by show 2 ≤ 1000; decide), fun a5 n5 => ⟨a5, .int one, .int two, rfl, upd_same, fun G5 e5 b5 => ⟨rfl, ?_⟩⟩⟩
    have v5 := mk_same n5 b5
    replace e0 := e0.same v5
    replace e1 := e1.same v5
    replace e2 := e2.same v5
    replace e3 := e3.same v5
    replace e4 := e4.same v5
    replace h_p0 := v5 _ _ h_p0
    replace S0 := S0.trans v5
    refine ⟨_, rfl, _, rfl, (by show 2 ≤ 1000; decide), fun a6 n6 => ⟨a6, .int one, .int two, rfl, upd_same, fun G6 e6 b6 => ⟨rfl, ?_⟩⟩⟩
    have v6 := mk_same n6 b6
    replace e0 := e0.same v6
    replace e1 := e1.same v6
    replace e2 := e2.same v6
    replace e3 := e3.same v6
    replace e4 := e4.same v6
    replace e5 := e5.same v6
    replace h_p0 := v6 _ _ h_p0
    replace S0 := S0.trans v6
    refine ⟨_, rfl, _, rfl, (by show 2 ≤ 1000; decide), fun a7 n7 => ⟨a7, .int one, .int two, rfl, upd_same, fun G7 e7 b7 => ⟨rfl, ?_⟩⟩⟩
    have v7 := mk_same n7 b7
    replace e0 := e0.same v7
    replace e1 := e1.same v7
    replace e2 := e2.same v7
    replace e3 := e3.same v7
    replace e4 := e4.same v7
    replace e5 := e5.same v7
    replace e6 := e6.same v7
    replace h_p0 := v7 _ _ h_p0
    replace S0 := S0.trans v7
    refine ⟨_, rfl, _, rfl, (by show 2 ≤ 1000; decide), fun a8 n8 => ⟨a8, .int one, .int two, rfl, upd_same, fun G8 e8 b8 => ⟨rfl, ?_⟩⟩⟩
    have v8 := mk_same n8 b8
    replace e0 := e0.same v8
    replace e1 := e1.same v8
    replace e2 := e2.same v8
    replace e3 := e3.same v8
    replace e4 := e4.same v8
    replace e5 := e5.same v8
    replace e6 := e6.same v8
    replace e7 := e7.same v8
    replace h_p0 := v8 _ _ h_p0
    replace S0 := S0.trans v8
    refine ⟨(by show 4 ≤ sizeLine; decide), fun q1 m_q1 => ?_⟩
    have w_q1 := same_upd (o := .lst ([.ref a5, .ref a6, .ref a7, .ref a8])) m_q1
    have h_q1 : (upd G8 q1 (.lst ([.ref a5, .ref a6, .ref a7, .ref a8]))) q1 = some (.lst ([.ref a5, .ref a6, .ref a7, .ref a8])) := upd_same
    replace e0 := e0.same w_q1
    replace e1 := e1.same w_q1
    replace e2 := e2.same w_q1
    replace e3 := e3.same w_q1
    replace e4 := e4.same w_q1
    replace e5 := e5.same w_q1
    replace e6 := e6.same w_q1
    replace e7 := e7.same w_q1
    replace e8 := e8.same w_q1
    replace h_p0 := w_q1 _ _ h_p0
    replace S0 := S0.trans w_q1
    refine ⟨p0, q1, _, _, rfl, rfl, h_p0, h_q1, (by show 5 + 4 ≤ sizeLine; decide), fun p1 m_p1 => ?_⟩
    have w_p1 := same_upd (o := .lst ([.ref a0, .ref a1, .ref a2, .ref a3, .ref a4] ++ [.ref a5, .ref a6, .ref a7, .ref a8])) m_p1
    have h_p1 : (upd (upd G8 q1 (.lst ([.ref a5, .ref a6, .ref a7, .ref a8]))) p1 (.lst ([.ref a0, .ref a1, .ref a2, .ref a3, .ref a4] ++ [.ref a5, .ref a6, .ref a7, .ref a8]))) p1 = some (.lst ([.ref a0, .ref a1, .ref a2, .ref a3, .ref a4, .ref a5, .ref a6, .ref a7, .ref a8])) := upd_same
    have z_p1 : H p1 = none := back S0 m_p1
    replace e0 := e0.same w_p1
    replace e1 := e1.same w_p1
    replace e2 := e2.same w_p1
    replace e3 := e3.same w_p1
    replace e4 := e4.same w_p1
    replace e5 := e5.same w_p1
    replace e6 := e6.same w_p1
    replace e7 := e7.same w_p1
    replace e8 := e8.same w_p1
    replace S0 := S0.trans w_p1
    refine ⟨_, rfl, ?_⟩
    refine ⟨_, rfl, _, rfl, (by show 2 ≤ 1000; decide), fun a9 n9 => ⟨a9, .int one, .int two, rfl, upd_same, fun G9 e9 b9 => ⟨rfl, ?_⟩⟩⟩
    have v9 := mk_same n9 b9
    replace e0 := e0.same v9
    replace e1 := e1.same v9
    replace e2 := e2.same v9
    replace e3 := e3.same v9
    replace e4 := e4.same v9
    replace e5 := e5.same v9
    replace e6 := e6.same v9
    replace e7 := e7.same v9
    replace e8 := e8.same v9
    replace h_p1 := v9 _ _ h_p1
    replace S0 := S0.trans v9
    refine ⟨(by show 1 ≤ sizeLine; decide), fun q2 m_q2 => ?_⟩
    have w_q2 := same_upd (o := .lst ([.ref a9])) m_q2
    have h_q2 : (upd G9 q2 (.lst ([.ref a9]))) q2 = some (.lst ([.ref a9])) := upd_same
    replace e0 := e0.same w_q2
    replace e1 := e1.same w_q2
    replace e2 := e2.same w_q2
    replace e3 := e3.same w_q2
    replace e4 := e4.same w_q2
    replace e5 := e5.same w_q2
    replace e6 := e6.same w_q2
    replace e7 := e7.same w_q2
    replace e8 := e8.same w_q2
    replace e9 := e9.same w_q2
    replace h_p1 := w_q2 _ _ h_p1
    replace S0 := S0.trans w_q2
    refine ⟨p1, q2, _, _, rfl, rfl, h_p1, h_q2, (by show 9 + 1 ≤ sizeLine; decide), fun p2 m_p2 => ?_⟩
    have w_p2 := same_upd (o := .lst ([.ref a0, .ref a1, .ref a2, .ref a3, .ref a4, .ref a5, .ref a6, .ref a7, .ref a8] ++ [.ref a9])) m_p2
    have h_p2 : (upd (upd G9 q2 (.lst ([.ref a9]))) p2 (.lst ([.ref a0, .ref a1, .ref a2, .ref a3, .ref a4, .ref a5, .ref a6, .ref a7, .ref a8] ++ [.ref a9]))) p2 = some (.lst ([.ref a0, .ref a1, .ref a2, .ref a3, .ref a4, .ref a5, .ref a6, .ref a7, .ref a8, .ref a9])) := upd_same
    have z_p2 : H p2 = none := back S0 m_p2
    replace e0 := e0.same w_p2
    replace e1 := e1.same w_p2
    replace e2 := e2.same w_p2
    replace e3 := e3.same w_p2
    replace e4 := e4.same w_p2
    replace e5 := e5.same w_p2
    replace e6 := e6.same w_p2
    replace e7 := e7.same w_p2
    replace e8 := e8.same w_p2
    replace e9 := e9.same w_p2
    replace S0 := S0.trans w_p2
    refine k p2 (fun i => ([a0, a1, a2, a3, a4, a5, a6, a7, a8, a9] : List Addr).getD i 0) _ S0 z_p2 h_p2 fun i hi => ?_
    match i, hi with
    | 0, _ => exact e0
    | 1, _ => exact e1
    | 2, _ => exact e2
    | 3, _ => exact e3
    | 4, _ => exact e4
    | 5, _ => exact e5
    | 6, _ => exact e6
    | 7, _ => exact e7
    | 8, _ => exact e8
    | 9, _ => exact e9
    | n + 10, h => exact absurd h (by omega)

def due (one : Int) (r : Addr) (j : Nat) : Option (List (Str × V)) := (([("line", .int one), ("part", .int one), ("line", .int one), ("line", .int one), ("line", .int one), ("sign", .str "ab"), ("signs", .str "bb"), ("value", .int one), ("number", .int one), ("number", .int one), ("stone", .str "A"), ("places", .ref r), ("index", .int one), ("lacking", .ref r), ("cases", .int one), ("name", .str "far")] : List (Str × V))[j]?).map fun p => [p]
def spOtherErrors (cs : Nat → Addr) : Sp := fun vs H Q _ => ∃ one r, vs = [.int one, .ref r] ∧ ∀ p as H', Same H H' → H p = none → H' p = some (.lst (adr 19 as)) → (∀ i, i < 19 → ErrAt H' (as i) (cs (10 + i)) (due one r i)) → Q (.ref p) H'

theorem scOtherErrors : FnScope ["_law_one", "_law_row", "_law_found"] ["_law_one", "_law_row"] (defScope lOtherErrors) := ⟨rfl, rfl, rfl, by decide +kernel, rfl, by decide +kernel, by decide +kernel⟩
theorem okOtherErrors {f f10 f11 f12 f13 f14 f15 f16 f17 f18 f19 f20 f21 f22 f23 f24 f25 : Addr} {fd d10 d11 d12 d13 d14 d15 d16 d17 d18 d19 d20 d21 d22 d23 d24 d25 : FuncData} {bm : List Value} {B i0 : String} (fb : ExcBaseFacts B "ValueError.__new__" i0 bm) (F : Fun K "_law_other_errors" "_law_other_errors" lOtherErrors f fd) (Z : Kit K mg S cs) (m10 : EMk P w K mg base (cs 10) ["self", "line"] (sp1 (cs 10) "line") f10 d10) (m11 : EMk P w K mg base (cs 11) ["self", "part"] (sp1 (cs 11) "part") f11 d11) (m12 : EMk P w K mg base (cs 12) ["self", "line"] (sp1 (cs 12) "line") f12 d12) (m13 : EMk P w K mg base (cs 13) ["self", "line"] (sp1 (cs 13) "line") f13 d13) (m14 : EMk P w K mg base (cs 14) ["self", "line"] (sp1 (cs 14) "line") f14 d14) (m15 : EMk P w K mg base (cs 15) ["self", "sign"] (sp1 (cs 15) "sign") f15 d15) (m16 : EMk P w K mg base (cs 16) ["self", "signs"] (sp1 (cs 16) "signs") f16 d16) (m17 : EMk P w K mg base (cs 17) ["self", "value"] (sp1 (cs 17) "value") f17 d17) (m18 : EMk P w K mg base (cs 18) ["self", "number"] (sp1 (cs 18) "number") f18 d18) (m19 : EMk P w K mg base (cs 19) ["self", "number"] (sp1 (cs 19) "number") f19 d19) (m20 : EMk P w K mg base (cs 20) ["self", "stone"] (sp1 (cs 20) "stone") f20 d20) (m21 : EMk P w K mg base (cs 21) ["self", "places"] (sp1 (cs 21) "places") f21 d21) (m22 : EMk P w K mg base (cs 22) ["self", "index"] (sp1 (cs 22) "index") f22 d22) (m23 : EMk P w K mg base (cs 23) ["self", "lacking"] (sp1 (cs 23) "lacking") f23 d23) (m24 : EMk P w K mg base (cs 24) ["self", "cases"] (sp1 (cs 24) "cases") f24 d24) (m25 : EMk P w K mg base (cs 25) ["self", "name"] (sp1 (cs 25) "name") f25 d25) (x26 : PySem.W.excIn K (cs 26) bm "ValueError.__new__" = true) (y26 : PySem.W.keepIn K (.ref (cs 26)) = true) (x27 : PySem.W.excIn K (cs 27) bm "ValueError.__new__" = true) (y27 : PySem.W.keepIn K (.ref (cs 27)) = true) (x28 : PySem.W.excIn K (cs 28) bm "ValueError.__new__" = true) (y28 : PySem.W.keepIn K (.ref (cs 28)) = true) : FnOk P w K mg base CX0 3 f fd ["_law_one", "_law_row"] (spOtherErrors cs) := by
  refine F.ok scOtherErrors (fun vs H Q E h => ?_) (fun cdv A outer s H vs Q E hr h => ?_)
  · obtain ⟨one, r, rfl, _⟩ := h
    rfl
  · obtain ⟨one, r, rfl, k⟩ := h
    refine ⟨_, pss_cons (ps_set (i := 2) scOtherErrors.nd rfl (.inl rfl) (pe_lst (pa_cons (pe_err m10.T m10.at_ m10.ty m10.ok hr m10.bd (by rfl) (Z.gl 10 (by decide)) (pa_cons (pv 0) pa_nil)) (pa_cons (pe_err m11.T m11.at_ m11.ty m11.ok hr m11.bd (by rfl) (Z.gl 11 (by decide)) (pa_cons (pv 0) pa_nil)) (pa_cons (pe_err m12.T m12.at_ m12.ty m12.ok hr m12.bd (by rfl) (Z.gl 12 (by decide)) (pa_cons (pv 0) pa_nil)) (pa_cons (pe_err m13.T m13.at_ m13.ty m13.ok hr m13.bd (by rfl) (Z.gl 13 (by decide)) (pa_cons (pv 0) pa_nil)) (pa_cons (pe_err m14.T m14.at_ m14.ty m14.ok hr m14.bd (by rfl) (Z.gl 14 (by decide)) (pa_cons (pv 0) pa_nil)) pa_nil)))))))
      (pss_cons (ps_set (i := 2) scOtherErrors.nd rfl (.inl rfl) (pe_op op_cat (pv 2) (pe_lst (pa_cons (pe_err m15.T m15.at_ m15.ty m15.ok hr m15.bd (by rfl) (Z.gl 15 (by decide)) (pa_cons pe_str pa_nil)) (pa_cons (pe_err m16.T m16.at_ m16.ty m16.ok hr m16.bd (by rfl) (Z.gl 16 (by decide)) (pa_cons pe_str pa_nil)) (pa_cons (pe_err m17.T m17.at_ m17.ty m17.ok hr m17.bd (by rfl) (Z.gl 17 (by decide)) (pa_cons (pv 0) pa_nil)) (pa_cons (pe_err m18.T m18.at_ m18.ty m18.ok hr m18.bd (by rfl) (Z.gl 18 (by decide)) (pa_cons (pv 0) pa_nil)) (pa_cons (pe_err m19.T m19.at_ m19.ty m19.ok hr m19.bd (by rfl) (Z.gl 19 (by decide)) (pa_cons (pv 0) pa_nil)) pa_nil))))))))
      (pss_cons (ps_set (i := 2) scOtherErrors.nd rfl (.inl rfl) (pe_op op_cat (pv 2) (pe_lst (pa_cons (pe_err m20.T m20.at_ m20.ty m20.ok hr m20.bd (by rfl) (Z.gl 20 (by decide)) (pa_cons pe_str pa_nil)) (pa_cons (pe_err m21.T m21.at_ m21.ty m21.ok hr m21.bd (by rfl) (Z.gl 21 (by decide)) (pa_cons (pv 1) pa_nil)) (pa_cons (pe_err m22.T m22.at_ m22.ty m22.ok hr m22.bd (by rfl) (Z.gl 22 (by decide)) (pa_cons (pv 0) pa_nil)) (pa_cons (pe_err m23.T m23.at_ m23.ty m23.ok hr m23.bd (by rfl) (Z.gl 23 (by decide)) (pa_cons (pv 1) pa_nil)) (pa_cons (pe_err m24.T m24.at_ m24.ty m24.ok hr m24.bd (by rfl) (Z.gl 24 (by decide)) (pa_cons (pv 0) pa_nil)) pa_nil))))))))
      (pss_one (ps_ret (pe_op op_cat (pv 2) (pe_lst (pa_cons (pe_err m25.T m25.at_ m25.ty m25.ok hr m25.bd (by rfl) (Z.gl 25 (by decide)) (pa_cons pe_str pa_nil)) (pa_cons (pe_err0 fb x26 (Z.gl 26 (by decide)) y26 (by rfl)) (pa_cons (pe_err0 fb x27 (Z.gl 27 (by decide)) y27 (by rfl)) (pa_cons (pe_err0 fb x28 (Z.gl 28 (by decide)) y28 (by rfl)) pa_nil)))))))))), ?_⟩
    have S0 : Same H H := Same.refl H
    refine ⟨_, rfl, (by show 1 ≤ 1000; decide), fun a10 n10 => ⟨a10, .int one, rfl, upd_same, fun G10 e10 b10 => ⟨rfl, ?_⟩⟩⟩
    have v10 := mk_same n10 b10
    replace S0 := S0.trans v10
    refine ⟨_, rfl, (by show 1 ≤ 1000; decide), fun a11 n11 => ⟨a11, .int one, rfl, upd_same, fun G11 e11 b11 => ⟨rfl, ?_⟩⟩⟩
    have v11 := mk_same n11 b11
    replace e10 := e10.same v11
    replace S0 := S0.trans v11
    refine ⟨_, rfl, (by show 1 ≤ 1000; decide), fun a12 n12 => ⟨a12, .int one, rfl, upd_same, fun G12 e12 b12 => ⟨rfl, ?_⟩⟩⟩
    have v12 := mk_same n12 b12
    replace e10 := e10.same v12
    replace e11 := e11.same v12
    replace S0 := S0.trans v12
    refine ⟨_, rfl, (by show 1 ≤ 1000; decide), fun a13 n13 => ⟨a13, .int one, rfl, upd_same, fun G13 e13 b13 => ⟨rfl, ?_⟩⟩⟩
    have v13 := mk_same n13 b13
    replace e10 := e10.same v13
    replace e11 := e11.same v13
    replace e12 := e12.same v13
    replace S0 := S0.trans v13
    refine ⟨_, rfl, (by show 1 ≤ 1000; decide), fun a14 n14 => ⟨a14, .int one, rfl, upd_same, fun G14 e14 b14 => ⟨rfl, ?_⟩⟩⟩
    have v14 := mk_same n14 b14
    replace e10 := e10.same v14
    replace e11 := e11.same v14
    replace e12 := e12.same v14
    replace e13 := e13.same v14
    replace S0 := S0.trans v14
    refine ⟨(by show 5 ≤ sizeLine; decide), fun p0 m_p0 => ?_⟩
    have w_p0 := same_upd (o := .lst ([.ref a10, .ref a11, .ref a12, .ref a13, .ref a14])) m_p0
    have h_p0 : (upd G14 p0 (.lst ([.ref a10, .ref a11, .ref a12, .ref a13, .ref a14]))) p0 = some (.lst ([.ref a10, .ref a11, .ref a12, .ref a13, .ref a14])) := upd_same
    have z_p0 : H p0 = none := back S0 m_p0
    replace e10 := e10.same w_p0
    replace e11 := e11.same w_p0
    replace e12 := e12.same w_p0
    replace e13 := e13.same w_p0
    replace e14 := e14.same w_p0
    replace S0 := S0.trans w_p0
    refine ⟨_, rfl, ?_⟩
    refine ⟨(by show 1 ≤ 1000; decide), fun a15 n15 => ⟨a15, .str "ab", rfl, upd_same, fun G15 e15 b15 => ⟨rfl, ?_⟩⟩⟩
    have v15 := mk_same n15 b15
    replace e10 := e10.same v15
    replace e11 := e11.same v15
    replace e12 := e12.same v15
    replace e13 := e13.same v15
    replace e14 := e14.same v15
    replace h_p0 := v15 _ _ h_p0
    replace S0 := S0.trans v15
    refine ⟨(by show 1 ≤ 1000; decide), fun a16 n16 => ⟨a16, .str "bb", rfl, upd_same, fun G16 e16 b16 => ⟨rfl, ?_⟩⟩⟩
    have v16 := mk_same n16 b16
    replace e10 := e10.same v16
    replace e11 := e11.same v16
    replace e12 := e12.same v16
    replace e13 := e13.same v16
    replace e14 := e14.same v16
    replace e15 := e15.same v16
    replace h_p0 := v16 _ _ h_p0
    replace S0 := S0.trans v16
    refine ⟨_, rfl, (by show 1 ≤ 1000; decide), fun a17 n17 => ⟨a17, .int one, rfl, upd_same, fun G17 e17 b17 => ⟨rfl, ?_⟩⟩⟩
    have v17 := mk_same n17 b17
    replace e10 := e10.same v17
    replace e11 := e11.same v17
    replace e12 := e12.same v17
    replace e13 := e13.same v17
    replace e14 := e14.same v17
    replace e15 := e15.same v17
    replace e16 := e16.same v17
    replace h_p0 := v17 _ _ h_p0
    replace S0 := S0.trans v17
    refine ⟨_, rfl, (by show 1 ≤ 1000; decide), fun a18 n18 => ⟨a18, .int one, rfl, upd_same, fun G18 e18 b18 => ⟨rfl, ?_⟩⟩⟩
    have v18 := mk_same n18 b18
    replace e10 := e10.same v18
    replace e11 := e11.same v18
    replace e12 := e12.same v18
    replace e13 := e13.same v18
    replace e14 := e14.same v18
    replace e15 := e15.same v18
    replace e16 := e16.same v18
    replace e17 := e17.same v18
    replace h_p0 := v18 _ _ h_p0
    replace S0 := S0.trans v18
    refine ⟨_, rfl, (by show 1 ≤ 1000; decide), fun a19 n19 => ⟨a19, .int one, rfl, upd_same, fun G19 e19 b19 => ⟨rfl, ?_⟩⟩⟩
    have v19 := mk_same n19 b19
    replace e10 := e10.same v19
    replace e11 := e11.same v19
    replace e12 := e12.same v19
    replace e13 := e13.same v19
    replace e14 := e14.same v19
    replace e15 := e15.same v19
    replace e16 := e16.same v19
    replace e17 := e17.same v19
    replace e18 := e18.same v19
    replace h_p0 := v19 _ _ h_p0
    replace S0 := S0.trans v19
    refine ⟨(by show 5 ≤ sizeLine; decide), fun q1 m_q1 => ?_⟩
    have w_q1 := same_upd (o := .lst ([.ref a15, .ref a16, .ref a17, .ref a18, .ref a19])) m_q1
    have h_q1 : (upd G19 q1 (.lst ([.ref a15, .ref a16, .ref a17, .ref a18, .ref a19]))) q1 = some (.lst ([.ref a15, .ref a16, .ref a17, .ref a18, .ref a19])) := upd_same
    replace e10 := e10.same w_q1
    replace e11 := e11.same w_q1
    replace e12 := e12.same w_q1
    replace e13 := e13.same w_q1
    replace e14 := e14.same w_q1
    replace e15 := e15.same w_q1
    replace e16 := e16.same w_q1
    replace e17 := e17.same w_q1
    replace e18 := e18.same w_q1
    replace e19 := e19.same w_q1
    replace h_p0 := w_q1 _ _ h_p0
    replace S0 := S0.trans w_q1
    refine ⟨p0, q1, _, _, rfl, rfl, h_p0, h_q1, (by show 5 + 5 ≤ sizeLine; decide), fun p1 m_p1 => ?_⟩
    have w_p1 := same_upd (o := .lst ([.ref a10, .ref a11, .ref a12, .ref a13, .ref a14] ++ [.ref a15, .ref a16, .ref a17, .ref a18, .ref a19])) m_p1
    have h_p1 : (upd (upd G19 q1 (.lst ([.ref a15, .ref a16, .ref a17, .ref a18, .ref a19]))) p1 (.lst ([.ref a10, .ref a11, .ref a12, .ref a13, .ref a14] ++ [.ref a15, .ref a16, .ref a17, .ref a18, .ref a19]))) p1 = some (.lst ([.ref a10, .ref a11, .ref a12, .ref a13, .ref a14, .ref a15, .ref a16, .ref a17, .ref a18, .ref a19])) := upd_same
    have z_p1 : H p1 = none := back S0 m_p1
    replace e10 := e10.same w_p1
    replace e11 := e11.same w_p1
    replace e12 := e12.same w_p1
    replace e13 := e13.same w_p1
    replace e14 := e14.same w_p1
    replace e15 := e15.same w_p1
    replace e16 := e16.same w_p1
    replace e17 := e17.same w_p1
    replace e18 := e18.same w_p1
    replace e19 := e19.same w_p1
    replace S0 := S0.trans w_p1
    refine ⟨_, rfl, ?_⟩
    refine ⟨(by show 1 ≤ 1000; decide), fun a20 n20 => ⟨a20, .str "A", rfl, upd_same, fun G20 e20 b20 => ⟨rfl, ?_⟩⟩⟩
    have v20 := mk_same n20 b20
    replace e10 := e10.same v20
    replace e11 := e11.same v20
    replace e12 := e12.same v20
    replace e13 := e13.same v20
    replace e14 := e14.same v20
    replace e15 := e15.same v20
    replace e16 := e16.same v20
    replace e17 := e17.same v20
    replace e18 := e18.same v20
    replace e19 := e19.same v20
    replace h_p1 := v20 _ _ h_p1
    replace S0 := S0.trans v20
    refine ⟨_, rfl, (by show 1 ≤ 1000; decide), fun a21 n21 => ⟨a21, .ref r, rfl, upd_same, fun G21 e21 b21 => ⟨rfl, ?_⟩⟩⟩
    have v21 := mk_same n21 b21
    replace e10 := e10.same v21
    replace e11 := e11.same v21
    replace e12 := e12.same v21
    replace e13 := e13.same v21
    replace e14 := e14.same v21
    replace e15 := e15.same v21
    replace e16 := e16.same v21
    replace e17 := e17.same v21
    replace e18 := e18.same v21
    replace e19 := e19.same v21
    replace e20 := e20.same v21
    replace h_p1 := v21 _ _ h_p1
    replace S0 := S0.trans v21
    refine ⟨_, rfl, (by show 1 ≤ 1000; decide), fun a22 n22 => ⟨a22, .int one, rfl, upd_same, fun G22 e22 b22 => ⟨rfl, ?_⟩⟩⟩
    have v22 := mk_same n22 b22
    replace e10 := e10.same v22
    replace e11 := e11.same v22
    replace e12 := e12.same v22
    replace e13 := e13.same v22
    replace e14 := e14.same v22
    replace e15 := e15.same v22
    replace e16 := e16.same v22
    replace e17 := e17.same v22
    replace e18 := e18.same v22
    replace e19 := e19.same v22
    replace e20 := e20.same v22
    replace e21 := e21.same v22
    replace h_p1 := v22 _ _ h_p1
    replace S0 := S0.trans v22
    refine ⟨_, rfl, (by show 1 ≤ 1000; decide), fun a23 n23 => ⟨a23, .ref r, rfl, upd_same, fun G23 e23 b23 => ⟨rfl, ?_⟩⟩⟩
    have v23 := mk_same n23 b23
    replace e10 := e10.same v23
    replace e11 := e11.same v23
    replace e12 := e12.same v23
    replace e13 := e13.same v23
    replace e14 := e14.same v23
    replace e15 := e15.same v23
    replace e16 := e16.same v23
    replace e17 := e17.same v23
    replace e18 := e18.same v23
    replace e19 := e19.same v23
    replace e20 := e20.same v23
    replace e21 := e21.same v23
    replace e22 := e22.same v23
    replace h_p1 := v23 _ _ h_p1
    replace S0 := S0.trans v23
    refine ⟨_, rfl, (by show 1 ≤ 1000; decide), fun a24 n24 => ⟨a24, .int one, rfl, upd_same, fun G24 e24 b24 => ⟨rfl, ?_⟩⟩⟩
    have v24 := mk_same n24 b24
    replace e10 := e10.same v24
    replace e11 := e11.same v24
    replace e12 := e12.same v24
    replace e13 := e13.same v24
    replace e14 := e14.same v24
    replace e15 := e15.same v24
    replace e16 := e16.same v24
    replace e17 := e17.same v24
    replace e18 := e18.same v24
    replace e19 := e19.same v24
    replace e20 := e20.same v24
    replace e21 := e21.same v24
    replace e22 := e22.same v24
    replace e23 := e23.same v24
    replace h_p1 := v24 _ _ h_p1
    replace S0 := S0.trans v24
    refine ⟨(by show 5 ≤ sizeLine; decide), fun q2 m_q2 => ?_⟩
    have w_q2 := same_upd (o := .lst ([.ref a20, .ref a21, .ref a22, .ref a23, .ref a24])) m_q2
    have h_q2 : (upd G24 q2 (.lst ([.ref a20, .ref a21, .ref a22, .ref a23, .ref a24]))) q2 = some (.lst ([.ref a20, .ref a21, .ref a22, .ref a23, .ref a24])) := upd_same
    replace e10 := e10.same w_q2
    replace e11 := e11.same w_q2
    replace e12 := e12.same w_q2
    replace e13 := e13.same w_q2
    replace e14 := e14.same w_q2
    replace e15 := e15.same w_q2
    replace e16 := e16.same w_q2
    replace e17 := e17.same w_q2
    replace e18 := e18.same w_q2
    replace e19 := e19.same w_q2
    replace e20 := e20.same w_q2
    replace e21 := e21.same w_q2
    replace e22 := e22.same w_q2
    replace e23 := e23.same w_q2
    replace e24 := e24.same w_q2
    replace h_p1 := w_q2 _ _ h_p1
    replace S0 := S0.trans w_q2
    refine ⟨p1, q2, _, _, rfl, rfl, h_p1, h_q2, (by show 10 + 5 ≤ sizeLine; decide), fun p2 m_p2 => ?_⟩
    have w_p2 := same_upd (o := .lst ([.ref a10, .ref a11, .ref a12, .ref a13, .ref a14, .ref a15, .ref a16, .ref a17, .ref a18, .ref a19] ++ [.ref a20, .ref a21, .ref a22, .ref a23, .ref a24])) m_p2
    have h_p2 : (upd (upd G24 q2 (.lst ([.ref a20, .ref a21, .ref a22, .ref a23, .ref a24]))) p2 (.lst ([.ref a10, .ref a11, .ref a12, .ref a13, .ref a14, .ref a15, .ref a16, .ref a17, .ref a18, .ref a19] ++ [.ref a20, .ref a21, .ref a22, .ref a23, .ref a24]))) p2 = some (.lst ([.ref a10, .ref a11, .ref a12, .ref a13, .ref a14, .ref a15, .ref a16, .ref a17, .ref a18, .ref a19, .ref a20, .ref a21, .ref a22, .ref a23, .ref a24])) := upd_same
    have z_p2 : H p2 = none := back S0 m_p2
    replace e10 := e10.same w_p2
    replace e11 := e11.same w_p2
    replace e12 := e12.same w_p2
    replace e13 := e13.same w_p2
    replace e14 := e14.same w_p2
    replace e15 := e15.same w_p2
    replace e16 := e16.same w_p2
    replace e17 := e17.same w_p2
    replace e18 := e18.same w_p2
    replace e19 := e19.same w_p2
    replace e20 := e20.same w_p2
    replace e21 := e21.same w_p2
    replace e22 := e22.same w_p2
    replace e23 := e23.same w_p2
    replace e24 := e24.same w_p2
    replace S0 := S0.trans w_p2
    refine ⟨_, rfl, ?_⟩
    refine ⟨(by show 1 ≤ 1000; decide), fun a25 n25 => ⟨a25, .str "far", rfl, upd_same, fun G25 e25 b25 => ⟨rfl, ?_⟩⟩⟩
    have v25 := mk_same n25 b25
    replace e10 := e10.same v25
    replace e11 := e11.same v25
    replace e12 := e12.same v25
    replace e13 := e13.same v25
    replace e14 := e14.same v25
    replace e15 := e15.same v25
    replace e16 := e16.same v25
    replace e17 := e17.same v25
    replace e18 := e18.same v25
    replace e19 := e19.same v25
    replace e20 := e20.same v25
    replace e21 := e21.same v25
    replace e22 := e22.same v25
    replace e23 := e23.same v25
    replace e24 := e24.same v25
    replace h_p2 := v25 _ _ h_p2
    replace S0 := S0.trans v25
    intro a26 n26
    have v26 := same_upd (o := ExO (.ref (cs 26)) a26) n26
    have e26 : ErrAt (upd G25 a26 (ExO (.ref (cs 26)) a26)) a26 (cs 26) none := .bare upd_same
    replace e10 := e10.same v26
    replace e11 := e11.same v26
    replace e12 := e12.same v26
    replace e13 := e13.same v26
    replace e14 := e14.same v26
    replace e15 := e15.same v26
    replace e16 := e16.same v26
    replace e17 := e17.same v26
    replace e18 := e18.same v26
    replace e19 := e19.same v26
    replace e20 := e20.same v26
    replace e21 := e21.same v26
    replace e22 := e22.same v26
    replace e23 := e23.same v26
    replace e24 := e24.same v26
    replace e25 := e25.same v26
    replace h_p2 := v26 _ _ h_p2
    replace S0 := S0.trans v26
    intro a27 n27
    have v27 := same_upd (o := ExO (.ref (cs 27)) a27) n27
    have e27 : ErrAt (upd (upd G25 a26 (ExO (.ref (cs 26)) a26)) a27 (ExO (.ref (cs 27)) a27)) a27 (cs 27) none := .bare upd_same
    replace e10 := e10.same v27
    replace e11 := e11.same v27
    replace e12 := e12.same v27
    replace e13 := e13.same v27
    replace e14 := e14.same v27
    replace e15 := e15.same v27
    replace e16 := e16.same v27
    replace e17 := e17.same v27
    replace e18 := e18.same v27
    replace e19 := e19.same v27
    replace e20 := e20.same v27
    replace e21 := e21.same v27
    replace e22 := e22.same v27
    replace e23 := e23.same v27
    replace e24 := e24.same v27
    replace e25 := e25.same v27
    replace e26 := e26.same v27
    replace h_p2 := v27 _ _ h_p2
    replace S0 := S0.trans v27
    intro a28 n28
    have v28 := same_upd (o := ExO (.ref (cs 28)) a28) n28
    have e28 : ErrAt (upd (upd (upd G25 a26 (ExO (.ref (cs 26)) a26)) a27 (ExO (.ref (cs 27)) a27)) a28 (ExO (.ref (cs 28)) a28)) a28 (cs 28) none := .bare upd_same
    replace e10 := e10.same v28
    replace e11 := e11.same v28
    replace e12 := e12.same v28
    replace e13 := e13.same v28
    replace e14 := e14.same v28
    replace e15 := e15.same v28
    replace e16 := e16.same v28
    replace e17 := e17.same v28
    replace e18 := e18.same v28
    replace e19 := e19.same v28
    replace e20 := e20.same v28
    replace e21 := e21.same v28
    replace e22 := e22.same v28
    replace e23 := e23.same v28
    replace e24 := e24.same v28
    replace e25 := e25.same v28
    replace e26 := e26.same v28
    replace e27 := e27.same v28
    replace h_p2 := v28 _ _ h_p2
    replace S0 := S0.trans v28
    refine ⟨(by show 4 ≤ sizeLine; decide), fun q3 m_q3 => ?_⟩
    have w_q3 := same_upd (o := .lst ([.ref a25, .ref a26, .ref a27, .ref a28])) m_q3
    have h_q3 : (upd (upd (upd (upd G25 a26 (ExO (.ref (cs 26)) a26)) a27 (ExO (.ref (cs 27)) a27)) a28 (ExO (.ref (cs 28)) a28)) q3 (.lst ([.ref a25, .ref a26, .ref a27, .ref a28]))) q3 = some (.lst ([.ref a25, .ref a26, .ref a27, .ref a28])) := upd_same
    replace e10 := e10.same w_q3
    replace e11 := e11.same w_q3
    replace e12 := e12.same w_q3
    replace e13 := e13.same w_q3
    replace e14 := e14.same w_q3
    replace e15 := e15.same w_q3
    replace e16 := e16.same w_q3
    replace e17 := e17.same w_q3
    replace e18 := e18.same w_q3
    replace e19 := e19.same w_q3
    replace e20 := e20.same w_q3
    replace e21 := e21.same w_q3
    replace e22 := e22.same w_q3
    replace e23 := e23.same w_q3
    replace e24 := e24.same w_q3
    replace e25 := e25.same w_q3
    replace e26 := e26.same w_q3
    replace e27 := e27.same w_q3
    replace e28 := e28.same w_q3
    replace h_p2 := w_q3 _ _ h_p2
    replace S0 := S0.trans w_q3
    refine ⟨p2, q3, _, _, rfl, rfl, h_p2, h_q3, (by show 15 + 4 ≤ sizeLine; decide), fun p3 m_p3 => ?_⟩
    have w_p3 := same_upd (o := .lst ([.ref a10, .ref a11, .ref a12, .ref a13, .ref a14, .ref a15, .ref a16, .ref a17, .ref a18, .ref a19, .ref a20, .ref a21, .ref a22, .ref a23, .ref a24] ++ [.ref a25, .ref a26, .ref a27, .ref a28])) m_p3
    have h_p3 : (upd (upd (upd (upd (upd G25 a26 (ExO (.ref (cs 26)) a26)) a27 (ExO (.ref (cs 27)) a27)) a28 (ExO (.ref (cs 28)) a28)) q3 (.lst ([.ref a25, .ref a26, .ref a27, .ref a28]))) p3 (.lst ([.ref a10, .ref a11, .ref a12, .ref a13, .ref a14, .ref a15, .ref a16, .ref a17, .ref a18, .ref a19, .ref a20, .ref a21, .ref a22, .ref a23, .ref a24] ++ [.ref a25, .ref a26, .ref a27, .ref a28]))) p3 = some (.lst ([.ref a10, .ref a11, .ref a12, .ref a13, .ref a14, .ref a15, .ref a16, .ref a17, .ref a18, .ref a19, .ref a20, .ref a21, .ref a22, .ref a23, .ref a24, .ref a25, .ref a26, .ref a27, .ref a28])) := upd_same
    have z_p3 : H p3 = none := back S0 m_p3
    replace e10 := e10.same w_p3
    replace e11 := e11.same w_p3
    replace e12 := e12.same w_p3
    replace e13 := e13.same w_p3
    replace e14 := e14.same w_p3
    replace e15 := e15.same w_p3
    replace e16 := e16.same w_p3
    replace e17 := e17.same w_p3
    replace e18 := e18.same w_p3
    replace e19 := e19.same w_p3
    replace e20 := e20.same w_p3
    replace e21 := e21.same w_p3
    replace e22 := e22.same w_p3
    replace e23 := e23.same w_p3
    replace e24 := e24.same w_p3
    replace e25 := e25.same w_p3
    replace e26 := e26.same w_p3
    replace e27 := e27.same w_p3
    replace e28 := e28.same w_p3
    replace S0 := S0.trans w_p3
    refine k p3 (fun i => ([a10, a11, a12, a13, a14, a15, a16, a17, a18, a19, a20, a21, a22, a23, a24, a25, a26, a27, a28] : List Addr).getD i 0) _ S0 z_p3 h_p3 fun i hi => ?_
    match i, hi with
    | 0, _ => exact e10
    | 1, _ => exact e11
    | 2, _ => exact e12
    | 3, _ => exact e13
    | 4, _ => exact e14
    | 5, _ => exact e15
    | 6, _ => exact e16
    | 7, _ => exact e17
    | 8, _ => exact e18
    | 9, _ => exact e19
    | 10, _ => exact e20
    | 11, _ => exact e21
    | 12, _ => exact e22
    | 13, _ => exact e23
    | 14, _ => exact e24
    | 15, _ => exact e25
    | 16, _ => exact e26
    | 17, _ => exact e27
    | 18, _ => exact e28
    | n + 19, h => exact absurd h (by omega)

end
end SmL
namespace SmL
open PySem PySem.Spec PyProof.Rows L2 Sm
section
variable {P : Program} {w : World} {K : PySem.W.Frag} {mg : Str → Option Value} {base : Heap} {S : Addr} {cs : Nat → Addr}
def told (one : Int) (r : Addr) : List V := [.int one, .int one, .int one, .int one, .int one, .str "ab", .str "bb", .int one, .int one, .int one, .str "A", .ref r, .int one, .ref r, .int one, .str "far"]
theorem adr_at {n j : Nat} {as : Nat → Addr} (h : j < n) : (adr n as)[j]? = some (.ref (as j)) := by
  unfold adr
  rw [List.getElem?_map, List.getElem?_range h]
  rfl
theorem adr_int {n j : Nat} {as : Nat → Addr} (h : j < n) : atI (adr n as) (j : Int) = some (.ref (as j)) := atI_nat (adr_at h)
def spFields (cs : Nat → Addr) : Sp := fun vs H Q _ => ∃ p as one r, vs = [.ref p] ∧ H p = some (.lst (adr 19 as)) ∧ (∀ i, i < 19 → ErrAt H (as i) (cs (10 + i)) (due one r i)) ∧ ∀ q H', Same H H' → H q = none → H' q = some (.lst (told one r)) → Q (.ref q) H'
theorem scFields : FnScope ["_law_errors", "_law_told"] ["_law_errors"] (defScope lFields) := ⟨rfl, rfl, rfl, by decide +kernel, rfl, by decide +kernel, by decide +kernel⟩
theorem ok_fields {f : Addr} {fd : FuncData} (F : Fun K "_law_fields" "_law_fields" lFields f fd) (Z : Kit K mg S cs) (n0 : PySem.W.findIn K (.ref (cs 10)) "line" = some none) (n1 : PySem.W.findIn K (.ref (cs 11)) "part" = some none) (n2 : PySem.W.findIn K (.ref (cs 12)) "line" = some none) (n3 : PySem.W.findIn K (.ref (cs 13)) "line" = some none) (n4 : PySem.W.findIn K (.ref (cs 14)) "line" = some none) (n5 : PySem.W.findIn K (.ref (cs 15)) "sign" = some none) (n6 : PySem.W.findIn K (.ref (cs 16)) "signs" = some none) (n7 : PySem.W.findIn K (.ref (cs 17)) "value" = some none) (n8 : PySem.W.findIn K (.ref (cs 18)) "number" = some none) (n9 : PySem.W.findIn K (.ref (cs 19)) "number" = some none) (n10 : PySem.W.findIn K (.ref (cs 20)) "stone" = some none) (n11 : PySem.W.findIn K (.ref (cs 21)) "places" = some none) (n12 : PySem.W.findIn K (.ref (cs 22)) "index" = some none) (n13 : PySem.W.findIn K (.ref (cs 23)) "lacking" = some none) (n14 : PySem.W.findIn K (.ref (cs 24)) "cases" = some none) (n15 : PySem.W.findIn K (.ref (cs 25)) "name" = some none) : FnOk P w K mg base CX0 1 f fd ["_law_errors"] (spFields cs) := by
  refine F.ok scFields (fun vs H Q E h => ?_) (fun cdv A outer s H vs Q E hr h => ?_)
  · obtain ⟨p, as, one, r, rfl, _⟩ := h
    rfl
  · obtain ⟨p, as, one, r, rfl, hp, he, k⟩ := h
    refine ⟨_, pss_cons (ps_set (i := 1) scFields.nd rfl (.inl rfl) (pe_lst (pa_cons (pe_errF (pe_ix ix_list (pv 0) pe_int (fun _ _ => rfl))) (pa_cons (pe_errF (pe_ix ix_list (pv 0) pe_int (fun _ _ => rfl))) (pa_cons (pe_errF (pe_ix ix_list (pv 0) pe_int (fun _ _ => rfl))) (pa_cons (pe_errF (pe_ix ix_list (pv 0) pe_int (fun _ _ => rfl))) (pa_cons (pe_errF (pe_ix ix_list (pv 0) pe_int (fun _ _ => rfl))) (pa_cons (pe_errF (pe_ix ix_list (pv 0) pe_int (fun _ _ => rfl))) pa_nil))))))))
      (pss_cons (ps_set (i := 1) scFields.nd rfl (.inl rfl) (pe_op op_cat (pv 1) (pe_lst (pa_cons (pe_errF (pe_ix ix_list (pv 0) pe_int (fun _ _ => rfl))) (pa_cons (pe_errF (pe_ix ix_list (pv 0) pe_int (fun _ _ => rfl))) (pa_cons (pe_errF (pe_ix ix_list (pv 0) pe_int (fun _ _ => rfl))) (pa_cons (pe_errF (pe_ix ix_list (pv 0) pe_int (fun _ _ => rfl))) (pa_cons (pe_errF (pe_ix ix_list (pv 0) pe_int (fun _ _ => rfl))) pa_nil))))))))
      (pss_cons (ps_set (i := 1) scFields.nd rfl (.inl rfl) (pe_op op_cat (pv 1) (pe_lst (pa_cons (pe_errF (pe_ix ix_list (pv 0) pe_int (fun _ _ => rfl))) (pa_cons (pe_errF (pe_ix ix_list (pv 0) pe_int (fun _ _ => rfl))) (pa_cons (pe_errF (pe_ix ix_list (pv 0) pe_int (fun _ _ => rfl))) (pa_cons (pe_errF (pe_ix ix_list (pv 0) pe_int (fun _ _ => rfl))) pa_nil)))))))
      (pss_one (ps_ret (pe_op op_cat (pv 1) (pe_lst (pa_cons (pe_errF (pe_ix ix_list (pv 0) pe_int (fun _ _ => rfl))) pa_nil))))))), ?_⟩
    have S0 : Same H H := Same.refl H
    refine ⟨_, rfl, p, _, 0, _, rfl, rfl, SqL.of hp, adr_int (n := 19) (j := 0) (by decide), as 0, cs 10, [("line", .int one)], .int one, rfl, he 0 (by decide), (Z.ec 10 (by decide)).er, n0, rfl, ?_⟩
    refine ⟨_, rfl, p, _, 1, _, rfl, rfl, SqL.of hp, adr_int (n := 19) (j := 1) (by decide), as 1, cs 11, [("part", .int one)], .int one, rfl, he 1 (by decide), (Z.ec 11 (by decide)).er, n1, rfl, ?_⟩
    refine ⟨_, rfl, p, _, 2, _, rfl, rfl, SqL.of hp, adr_int (n := 19) (j := 2) (by decide), as 2, cs 12, [("line", .int one)], .int one, rfl, he 2 (by decide), (Z.ec 12 (by decide)).er, n2, rfl, ?_⟩
    refine ⟨_, rfl, p, _, 3, _, rfl, rfl, SqL.of hp, adr_int (n := 19) (j := 3) (by decide), as 3, cs 13, [("line", .int one)], .int one, rfl, he 3 (by decide), (Z.ec 13 (by decide)).er, n3, rfl, ?_⟩
    refine ⟨_, rfl, p, _, 4, _, rfl, rfl, SqL.of hp, adr_int (n := 19) (j := 4) (by decide), as 4, cs 14, [("line", .int one)], .int one, rfl, he 4 (by decide), (Z.ec 14 (by decide)).er, n4, rfl, ?_⟩
    refine ⟨_, rfl, p, _, 5, _, rfl, rfl, SqL.of hp, adr_int (n := 19) (j := 5) (by decide), as 5, cs 15, [("sign", .str "ab")], .str "ab", rfl, he 5 (by decide), (Z.ec 15 (by decide)).er, n5, rfl, ?_⟩
    refine ⟨(by show 6 ≤ sizeLine; decide), fun p0 m_p0 => ?_⟩
    have w_p0 := same_upd (o := .lst ([.int one, .int one, .int one, .int one, .int one, .str "ab"])) m_p0
    have h_p0 : (upd H p0 (.lst ([.int one, .int one, .int one, .int one, .int one, .str "ab"]))) p0 = some (.lst ([.int one, .int one, .int one, .int one, .int one, .str "ab"])) := upd_same
    replace hp := w_p0 _ _ hp
    replace he : ∀ i, i < 19 → ErrAt (upd H p0 (.lst ([.int one, .int one, .int one, .int one, .int one, .str "ab"]))) (as i) (cs (10 + i)) (due one r i) := fun i h => (he i h).same w_p0
    replace S0 := S0.trans w_p0
    refine ⟨_, rfl, ?_⟩
    refine ⟨_, rfl, p, _, 6, _, rfl, rfl, SqL.of hp, adr_int (n := 19) (j := 6) (by decide), as 6, cs 16, [("signs", .str "bb")], .str "bb", rfl, he 6 (by decide), (Z.ec 16 (by decide)).er, n6, rfl, ?_⟩
    refine ⟨_, rfl, p, _, 7, _, rfl, rfl, SqL.of hp, adr_int (n := 19) (j := 7) (by decide), as 7, cs 17, [("value", .int one)], .int one, rfl, he 7 (by decide), (Z.ec 17 (by decide)).er, n7, rfl, ?_⟩
    refine ⟨_, rfl, p, _, 8, _, rfl, rfl, SqL.of hp, adr_int (n := 19) (j := 8) (by decide), as 8, cs 18, [("number", .int one)], .int one, rfl, he 8 (by decide), (Z.ec 18 (by decide)).er, n8, rfl, ?_⟩
    refine ⟨_, rfl, p, _, 9, _, rfl, rfl, SqL.of hp, adr_int (n := 19) (j := 9) (by decide), as 9, cs 19, [("number", .int one)], .int one, rfl, he 9 (by decide), (Z.ec 19 (by decide)).er, n9, rfl, ?_⟩
    refine ⟨_, rfl, p, _, 10, _, rfl, rfl, SqL.of hp, adr_int (n := 19) (j := 10) (by decide), as 10, cs 20, [("stone", .str "A")], .str "A", rfl, he 10 (by decide), (Z.ec 20 (by decide)).er, n10, rfl, ?_⟩
    refine ⟨(by show 5 ≤ sizeLine; decide), fun q1 m_q1 => ?_⟩
    have w_q1 := same_upd (o := .lst ([.str "bb", .int one, .int one, .int one, .str "A"])) m_q1
    have h_q1 : (upd (upd H p0 (.lst ([.int one, .int one, .int one, .int one, .int one, .str "ab"]))) q1 (.lst ([.str "bb", .int one, .int one, .int one, .str "A"]))) q1 = some (.lst ([.str "bb", .int one, .int one, .int one, .str "A"])) := upd_same
    replace hp := w_q1 _ _ hp
    replace he : ∀ i, i < 19 → ErrAt (upd (upd H p0 (.lst ([.int one, .int one, .int one, .int one, .int one, .str "ab"]))) q1 (.lst ([.str "bb", .int one, .int one, .int one, .str "A"]))) (as i) (cs (10 + i)) (due one r i) := fun i h => (he i h).same w_q1
    replace S0 := S0.trans w_q1
    replace h_p0 := w_q1 _ _ h_p0
    refine ⟨p0, q1, _, _, rfl, rfl, h_p0, h_q1, (by show 6 + 5 ≤ sizeLine; decide), fun p1 m_p1 => ?_⟩
    have w_p1 := same_upd (o := .lst ([.int one, .int one, .int one, .int one, .int one, .str "ab"] ++ [.str "bb", .int one, .int one, .int one, .str "A"])) m_p1
    have h_p1 : (upd (upd (upd H p0 (.lst ([.int one, .int one, .int one, .int one, .int one, .str "ab"]))) q1 (.lst ([.str "bb", .int one, .int one, .int one, .str "A"]))) p1 (.lst ([.int one, .int one, .int one, .int one, .int one, .str "ab"] ++ [.str "bb", .int one, .int one, .int one, .str "A"]))) p1 = some (.lst ([.int one, .int one, .int one, .int one, .int one, .str "ab", .str "bb", .int one, .int one, .int one, .str "A"])) := upd_same
    have z_p1 : H p1 = none := back S0 m_p1
    replace hp := w_p1 _ _ hp
    replace he : ∀ i, i < 19 → ErrAt (upd (upd (upd H p0 (.lst ([.int one, .int one, .int one, .int one, .int one, .str "ab"]))) q1 (.lst ([.str "bb", .int one, .int one, .int one, .str "A"]))) p1 (.lst ([.int one, .int one, .int one, .int one, .int one, .str "ab"] ++ [.str "bb", .int one, .int one, .int one, .str "A"]))) (as i) (cs (10 + i)) (due one r i) := fun i h => (he i h).same w_p1
    replace S0 := S0.trans w_p1
    refine ⟨_, rfl, ?_⟩
    refine ⟨_, rfl, p, _, 11, _, rfl, rfl, SqL.of hp, adr_int (n := 19) (j := 11) (by decide), as 11, cs 21, [("places", .ref r)], .ref r, rfl, he 11 (by decide), (Z.ec 21 (by decide)).er, n11, rfl, ?_⟩
    refine ⟨_, rfl, p, _, 12, _, rfl, rfl, SqL.of hp, adr_int (n := 19) (j := 12) (by decide), as 12, cs 22, [("index", .int one)], .int one, rfl, he 12 (by decide), (Z.ec 22 (by decide)).er, n12, rfl, ?_⟩
    refine ⟨_, rfl, p, _, 13, _, rfl, rfl, SqL.of hp, adr_int (n := 19) (j := 13) (by decide), as 13, cs 23, [("lacking", .ref r)], .ref r, rfl, he 13 (by decide), (Z.ec 23 (by decide)).er, n13, rfl, ?_⟩
    refine ⟨_, rfl, p, _, 14, _, rfl, rfl, SqL.of hp, adr_int (n := 19) (j := 14) (by decide), as 14, cs 24, [("cases", .int one)], .int one, rfl, he 14 (by decide), (Z.ec 24 (by decide)).er, n14, rfl, ?_⟩
    refine ⟨(by show 4 ≤ sizeLine; decide), fun q2 m_q2 => ?_⟩
    have w_q2 := same_upd (o := .lst ([.ref r, .int one, .ref r, .int one])) m_q2
    have h_q2 : (upd (upd (upd (upd H p0 (.lst ([.int one, .int one, .int one, .int one, .int one, .str "ab"]))) q1 (.lst ([.str "bb", .int one, .int one, .int one, .str "A"]))) p1 (.lst ([.int one, .int one, .int one, .int one, .int one, .str "ab"] ++ [.str "bb", .int one, .int one, .int one, .str "A"]))) q2 (.lst ([.ref r, .int one, .ref r, .int one]))) q2 = some (.lst ([.ref r, .int one, .ref r, .int one])) := upd_same
    replace hp := w_q2 _ _ hp
    replace he : ∀ i, i < 19 → ErrAt (upd (upd (upd (upd H p0 (.lst ([.int one, .int one, .int one, .int one, .int one, .str "ab"]))) q1 (.lst ([.str "bb", .int one, .int one, .int one, .str "A"]))) p1 (.lst ([.int one, .int one, .int one, .int one, .int one, .str "ab"] ++ [.str "bb", .int one, .int one, .int one, .str "A"]))) q2 (.lst ([.ref r, .int one, .ref r, .int one]))) (as i) (cs (10 + i)) (due one r i) := fun i h => (he i h).same w_q2
    replace S0 := S0.trans w_q2
    replace h_p1 := w_q2 _ _ h_p1
    refine ⟨p1, q2, _, _, rfl, rfl, h_p1, h_q2, (by show 11 + 4 ≤ sizeLine; decide), fun p2 m_p2 => ?_⟩
    have w_p2 := same_upd (o := .lst ([.int one, .int one, .int one, .int one, .int one, .str "ab", .str "bb", .int one, .int one, .int one, .str "A"] ++ [.ref r, .int one, .ref r, .int one])) m_p2
    have h_p2 : (upd (upd (upd (upd (upd H p0 (.lst ([.int one, .int one, .int one, .int one, .int one, .str "ab"]))) q1 (.lst ([.str "bb", .int one, .int one, .int one, .str "A"]))) p1 (.lst ([.int one, .int one, .int one, .int one, .int one, .str "ab"] ++ [.str "bb", .int one, .int one, .int one, .str "A"]))) q2 (.lst ([.ref r, .int one, .ref r, .int one]))) p2 (.lst ([.int one, .int one, .int one, .int one, .int one, .str "ab", .str "bb", .int one, .int one, .int one, .str "A"] ++ [.ref r, .int one, .ref r, .int one]))) p2 = some (.lst ([.int one, .int one, .int one, .int one, .int one, .str "ab", .str "bb", .int one, .int one, .int one, .str "A", .ref r, .int one, .ref r, .int one])) := upd_same
    have z_p2 : H p2 = none := back S0 m_p2
    replace hp := w_p2 _ _ hp
    replace he : ∀ i, i < 19 → ErrAt (upd (upd (upd (upd (upd H p0 (.lst ([.int one, .int one, .int one, .int one, .int one, .str "ab"]))) q1 (.lst ([.str "bb", .int one, .int one, .int one, .str "A"]))) p1 (.lst ([.int one, .int one, .int one, .int one, .int one, .str "ab"] ++ [.str "bb", .int one, .int one, .int one, .str "A"]))) q2 (.lst ([.ref r, .int one, .ref r, .int one]))) p2 (.lst ([.int one, .int one, .int one, .int one, .int one, .str "ab", .str "bb", .int one, .int one, .int one, .str "A"] ++ [.ref r, .int one, .ref r, .int one]))) (as i) (cs (10 + i)) (due one r i) := fun i h => (he i h).same w_p2
    replace S0 := S0.trans w_p2
    refine ⟨_, rfl, ?_⟩
    refine ⟨_, rfl, p, _, 15, _, rfl, rfl, SqL.of hp, adr_int (n := 19) (j := 15) (by decide), as 15, cs 25, [("name", .str "far")], .str "far", rfl, he 15 (by decide), (Z.ec 25 (by decide)).er, n15, rfl, ?_⟩
    refine ⟨(by show 1 ≤ sizeLine; decide), fun q3 m_q3 => ?_⟩
    have w_q3 := same_upd (o := .lst ([.str "far"])) m_q3
    have h_q3 : (upd (upd (upd (upd (upd (upd H p0 (.lst ([.int one, .int one, .int one, .int one, .int one, .str "ab"]))) q1 (.lst ([.str "bb", .int one, .int one, .int one, .str "A"]))) p1 (.lst ([.int one, .int one, .int one, .int one, .int one, .str "ab"] ++ [.str "bb", .int one, .int one, .int one, .str "A"]))) q2 (.lst ([.ref r, .int one, .ref r, .int one]))) p2 (.lst ([.int one, .int one, .int one, .int one, .int one, .str "ab", .str "bb", .int one, .int one, .int one, .str "A"] ++ [.ref r, .int one, .ref r, .int one]))) q3 (.lst ([.str "far"]))) q3 = some (.lst ([.str "far"])) := upd_same
    replace hp := w_q3 _ _ hp
    replace he : ∀ i, i < 19 → ErrAt (upd (upd (upd (upd (upd (upd H p0 (.lst ([.int one, .int one, .int one, .int one, .int one, .str "ab"]))) q1 (.lst ([.str "bb", .int one, .int one, .int one, .str "A"]))) p1 (.lst ([.int one, .int one, .int one, .int one, .int one, .str "ab"] ++ [.str "bb", .int one, .int one, .int one, .str "A"]))) q2 (.lst ([.ref r, .int one, .ref r, .int one]))) p2 (.lst ([.int one, .int one, .int one, .int one, .int one, .str "ab", .str "bb", .int one, .int one, .int one, .str "A"] ++ [.ref r, .int one, .ref r, .int one]))) q3 (.lst ([.str "far"]))) (as i) (cs (10 + i)) (due one r i) := fun i h => (he i h).same w_q3
    replace S0 := S0.trans w_q3
    replace h_p2 := w_q3 _ _ h_p2
    refine ⟨p2, q3, _, _, rfl, rfl, h_p2, h_q3, (by show 15 + 1 ≤ sizeLine; decide), fun p3 m_p3 => ?_⟩
    have w_p3 := same_upd (o := .lst ([.int one, .int one, .int one, .int one, .int one, .str "ab", .str "bb", .int one, .int one, .int one, .str "A", .ref r, .int one, .ref r, .int one] ++ [.str "far"])) m_p3
    have h_p3 : (upd (upd (upd (upd (upd (upd (upd H p0 (.lst ([.int one, .int one, .int one, .int one, .int one, .str "ab"]))) q1 (.lst ([.str "bb", .int one, .int one, .int one, .str "A"]))) p1 (.lst ([.int one, .int one, .int one, .int one, .int one, .str "ab"] ++ [.str "bb", .int one, .int one, .int one, .str "A"]))) q2 (.lst ([.ref r, .int one, .ref r, .int one]))) p2 (.lst ([.int one, .int one, .int one, .int one, .int one, .str "ab", .str "bb", .int one, .int one, .int one, .str "A"] ++ [.ref r, .int one, .ref r, .int one]))) q3 (.lst ([.str "far"]))) p3 (.lst ([.int one, .int one, .int one, .int one, .int one, .str "ab", .str "bb", .int one, .int one, .int one, .str "A", .ref r, .int one, .ref r, .int one] ++ [.str "far"]))) p3 = some (.lst ([.int one, .int one, .int one, .int one, .int one, .str "ab", .str "bb", .int one, .int one, .int one, .str "A", .ref r, .int one, .ref r, .int one, .str "far"])) := upd_same
    have z_p3 : H p3 = none := back S0 m_p3
    replace hp := w_p3 _ _ hp
    replace he : ∀ i, i < 19 → ErrAt (upd (upd (upd (upd (upd (upd (upd H p0 (.lst ([.int one, .int one, .int one, .int one, .int one, .str "ab"]))) q1 (.lst ([.str "bb", .int one, .int one, .int one, .str "A"]))) p1 (.lst ([.int one, .int one, .int one, .int one, .int one, .str "ab"] ++ [.str "bb", .int one, .int one, .int one, .str "A"]))) q2 (.lst ([.ref r, .int one, .ref r, .int one]))) p2 (.lst ([.int one, .int one, .int one, .int one, .int one, .str "ab", .str "bb", .int one, .int one, .int one, .str "A"] ++ [.ref r, .int one, .ref r, .int one]))) q3 (.lst ([.str "far"]))) p3 (.lst ([.int one, .int one, .int one, .int one, .int one, .str "ab", .str "bb", .int one, .int one, .int one, .str "A", .ref r, .int one, .ref r, .int one] ++ [.str "far"]))) (as i) (cs (10 + i)) (due one r i) := fun i h => (he i h).same w_p3
    replace S0 := S0.trans w_p3
    exact k p3 _ S0 z_p3 h_p3
end
end SmL
namespace SmL
open PySem PySem.Spec PyProof.Rows L2 Sm
section
variable {P : Program} {w : World} {K : PySem.W.Frag} {mg : Str → Option Value} {base : Heap} {S : Addr} {cs : Nat → Addr}
def datum (one : Int) (M : List Cell) : List PyData := [.int one, .int one, .int one, .int one, .int one, .str "ab", .str "bb", .int one, .int one, .int one, .str "A", .list (M.map dC), .int one, .list (M.map dC), .int one, .str "far"]
theorem datum_shaped (one : Int) (M : List Cell) : SeqAt.shaped (.list (datum one M)) = true := by
  have z := dCs_depth M
  have y := dCs_lay M
  simp [datum, SeqAt.shaped, PyData.canLay0, PyData.canLayAll0, PyData.depth, PyData.depthAll, y]
  generalize PyData.depthAll (M.map dC) = n at z
  have : n = 0 ∨ n = 1 := by omega
  rcases this with e | e <;> subst e <;> decide +kernel
theorem datum_eqv (one : Int) (M : List Cell) : PyData.eqv (.list (datum one M)) (.list (datum one M)) = true := by
  have z : PyData.eqv (.list (M.map dC)) (.list (M.map dC)) = true := by
    rw [dCs_eqv]
    exact decide_eq_true rfl
  have y : PyData.eqvAll (M.map dC) (M.map dC) = true := by simpa [PyData.eqv] using z
  simp [datum, PyData.eqv, PyData.eqvAll, y]
def spLaw (K : PySem.W.Frag) : Sp := fun vs H Q _ => ∃ (a : Addr) (ns : List Int), vs = [.ref a] ∧ SqL K H a (ns.map V.int) ∧ ns.length ≤ 63 ∧ ∀ H', Q (.bl true) H'
abbrev nLaw : List Str := ["_law_script", "_law_bag_here", "_law_one", "_law_two", "_law_row", "_law_cells", "_law_k", "_law_others", "_law_due"]
theorem scLaw : FnScope nLaw ["_law_script"] (defScope lLaw) := ⟨rfl, rfl, rfl, by decide +kernel, rfl, by decide +kernel, by decide +kernel⟩
theorem ok_law {f fBag fTake fSpots fCE fOE fIK fF : Addr} {fd dBag dTake dSpots dCE dOE dIK dF : FuncData} (F : Fun K "law" "law" lLaw f fd) (L : LTxt K mg) (Z : Kit K mg S cs) (nxy : ∀ i, i < 10 → PySem.W.findIn K (.ref (cs i)) "x" = some none ∧ PySem.W.findIn K (.ref (cs i)) "y" = some none)
    (cBag : Cl P w K mg base 1 "_law_bag" ["_law_script"] (spBag K) fBag dBag) (cTake : Cl P w K mg base 1 "_law_take" ["_law_bag_here", "_law_size"] spTake fTake dTake) (cSpots : Cl P w K mg base 3 "_law_spots" ["_law_bag_here", "_law_most"] spSpots fSpots dSpots)
    (cCE : Cl P w K mg base 3 "_law_cell_errors" ["_law_one", "_law_two"] (spCellErrors cs) fCE dCE) (cOE : Cl P w K mg base 3 "_law_other_errors" ["_law_one", "_law_row"] (spOtherErrors cs) fOE dOE)
    (cIK : Cl P w K mg base 2 "_law_is_kind" ["_law_e", "_law_at"] (spIsKind cs) fIK dIK) (cF : Cl P w K mg base 1 "_law_fields" ["_law_errors"] (spFields cs) fF dF) (mr : mg "range" = none) : FnOk P w K mg base CX0 4 f fd ["_law_script"] (spLaw K) := by
  refine F.ok scLaw (fun vs H Q E h => ?_) (fun cdv A outer s H vs Q E hr h => ?_)
  · obtain ⟨a, ns, rfl, _⟩ := h
    rfl
  · obtain ⟨a, ns, rfl, ha, few, k⟩ := h
    have hr1 : Room 1 _ := hr.mono (by decide)
    have hr2 : Room 2 _ := hr.mono (by decide)
    refine ⟨_, pss_cons (ps_set (i := 1) scLaw.nd rfl (.inl rfl) (pe_call cBag.ok hr1 (by rfl) cBag.gl cBag.kp cBag.bd .nil pass0 (pa_cons (pv 0) pa_nil)))
      (pss_cons (ps_set (i := 2) scLaw.nd rfl (.inl rfl) (pe_op op_add (pe_call cTake.ok hr1 (by rfl) cTake.gl cTake.kp cTake.bd .nil pass0 (pa_cons (pv 1) (pa_cons (pe_op op_pow pe_int pe_int) pa_nil))) pe_int))
      (pss_cons (ps_set (i := 3) scLaw.nd rfl (.inl rfl) (pe_op op_sub pe_int (pe_call cTake.ok hr1 (by rfl) cTake.gl cTake.kp cTake.bd .nil pass0 (pa_cons (pv 1) (pa_cons (pe_op op_pow pe_int pe_int) pa_nil)))))
      (C8.pss_cut (ps_if (pt_cmpR op_eq (pe_call cTake.ok hr1 (by rfl) cTake.gl cTake.kp cTake.bd .nil pass0 (pa_cons (pv 1) (pa_cons pe_int pa_nil))) pe_int (nomark _)) (pss_one (ps_set (i := 2) scLaw.nd rfl (.inl rfl) (pe_op op_sub pe_int (pv 2)))) pss_nil)
      (pss_cons (ps_set (i := 4) scLaw.nd rfl (.inl rfl) (pe_call cSpots.ok hr (by rfl) cSpots.gl cSpots.kp cSpots.bd .nil pass0 (pa_cons (pv 1) (pa_cons pe_int pa_nil))))
      (pss_cons (ps_set (i := 5) scLaw.nd rfl (.inl rfl) (pe_call cCE.ok hr (by rfl) cCE.gl cCE.kp cCE.bd .nil pass0 (pa_cons (pv 2) (pa_cons (pv 3) pa_nil))))
      (pss_cons (ps_for PassesOwn.never rfl (pi_range1 (by rfl) mr (pa_cons pe_int pa_nil)) (pg_name (i := 6) scLaw.nd rfl (.inl rfl)) (pss_one (ps_if (PW.pt (pw_or (pt_not (pt_val (pe_call cIK.ok hr2 (by rfl) cIK.gl cIK.kp cIK.bd .nil pass0 (pa_cons (pe_ix ix_list (pv 5) (pv 6) (fun _ _ => rfl)) (pa_cons (pv 6) pa_nil))))) (pw_or (pt_cmpR op_ne (pe_errF (pe_ix ix_list (pv 5) (pv 6) (fun _ _ => rfl))) (pv 2) (nomark _)) (pw_or1 (pt_cmpR op_ne (pe_errF (pe_ix ix_list (pv 5) (pv 6) (fun _ _ => rfl))) (pv 3) (nomark _)))))) (pss_one (ps_ret pe_bl)) pss_nil)))
      (pss_cons (ps_set (i := 7) scLaw.nd rfl (.inl rfl) (pe_call cOE.ok hr (by rfl) cOE.gl cOE.kp cOE.bd .nil pass0 (pa_cons (pv 2) (pa_cons (pe_callTy call_list_of (by rfl) L.lst (by decide +kernel) (pa_cons (pv 4) pa_nil)) pa_nil))))
      (pss_cons (ps_for PassesOwn.never rfl (pi_range1 (by rfl) mr (pa_cons pe_int pa_nil)) (pg_name (i := 6) scLaw.nd rfl (.inl rfl)) (pss_one (ps_if (pt_not (pt_val (pe_call cIK.ok hr2 (by rfl) cIK.gl cIK.kp cIK.bd .nil pass0 (pa_cons (pe_ix ix_list (pv 7) (pv 6) (fun _ _ => rfl)) (pa_cons (pe_op op_add pe_int (pv 6)) pa_nil))))) (pss_one (ps_ret pe_bl)) pss_nil)))
      (pss_cons (ps_set (i := 8) scLaw.nd rfl (.inl rfl) (pe_lst (pa_cons (pv 2) (pa_cons (pv 2) (pa_cons (pv 2) (pa_cons (pv 2) (pa_cons (pv 2) (pa_cons pe_str (pa_cons pe_str (pa_cons (pv 2) (pa_cons (pv 2) (pa_cons (pv 2) (pa_cons pe_str (pa_cons (pv 4) (pa_cons (pv 2) (pa_cons (pv 4) (pa_cons (pv 2) (pa_cons pe_str pa_nil))))))))))))))))))
      (pss_one (ps_ret (pe_cmpR (op_eqD hr.units) (pe_call cF.ok hr1 (by rfl) cF.gl cF.kp cF.bd .nil pass0 (pa_cons (pv 7) pa_nil)) (pv 8) (nomark _))))))))))))), ?_⟩
    refine ⟨_, rfl, a, ns, rfl, ha, few, fun b l H1 s1 nb hb => ?_⟩
    refine ⟨_, rfl, _, _, rfl, rfl, ⟨by decide, by decide, by decide⟩, b, l, _, rfl, hb, by decide, by decide, fun n1 H2 p1 q1 bu2 hb2 => ⟨_, _, rfl, rfl, ?_⟩⟩
    refine ⟨_, rfl, _, _, rfl, rfl, ⟨by decide, by decide, by decide⟩, b, l, _, rfl, hb2, by decide, by decide, fun n2 H3 p2 q2 bu3 hb3 => ⟨_, _, rfl, rfl, ?_⟩⟩
    refine ⟨fun σ G => ∃ one two : Int, σ = [some (.ref a), some (.ref b), some (.int one), some (.int two), Option.none, Option.none, Option.none, Option.none, Option.none] ∧ BagL G b l, ?_, ?_⟩
    · exact ⟨_, rfl, b, l, 2, rfl, hb3, by decide, by decide, fun n3 H4 p3 q3 bu4 hb4 => ⟨rfl, _, rfl, ite2 (fun _ => ⟨_, rfl, _, _, rfl, rfl, _, _, rfl, hb4⟩) (fun _ => ⟨_, _, rfl, hb4⟩)⟩⟩
    · rintro σ G ⟨one, two, rfl, hbG⟩
      refine ⟨_, rfl, b, l, 5, rfl, hbG, by decide, by decide, fun p ks H5 sb5 hb5 np hp hks lks _ => ?_⟩
      have l5 : ks.length ≤ 5 := by omega
      refine ⟨_, rfl, _, rfl, one, two, rfl, fun pc as H6 s6 npc hpc eas => ?_⟩
      -- the ten
      refine ⟨10, rfl, by decide, by decide, for_range (lo := 0) (n := 10) (fun i σ G' => ∃ y, σ = [some (.ref a), some (.ref b), some (.int one), some (.int two), some (.ref p), some (.ref pc), y, Option.none, Option.none] ∧ Same H6 G') ⟨_, rfl, Same.refl _⟩ ?_ ?_⟩
      · rintro i σ G' hi ⟨y, rfl, sm⟩
        have hi10 : i < 10 := by omega
        have e0 : (0 : Int) + (i : Int) = (i : Int) := Int.zero_add _
        rw [e0]
        have ei := (eas i hi10).same sm
        refine ⟨_, rfl, _, rfl, pc, _, _, _, rfl, rfl, SqL.of (sm _ _ hpc), adr_int hi10, _, rfl, as i, i, _, rfl, by omega, ei, fun G2 sg => ⟨true, rfl, iteF ?_⟩⟩
        have s2 := sm.trans sg
        have ei2 := ei.same sg
        refine ⟨_, rfl, _, rfl, pc, _, _, _, rfl, rfl, SqL.of (s2 _ _ hpc), adr_int hi10, as i, cs i, _, .int one, rfl, ei2, (Z.ec i (by omega)).er, (nxy i hi10).1, rfl, _, rfl, rfl, _, rfl, iteFe (by simp) ?_⟩
        exact ⟨_, rfl, _, rfl, pc, _, _, _, rfl, rfl, SqL.of (s2 _ _ hpc), adr_int hi10, as i, cs i, _, .int two, rfl, ei2, (Z.ec i (by omega)).er, (nxy i hi10).2, rfl, _, rfl, rfl, _, rfl, iteFe (by simp) ⟨_, rfl, s2⟩⟩
      · rintro σ G' ⟨y, rfl, sm⟩
        have hp6 : G' p = some (.lst (refs ks)) := sm _ _ (s6 _ _ hp)
        have hks6 : Tups G' ks := (hks.same s6).same sm
        refine ⟨_, rfl, _, rfl, p, _, rfl, .inl (SqL.of hp6), fun c nc => ?_⟩
        have uc := same_upd (o := .lst (refs ks)) nc
        refine ⟨one, c, rfl, fun po bs H7 s7 npo hpo ebs => ?_⟩
        have t7 : Same G' H7 := uc.trans s7
        have hc7 : H7 c = some (.lst (refs ks)) := s7 _ _ upd_same
        -- the nineteen
        refine ⟨19, rfl, by decide, by decide, for_range (lo := 0) (n := 19) (fun i σ G3 => ∃ y, σ = [some (.ref a), some (.ref b), some (.int one), some (.int two), some (.ref p), some (.ref pc), y, some (.ref po), Option.none] ∧ Same H7 G3) ⟨_, rfl, Same.refl _⟩ ?_ ?_⟩
        · rintro i σ G3 hi ⟨y, rfl, sm3⟩
          have hi19 : i < 19 := by omega
          have e0 : (0 : Int) + (i : Int) = (i : Int) := Int.zero_add _
          rw [e0]
          have ei := (ebs i hi19).same sm3
          exact ⟨_, rfl, _, rfl, po, _, _, _, rfl, rfl, SqL.of (sm3 _ _ hpo), adr_int hi19, _, rfl, 10, (i : Int), rfl, rfl, bs i, 10 + i, _, rfl, by omega, ei, fun G4 sg => ⟨true, rfl, iteF ⟨_, rfl, sm3.trans sg⟩⟩⟩
        · rintro σ G3 ⟨y, rfl, sm3⟩
          refine ⟨_, rfl, _, rfl, _, rfl, _, rfl, _, rfl, _, rfl, _, rfl, _, rfl, _, rfl, _, rfl, _, rfl, _, rfl, (by show 16 ≤ sizeLine; decide), fun d nd => ?_⟩
          have ud := same_upd (o := .lst ([.int one, .int one, .int one, .int one, .int one, .str "ab", .str "bb", .int one, .int one, .int one, .str "A", .ref p, .int one, .ref p, .int one, .str "far"])) nd
          have hd : (upd G3 d (.lst ([.int one, .int one, .int one, .int one, .int one, .str "ab", .str "bb", .int one, .int one, .int one, .str "A", .ref p, .int one, .ref p, .int one, .str "far"]))) d = some (.lst ([.int one, .int one, .int one, .int one, .int one, .str "ab", .str "bb", .int one, .int one, .int one, .str "A", .ref p, .int one, .ref p, .int one, .str "far"])) := upd_same
          generalize upd G3 d (.lst ([.int one, .int one, .int one, .int one, .int one, .str "ab", .str "bb", .int one, .int one, .int one, .str "A", .ref p, .int one, .ref p, .int one, .str "far"])) = G4 at ud hd
          have s4 : Same H7 G4 := sm3.trans ud
          refine ⟨_, rfl, po, bs, one, c, rfl, s4 _ _ hpo, fun i hi => (ebs i hi).same s4, fun q G5 sq nq hq => ?_⟩
          have s5 : Same H7 G5 := s4.trans sq
          have hp5 : G5 p = some (.lst (refs ks)) := s5 _ _ (t7 _ _ hp6)
          have hk5 : Tups G5 ks := (hks6.same t7).same s5
          have d1 : Dp K G5 (.ref q) (.list (datum one (cellsOf ks))) := .lst (SqL.of hq) (.cons (.int _) (.cons (.int _) (.cons (.int _) (.cons (.int _) (.cons (.int _) (.cons (.str _) (.cons (.str _) (.cons (.int _) (.cons (.int _) (.cons (.int _) (.cons (.str _) (.cons (dp_list (SqL.of (s5 _ _ hc7)) hk5) (.cons (.int _) (.cons (dp_list (SqL.of (s5 _ _ hc7)) hk5) (.cons (.int _) (.cons (.str _) .nil))))))))))))))))
          have d2 : Dp K G5 (.ref d) (.list (datum one (cellsOf ks))) := .lst (SqL.of (sq _ _ hd)) (.cons (.int _) (.cons (.int _) (.cons (.int _) (.cons (.int _) (.cons (.int _) (.cons (.str _) (.cons (.str _) (.cons (.int _) (.cons (.int _) (.cons (.int _) (.cons (.str _) (.cons (dp_list (SqL.of hp5) hk5) (.cons (.int _) (.cons (dp_list (SqL.of hp5) hk5) (.cons (.int _) (.cons (.str _) .nil))))))))))))))))
          refine ⟨_, rfl, _, _, d1, d2, datum_shaped _ _, datum_shaped _ _, ?_⟩
          rw [datum_eqv]
          exact k G5
end
end SmL
namespace SmL
open PySem PySem.Spec PyProof.Rows L2 Sm
/-- what the written part says of an error class at C below S -/
structure Raw (K : PySem.W.Frag) (S C : Addr) (name : Str) : Prop where
  gl : PySem.W.nsIn K mainGlobals name = some (some (.ref C))
  cd : ∃ cd, PySem.W.clsIn K C = some cd ∧ cd.mro = [.ref C, .ref S, .type "ValueError", .type "Exception", .type "BaseException", .type "object"]
  ty : PySem.W.typeIn K (.ref C) = some (.type "type")
  hg : PySem.W.findIn K (.ref C) "__getattribute__" = some (some (.builtin "BaseException.__getattribute__"))
  hk : PySem.W.findIn K (.ref C) "__getattr__" = some none
  hs : PySem.W.subIn K (.ref C) (.type "BaseException") = some true
  ha : PySem.W.findIn K (.ref C) "__class__" = some (some (.builtin "object.__class__"))
  hm : PySem.W.mroIn K C (.type "object") = some true
  hd : PySem.W.hasDictIn K C = true
  kp : PySem.W.keepIn K (.ref C) = true
/-- and of its __init__ at f -/
structure RawI (K : PySem.W.Frag) (C f : Addr) (qual : Str) (st : Stmt) (fd : FuncData) : Prop where
  lk : ∃ nm q N bs bm sn sub ab col dd k0 k1 k2 k3 k5, K.lookup C = some (excClassObj nm q C N bs bm true sn sub ab col dd k0 k1 k2 k3 k5 "ValueError.__new__") ∧ PySem.HandSPX.refsVE bm = true
  sa : PySem.W.findIn K (.ref C) "__setattr__" = some (some (.builtin "object.__setattr__"))
  at_ : PySem.W.findIn K (.ref C) "__init__" = some (some (.ref f))
  ty : PySem.W.typeIn K (.ref f) = some (.type "function")
  fn : Fun K "__init__" qual st f fd
theorem raw_mk {K : PySem.W.Frag} {S C : Addr} {name : Str} {cd : ClassData} (gl : PySem.W.nsIn K mainGlobals name = some (some (.ref C))) (h : PySem.W.clsIn K C = some cd) (m : cd.mro = [.ref C, .ref S, .type "ValueError", .type "Exception", .type "BaseException", .type "object"])
    (ty : PySem.W.typeIn K (.ref C) = some (.type "type")) (hg : PySem.W.findIn K (.ref C) "__getattribute__" = some (some (.builtin "BaseException.__getattribute__"))) (hk : PySem.W.findIn K (.ref C) "__getattr__" = some none) (hs : PySem.W.subIn K (.ref C) (.type "BaseException") = some true)
    (ha : PySem.W.findIn K (.ref C) "__class__" = some (some (.builtin "object.__class__"))) (hm : PySem.W.mroIn K C (.type "object") = some true) (hd : PySem.W.hasDictIn K C = true) (kp : PySem.W.keepIn K (.ref C) = true) : Raw K S C name := ⟨gl, ⟨cd, h, m⟩, ty, hg, hk, hs, ha, hm, hd, kp⟩
theorem rawI_mk {K : PySem.W.Frag} {C f : Addr} {qual : Str} {st : Stmt} {nm q : Str} {N : Addr} {bs bm : List Value} {sn : List Str} {sub : List Value} {ab : Bool} {col : Option Bool} {dd : Option Addr} {k0 k1 k2 k3 k5 : Option Value}
    {oc : Value} {od an : Option Addr} {osl : Array (Option Value)} {kV doc pm cdv ct : Value}
    (l : K.lookup C = some (excClassObj nm q C N bs bm true sn sub ab col dd k0 k1 k2 k3 k5 "ValueError.__new__")) (b : PySem.HandSPX.refsVE bm = true) (sa : PySem.W.findIn K (.ref C) "__setattr__" = some (some (.builtin "object.__setattr__")))
    (at_ : PySem.W.findIn K (.ref C) "__init__" = some (some (.ref f))) (ty : PySem.W.typeIn K (.ref f) = some (.type "function"))
    (l2 : K.lookup f = some ⟨oc, od, .func (PySem.W.fnOf "__init__" qual (defArgs st) (defBody st) (defScope st) .none kV doc pm an cdv ct), osl⟩) (c2 : PySem.W.codeIn K cdv qual = true) (k2' : PySem.W.keepIn K (.ref f) = true) :
    RawI K C f qual st (PySem.W.fnOf "__init__" qual (defArgs st) (defBody st) (defScope st) .none kV doc pm an cdv ct) := ⟨⟨nm, q, N, bs, bm, sn, sub, ab, col, dd, k0, k1, k2, k3, k5, l, b⟩, sa, at_, ty, fun_mk l2 c2 k2'⟩
theorem Raw.er {K : PySem.W.Frag} {S C : Addr} {n : Str} (r : Raw K S C n) (hn : PySem.W.specialIn K (.builtin "object.__class__") "__get__" = some (some (.builtin "getset_descriptor.__get__"))) (ht : PySem.W.takesIn K (.builtin "object.__class__") = some true) : ECls K S C := by
  refine ⟨⟨?_, r.hg, r.hk, r.hs, r.ha, hn, ht, r.hm, r.hd⟩, r.cd, r.ty⟩
  obtain ⟨cd, h, _⟩ := r.cd
  rw [h]
  rfl
theorem RawI.oex {K : PySem.W.Frag} {S C f : Addr} {n q : Str} {st : Stmt} {fd : FuncData} (i : RawI K C f q st fd) (r : Raw K S C n) : OexC K C := ⟨i.lk, i.sa, r.hs, r.ty, r.kp⟩
theorem up {P : Nat → Prop} {n : Nat} (h : ∀ i, i < n → P i) (k : P n) : ∀ i, i < n + 1 → P i := fun i hi => if e : i = n then e ▸ k else h i (by omega)
theorem up0 {P : Nat → Prop} : ∀ i, i < 0 → P i := fun i h => absurd h (Nat.not_lt_zero i)
def csOf (l : List Addr) (i : Nat) : Addr := l.getD i 0
def apart (l : List Addr) (S : Addr) : Bool := (List.range 29).all fun i => !(csOf l i == S) && (List.range 29).all fun j => !(csOf l i == csOf l j) || i == j
theorem apart_inj {l : List Addr} {S : Addr} (h : apart l S = true) (i j : Nat) (hi : i < 29) (hj : j < 29) (e : csOf l i = csOf l j) : i = j := by
  unfold apart at h
  have a := List.all_eq_true.mp h i (List.mem_range.mpr hi)
  have b := List.all_eq_true.mp (Bool.and_eq_true_iff.mp a).2 j (List.mem_range.mpr hj)
  simpa [e] using b
theorem apart_ns {l : List Addr} {S : Addr} (h : apart l S = true) (i : Nat) (hi : i < 29) : csOf l i ≠ S := by
  unfold apart at h
  have a := List.all_eq_true.mp h i (List.mem_range.mpr hi)
  have b := (Bool.and_eq_true_iff.mp a).1
  simpa using b

theorem all_mk {l : PySem.W.OpenLaw} {w : World} {K : PySem.W.Frag} {h : Heap} {mg : Str → Option Value} {fa S C0 C1 C2 C3 C4 C5 C6 C7 C8 C9 C10 C11 C12 C13 C14 C15 C16 C17 C18 C19 C20 C21 C22 C23 C24 C25 C26 C27 C28 f0 f1 f2 f3 f4 f5 f6 f7 f8 f9 f10 f11 f12 f13 f14 f15 f16 f17 f18 f19 f20 f21 f22 f23 f24 f25 fBag fTake fSpot fSpots fCK fOK fIK fCE fOE fFi fLaw : Addr} {cdS : ClassData} {d0 d1 d2 d3 d4 d5 d6 d7 d8 d9 d10 d11 d12 d13 d14 d15 d16 d17 d18 d19 d20 d21 d22 d23 d24 d25 : FuncData} (X : K.In h) (G : h.Ns mainGlobals mg) (hfa : mg "law" = some (.ref fa))
    {odBag anBag odTake anTake odSpot anSpot odSpots anSpots odCK anCK odOK anOK odIK anIK odCE anCE odOE anOE odFi anFi odLaw anLaw : Option Addr}
    {slBag slTake slSpot slSpots slCK slOK slIK slCE slOE slFi slLaw : Array (Option Value)}
    {ocBag kVBag dcBag pmBag cdBag ctBag ocTake kVTake dcTake pmTake cdTake ctTake ocSpot kVSpot dcSpot pmSpot cdSpot ctSpot ocSpots kVSpots dcSpots pmSpots cdSpots ctSpots ocCK kVCK dcCK pmCK cdCK ctCK ocOK kVOK dcOK pmOK cdOK ctOK ocIK kVIK dcIK pmIK cdIK ctIK ocCE kVCE dcCE pmCE cdCE ctCE ocOE kVOE dcOE pmOE cdOE ctOE ocFi kVFi dcFi pmFi cdFi ctFi ocLaw kVLaw dcLaw pmLaw cdLaw ctLaw : Value}
    (aS : PySem.W.nsIn K mainGlobals "SmaltiError" = some (some (.ref S)))
    (cS : PySem.W.clsIn K S = some cdS)
    (tS : PySem.W.typeIn K (.ref S) = some (.type "type"))
    (cn : PySem.W.specialIn K (.builtin "object.__class__") "__get__" = some (some (.builtin "getset_descriptor.__get__")))
    (ct : PySem.W.takesIn K (.builtin "object.__class__") = some true)
    (r0 : Raw K S C0 "OutOfPicture")
    (r1 : Raw K S C1 "NoStone")
    (r2 : Raw K S C2 "NoHole")
    (r3 : Raw K S C3 "EmptyCell")
    (r4 : Raw K S C4 "Opposed")
    (r5 : Raw K S C5 "NotOld")
    (r6 : Raw K S C6 "NotNew")
    (r7 : Raw K S C7 "SurelyOld")
    (r8 : Raw K S C8 "SurelyNew")
    (r9 : Raw K S C9 "SurelyAfter")
    (r10 : Raw K S C10 "InvalidPicture")
    (r11 : Raw K S C11 "InvalidRule")
    (r12 : Raw K S C12 "InvalidBook")
    (r13 : Raw K S C13 "InvalidSketch")
    (r14 : Raw K S C14 "InvalidHistory")
    (r15 : Raw K S C15 "InvalidSign")
    (r16 : Raw K S C16 "InvalidSigns")
    (r17 : Raw K S C17 "InvalidLimit")
    (r18 : Raw K S C18 "NoRule")
    (r19 : Raw K S C19 "NoPhotograph")
    (r20 : Raw K S C20 "WrongStone")
    (r21 : Raw K S C21 "RuleClash")
    (r22 : Raw K S C22 "BadDeed")
    (r23 : Raw K S C23 "Impossible")
    (r24 : Raw K S C24 "TooManyCases")
    (r25 : Raw K S C25 "UnknownOption")
    (r26 : Raw K S C26 "UnequalSize")
    (r27 : Raw K S C27 "NothingToUndo")
    (r28 : Raw K S C28 "StillPossible")
    (q0 : RawI K C0 f0 "OutOfPicture.__init__" iOutOfPicture d0)
    (n0x : PySem.W.findIn K (.ref C0) "x" = some none)
    (n0y : PySem.W.findIn K (.ref C0) "y" = some none)
    (q1 : RawI K C1 f1 "NoStone.__init__" iNoStone d1)
    (n1x : PySem.W.findIn K (.ref C1) "x" = some none)
    (n1y : PySem.W.findIn K (.ref C1) "y" = some none)
    (q2 : RawI K C2 f2 "NoHole.__init__" iNoHole d2)
    (n2x : PySem.W.findIn K (.ref C2) "x" = some none)
    (n2y : PySem.W.findIn K (.ref C2) "y" = some none)
    (q3 : RawI K C3 f3 "EmptyCell.__init__" iEmptyCell d3)
    (n3x : PySem.W.findIn K (.ref C3) "x" = some none)
    (n3y : PySem.W.findIn K (.ref C3) "y" = some none)
    (q4 : RawI K C4 f4 "Opposed.__init__" iOpposed d4)
    (n4x : PySem.W.findIn K (.ref C4) "x" = some none)
    (n4y : PySem.W.findIn K (.ref C4) "y" = some none)
    (q5 : RawI K C5 f5 "NotOld.__init__" iNotOld d5)
    (n5x : PySem.W.findIn K (.ref C5) "x" = some none)
    (n5y : PySem.W.findIn K (.ref C5) "y" = some none)
    (q6 : RawI K C6 f6 "NotNew.__init__" iNotNew d6)
    (n6x : PySem.W.findIn K (.ref C6) "x" = some none)
    (n6y : PySem.W.findIn K (.ref C6) "y" = some none)
    (q7 : RawI K C7 f7 "SurelyOld.__init__" iSurelyOld d7)
    (n7x : PySem.W.findIn K (.ref C7) "x" = some none)
    (n7y : PySem.W.findIn K (.ref C7) "y" = some none)
    (q8 : RawI K C8 f8 "SurelyNew.__init__" iSurelyNew d8)
    (n8x : PySem.W.findIn K (.ref C8) "x" = some none)
    (n8y : PySem.W.findIn K (.ref C8) "y" = some none)
    (q9 : RawI K C9 f9 "SurelyAfter.__init__" iSurelyAfter d9)
    (n9x : PySem.W.findIn K (.ref C9) "x" = some none)
    (n9y : PySem.W.findIn K (.ref C9) "y" = some none)
    (q10 : RawI K C10 f10 "InvalidPicture.__init__" iInvalidPicture d10)
    (n10line : PySem.W.findIn K (.ref C10) "line" = some none)
    (q11 : RawI K C11 f11 "InvalidRule.__init__" iInvalidRule d11)
    (n11part : PySem.W.findIn K (.ref C11) "part" = some none)
    (q12 : RawI K C12 f12 "InvalidBook.__init__" iInvalidBook d12)
    (n12line : PySem.W.findIn K (.ref C12) "line" = some none)
    (q13 : RawI K C13 f13 "InvalidSketch.__init__" iInvalidSketch d13)
    (n13line : PySem.W.findIn K (.ref C13) "line" = some none)
    (q14 : RawI K C14 f14 "InvalidHistory.__init__" iInvalidHistory d14)
    (n14line : PySem.W.findIn K (.ref C14) "line" = some none)
    (q15 : RawI K C15 f15 "InvalidSign.__init__" iInvalidSign d15)
    (n15sign : PySem.W.findIn K (.ref C15) "sign" = some none)
    (q16 : RawI K C16 f16 "InvalidSigns.__init__" iInvalidSigns d16)
    (n16signs : PySem.W.findIn K (.ref C16) "signs" = some none)
    (q17 : RawI K C17 f17 "InvalidLimit.__init__" iInvalidLimit d17)
    (n17value : PySem.W.findIn K (.ref C17) "value" = some none)
    (q18 : RawI K C18 f18 "NoRule.__init__" iNoRule d18)
    (n18number : PySem.W.findIn K (.ref C18) "number" = some none)
    (q19 : RawI K C19 f19 "NoPhotograph.__init__" iNoPhotograph d19)
    (n19number : PySem.W.findIn K (.ref C19) "number" = some none)
    (q20 : RawI K C20 f20 "WrongStone.__init__" iWrongStone d20)
    (n20stone : PySem.W.findIn K (.ref C20) "stone" = some none)
    (q21 : RawI K C21 f21 "RuleClash.__init__" iRuleClash d21)
    (n21places : PySem.W.findIn K (.ref C21) "places" = some none)
    (q22 : RawI K C22 f22 "BadDeed.__init__" iBadDeed d22)
    (n22index : PySem.W.findIn K (.ref C22) "index" = some none)
    (q23 : RawI K C23 f23 "Impossible.__init__" iImpossible d23)
    (n23lacking : PySem.W.findIn K (.ref C23) "lacking" = some none)
    (q24 : RawI K C24 f24 "TooManyCases.__init__" iTooManyCases d24)
    (n24cases : PySem.W.findIn K (.ref C24) "cases" = some none)
    (q25 : RawI K C25 f25 "UnknownOption.__init__" iUnknownOption d25)
    (n25name : PySem.W.findIn K (.ref C25) "name" = some none)
    (x26 : PySem.W.excIn K C26 [.type "ValueError", .type "Exception", .type "BaseException", .type "object"] "ValueError.__new__" = true)
    (x27 : PySem.W.excIn K C27 [.type "ValueError", .type "Exception", .type "BaseException", .type "object"] "ValueError.__new__" = true)
    (x28 : PySem.W.excIn K C28 [.type "ValueError", .type "Exception", .type "BaseException", .type "object"] "ValueError.__new__" = true)
    (aBag : PySem.W.nsIn K mainGlobals "_law_bag" = some (some (.ref fBag)))
    (lBag : K.lookup fBag = some ⟨ocBag, odBag, .func (PySem.W.fnOf "_law_bag" "_law_bag" (defArgs lBag) (defBody lBag) (defScope lBag) .none kVBag dcBag pmBag anBag cdBag ctBag), slBag⟩)
    (cBag : PySem.W.codeIn K cdBag "_law_bag" = true)
    (kBag : PySem.W.keepIn K (.ref fBag) = true)
    (aTake : PySem.W.nsIn K mainGlobals "_law_take" = some (some (.ref fTake)))
    (lTake : K.lookup fTake = some ⟨ocTake, odTake, .func (PySem.W.fnOf "_law_take" "_law_take" (defArgs lTake) (defBody lTake) (defScope lTake) .none kVTake dcTake pmTake anTake cdTake ctTake), slTake⟩)
    (cTake : PySem.W.codeIn K cdTake "_law_take" = true)
    (kTake : PySem.W.keepIn K (.ref fTake) = true)
    (aSpot : PySem.W.nsIn K mainGlobals "_law_spot" = some (some (.ref fSpot)))
    (lSpot : K.lookup fSpot = some ⟨ocSpot, odSpot, .func (PySem.W.fnOf "_law_spot" "_law_spot" (defArgs lSpot) (defBody lSpot) (defScope lSpot) .none kVSpot dcSpot pmSpot anSpot cdSpot ctSpot), slSpot⟩)
    (cSpot : PySem.W.codeIn K cdSpot "_law_spot" = true)
    (kSpot : PySem.W.keepIn K (.ref fSpot) = true)
    (aSpots : PySem.W.nsIn K mainGlobals "_law_spots" = some (some (.ref fSpots)))
    (lSpots : K.lookup fSpots = some ⟨ocSpots, odSpots, .func (PySem.W.fnOf "_law_spots" "_law_spots" (defArgs lSpots) (defBody lSpots) (defScope lSpots) .none kVSpots dcSpots pmSpots anSpots cdSpots ctSpots), slSpots⟩)
    (cSpots : PySem.W.codeIn K cdSpots "_law_spots" = true)
    (kSpots : PySem.W.keepIn K (.ref fSpots) = true)
    (aCK : PySem.W.nsIn K mainGlobals "_law_cell_kinds" = some (some (.ref fCK)))
    (lCK : K.lookup fCK = some ⟨ocCK, odCK, .func (PySem.W.fnOf "_law_cell_kinds" "_law_cell_kinds" (defArgs lCellKinds) (defBody lCellKinds) (defScope lCellKinds) .none kVCK dcCK pmCK anCK cdCK ctCK), slCK⟩)
    (cCK : PySem.W.codeIn K cdCK "_law_cell_kinds" = true)
    (kCK : PySem.W.keepIn K (.ref fCK) = true)
    (aOK : PySem.W.nsIn K mainGlobals "_law_other_kinds" = some (some (.ref fOK)))
    (lOK : K.lookup fOK = some ⟨ocOK, odOK, .func (PySem.W.fnOf "_law_other_kinds" "_law_other_kinds" (defArgs lOtherKinds) (defBody lOtherKinds) (defScope lOtherKinds) .none kVOK dcOK pmOK anOK cdOK ctOK), slOK⟩)
    (cOK : PySem.W.codeIn K cdOK "_law_other_kinds" = true)
    (kOK : PySem.W.keepIn K (.ref fOK) = true)
    (aIK : PySem.W.nsIn K mainGlobals "_law_is_kind" = some (some (.ref fIK)))
    (lIK : K.lookup fIK = some ⟨ocIK, odIK, .func (PySem.W.fnOf "_law_is_kind" "_law_is_kind" (defArgs lIsKind) (defBody lIsKind) (defScope lIsKind) .none kVIK dcIK pmIK anIK cdIK ctIK), slIK⟩)
    (cIK : PySem.W.codeIn K cdIK "_law_is_kind" = true)
    (kIK : PySem.W.keepIn K (.ref fIK) = true)
    (aCE : PySem.W.nsIn K mainGlobals "_law_cell_errors" = some (some (.ref fCE)))
    (lCE : K.lookup fCE = some ⟨ocCE, odCE, .func (PySem.W.fnOf "_law_cell_errors" "_law_cell_errors" (defArgs lCellErrors) (defBody lCellErrors) (defScope lCellErrors) .none kVCE dcCE pmCE anCE cdCE ctCE), slCE⟩)
    (cCE : PySem.W.codeIn K cdCE "_law_cell_errors" = true)
    (kCE : PySem.W.keepIn K (.ref fCE) = true)
    (aOE : PySem.W.nsIn K mainGlobals "_law_other_errors" = some (some (.ref fOE)))
    (lOE : K.lookup fOE = some ⟨ocOE, odOE, .func (PySem.W.fnOf "_law_other_errors" "_law_other_errors" (defArgs lOtherErrors) (defBody lOtherErrors) (defScope lOtherErrors) .none kVOE dcOE pmOE anOE cdOE ctOE), slOE⟩)
    (cOE : PySem.W.codeIn K cdOE "_law_other_errors" = true)
    (kOE : PySem.W.keepIn K (.ref fOE) = true)
    (aFi : PySem.W.nsIn K mainGlobals "_law_fields" = some (some (.ref fFi)))
    (lFi : K.lookup fFi = some ⟨ocFi, odFi, .func (PySem.W.fnOf "_law_fields" "_law_fields" (defArgs lFields) (defBody lFields) (defScope lFields) .none kVFi dcFi pmFi anFi cdFi ctFi), slFi⟩)
    (cFi : PySem.W.codeIn K cdFi "_law_fields" = true)
    (kFi : PySem.W.keepIn K (.ref fFi) = true)
    (aLaw : PySem.W.nsIn K mainGlobals "law" = some (some (.ref fLaw)))
    (lLaw : K.lookup fLaw = some ⟨ocLaw, odLaw, .func (PySem.W.fnOf "law" "law" (defArgs lLaw) (defBody lLaw) (defScope lLaw) .none kVLaw dcLaw pmLaw anLaw cdLaw ctLaw), slLaw⟩)
    (cLaw : PySem.W.codeIn K cdLaw "law" = true)
    (kLaw : PySem.W.keepIn K (.ref fLaw) = true)
    (zisinstance : PySem.W.nsIn K mainGlobals "isinstance" = some none)
    (zint : PySem.W.nsIn K mainGlobals "int" = some none)
    (zlist : PySem.W.nsIn K mainGlobals "list" = some none)
    (zlen : PySem.W.nsIn K mainGlobals "len" = some none)
    (zrange : PySem.W.nsIn K mainGlobals "range" = some none)
    (zValueError : PySem.W.nsIn K mainGlobals "ValueError" = some none)
    (apt : apart [C0, C1, C2, C3, C4, C5, C6, C7, C8, C9, C10, C11, C12, C13, C14, C15, C16, C17, C18, C19, C20, C21, C22, C23, C24, C25, C26, C27, C28] S = true) :
    ∃ fd : FuncData, (∀ (s : Shared) (v : Value), BindsTo s fd ⟨[v], []⟩ [("_law_script", v)]) ∧ ∀ base : Heap, K.In base → base.Ns mainGlobals mg → FnOk l.prog w K mg base CX0 4 fa fd ["_law_script"] (spLaw K) := by
  have e := hfa.symm.trans (PySem.W.mg_of X G aLaw)
  cases e
  have g : ∀ {x : Str} {u : Value}, PySem.W.nsIn K mainGlobals x = some (some u) → mg x = some u := fun z => PySem.W.mg_of X G z
  have n : ∀ {x : Str}, PySem.W.nsIn K mainGlobals x = some none → mg x = none := fun z => PySem.W.mg_none_of X G z
  have L : LTxt K mg := ⟨n zisinstance, n zint, n zlist, n zlen⟩
  have Zg : ∀ i, i < 29 → mg (nameAt i) = some (.ref (csOf [C0, C1, C2, C3, C4, C5, C6, C7, C8, C9, C10, C11, C12, C13, C14, C15, C16, C17, C18, C19, C20, C21, C22, C23, C24, C25, C26, C27, C28] i)) := (up (up (up (up (up (up (up (up (up (up (up (up (up (up (up (up (up (up (up (up (up (up (up (up (up (up (up (up (up up0 (g r0.gl)) (g r1.gl)) (g r2.gl)) (g r3.gl)) (g r4.gl)) (g r5.gl)) (g r6.gl)) (g r7.gl)) (g r8.gl)) (g r9.gl)) (g r10.gl)) (g r11.gl)) (g r12.gl)) (g r13.gl)) (g r14.gl)) (g r15.gl)) (g r16.gl)) (g r17.gl)) (g r18.gl)) (g r19.gl)) (g r20.gl)) (g r21.gl)) (g r22.gl)) (g r23.gl)) (g r24.gl)) (g r25.gl)) (g r26.gl)) (g r27.gl)) (g r28.gl))
  have Ze : ∀ i, i < 29 → ECls K S (csOf [C0, C1, C2, C3, C4, C5, C6, C7, C8, C9, C10, C11, C12, C13, C14, C15, C16, C17, C18, C19, C20, C21, C22, C23, C24, C25, C26, C27, C28] i) := (up (up (up (up (up (up (up (up (up (up (up (up (up (up (up (up (up (up (up (up (up (up (up (up (up (up (up (up (up up0 (r0.er cn ct)) (r1.er cn ct)) (r2.er cn ct)) (r3.er cn ct)) (r4.er cn ct)) (r5.er cn ct)) (r6.er cn ct)) (r7.er cn ct)) (r8.er cn ct)) (r9.er cn ct)) (r10.er cn ct)) (r11.er cn ct)) (r12.er cn ct)) (r13.er cn ct)) (r14.er cn ct)) (r15.er cn ct)) (r16.er cn ct)) (r17.er cn ct)) (r18.er cn ct)) (r19.er cn ct)) (r20.er cn ct)) (r21.er cn ct)) (r22.er cn ct)) (r23.er cn ct)) (r24.er cn ct)) (r25.er cn ct)) (r26.er cn ct)) (r27.er cn ct)) (r28.er cn ct))
  have Zn : ∀ i, i < 10 → PySem.W.findIn K (.ref (csOf [C0, C1, C2, C3, C4, C5, C6, C7, C8, C9, C10, C11, C12, C13, C14, C15, C16, C17, C18, C19, C20, C21, C22, C23, C24, C25, C26, C27, C28] i)) "x" = some none ∧ PySem.W.findIn K (.ref (csOf [C0, C1, C2, C3, C4, C5, C6, C7, C8, C9, C10, C11, C12, C13, C14, C15, C16, C17, C18, C19, C20, C21, C22, C23, C24, C25, C26, C27, C28] i)) "y" = some none := (up (up (up (up (up (up (up (up (up (up up0 ⟨n0x, n0y⟩) ⟨n1x, n1y⟩) ⟨n2x, n2y⟩) ⟨n3x, n3y⟩) ⟨n4x, n4y⟩) ⟨n5x, n5y⟩) ⟨n6x, n6y⟩) ⟨n7x, n7y⟩) ⟨n8x, n8y⟩) ⟨n9x, n9y⟩)
  have Z : Kit K mg S (csOf [C0, C1, C2, C3, C4, C5, C6, C7, C8, C9, C10, C11, C12, C13, C14, C15, C16, C17, C18, C19, C20, C21, C22, C23, C24, C25, C26, C27, C28]) := ⟨Zg, Ze, apart_inj apt, apart_ns apt, g aS, by rw [cS]; rfl, tS, n zValueError, n zisinstance⟩
  have FBag := fun_mk (st := SmL.lBag) lBag cBag kBag
  have FTake := fun_mk (st := SmL.lTake) lTake cTake kTake
  have FSpot := fun_mk (st := SmL.lSpot) lSpot cSpot kSpot
  have FSpots := fun_mk (st := SmL.lSpots) lSpots cSpots kSpots
  have FCK := fun_mk (st := SmL.lCellKinds) lCK cCK kCK
  have FOK := fun_mk (st := SmL.lOtherKinds) lOK cOK kOK
  have FIK := fun_mk (st := SmL.lIsKind) lIK cIK kIK
  have FCE := fun_mk (st := SmL.lCellErrors) lCE cCE kCE
  have FOE := fun_mk (st := SmL.lOtherErrors) lOE cOE kOE
  have FFi := fun_mk (st := SmL.lFields) lFi cFi kFi
  have FLaw := fun_mk (st := SmL.lLaw) lLaw cLaw kLaw
  have bBag := FBag.binds (ps := ["_law_script"]) fun _ _ _ _ _ _ us hl => match us, hl with | [_], _ => rfl
  have bTake := FTake.binds (ps := ["_law_bag_here", "_law_size"]) fun _ _ _ _ _ _ us hl => match us, hl with | [_, _], _ => rfl
  have bSpot := FSpot.binds (ps := ["_law_bag_here"]) fun _ _ _ _ _ _ us hl => match us, hl with | [_], _ => rfl
  have bSpots := FSpots.binds (ps := ["_law_bag_here", "_law_most"]) fun _ _ _ _ _ _ us hl => match us, hl with | [_, _], _ => rfl
  have bCK := FCK.binds (ps := ["_law_e"]) fun _ _ _ _ _ _ us hl => match us, hl with | [_], _ => rfl
  have bOK := FOK.binds (ps := ["_law_e"]) fun _ _ _ _ _ _ us hl => match us, hl with | [_], _ => rfl
  have bIK := FIK.binds (ps := ["_law_e", "_law_at"]) fun _ _ _ _ _ _ us hl => match us, hl with | [_, _], _ => rfl
  have bCE := FCE.binds (ps := ["_law_one", "_law_two"]) fun _ _ _ _ _ _ us hl => match us, hl with | [_, _], _ => rfl
  have bOE := FOE.binds (ps := ["_law_one", "_law_row"]) fun _ _ _ _ _ _ us hl => match us, hl with | [_, _], _ => rfl
  have bFi := FFi.binds (ps := ["_law_errors"]) fun _ _ _ _ _ _ us hl => match us, hl with | [_], _ => rfl
  have b0 := q0.fn.binds (ps := ["self", "x", "y"]) fun _ _ _ _ _ _ us hl => match us, hl with | [_, _, _], _ => rfl
  have m0 : ∀ base : Heap, EMk l.prog w K mg base C0 ["self", "x", "y"] (sp2 C0) f0 d0 := fun base => ⟨q0.oex r0, q0.at_, q0.ty, okOutOfPicture q0.fn (q0.oex r0) n0x n0y, b0⟩
  have b1 := q1.fn.binds (ps := ["self", "x", "y"]) fun _ _ _ _ _ _ us hl => match us, hl with | [_, _, _], _ => rfl
  have m1 : ∀ base : Heap, EMk l.prog w K mg base C1 ["self", "x", "y"] (sp2 C1) f1 d1 := fun base => ⟨q1.oex r1, q1.at_, q1.ty, okNoStone q1.fn (q1.oex r1) n1x n1y, b1⟩
  have b2 := q2.fn.binds (ps := ["self", "x", "y"]) fun _ _ _ _ _ _ us hl => match us, hl with | [_, _, _], _ => rfl
  have m2 : ∀ base : Heap, EMk l.prog w K mg base C2 ["self", "x", "y"] (sp2 C2) f2 d2 := fun base => ⟨q2.oex r2, q2.at_, q2.ty, okNoHole q2.fn (q2.oex r2) n2x n2y, b2⟩
  have b3 := q3.fn.binds (ps := ["self", "x", "y"]) fun _ _ _ _ _ _ us hl => match us, hl with | [_, _, _], _ => rfl
  have m3 : ∀ base : Heap, EMk l.prog w K mg base C3 ["self", "x", "y"] (sp2 C3) f3 d3 := fun base => ⟨q3.oex r3, q3.at_, q3.ty, okEmptyCell q3.fn (q3.oex r3) n3x n3y, b3⟩
  have b4 := q4.fn.binds (ps := ["self", "x", "y"]) fun _ _ _ _ _ _ us hl => match us, hl with | [_, _, _], _ => rfl
  have m4 : ∀ base : Heap, EMk l.prog w K mg base C4 ["self", "x", "y"] (sp2 C4) f4 d4 := fun base => ⟨q4.oex r4, q4.at_, q4.ty, okOpposed q4.fn (q4.oex r4) n4x n4y, b4⟩
  have b5 := q5.fn.binds (ps := ["self", "x", "y"]) fun _ _ _ _ _ _ us hl => match us, hl with | [_, _, _], _ => rfl
  have m5 : ∀ base : Heap, EMk l.prog w K mg base C5 ["self", "x", "y"] (sp2 C5) f5 d5 := fun base => ⟨q5.oex r5, q5.at_, q5.ty, okNotOld q5.fn (q5.oex r5) n5x n5y, b5⟩
  have b6 := q6.fn.binds (ps := ["self", "x", "y"]) fun _ _ _ _ _ _ us hl => match us, hl with | [_, _, _], _ => rfl
  have m6 : ∀ base : Heap, EMk l.prog w K mg base C6 ["self", "x", "y"] (sp2 C6) f6 d6 := fun base => ⟨q6.oex r6, q6.at_, q6.ty, okNotNew q6.fn (q6.oex r6) n6x n6y, b6⟩
  have b7 := q7.fn.binds (ps := ["self", "x", "y"]) fun _ _ _ _ _ _ us hl => match us, hl with | [_, _, _], _ => rfl
  have m7 : ∀ base : Heap, EMk l.prog w K mg base C7 ["self", "x", "y"] (sp2 C7) f7 d7 := fun base => ⟨q7.oex r7, q7.at_, q7.ty, okSurelyOld q7.fn (q7.oex r7) n7x n7y, b7⟩
  have b8 := q8.fn.binds (ps := ["self", "x", "y"]) fun _ _ _ _ _ _ us hl => match us, hl with | [_, _, _], _ => rfl
  have m8 : ∀ base : Heap, EMk l.prog w K mg base C8 ["self", "x", "y"] (sp2 C8) f8 d8 := fun base => ⟨q8.oex r8, q8.at_, q8.ty, okSurelyNew q8.fn (q8.oex r8) n8x n8y, b8⟩
  have b9 := q9.fn.binds (ps := ["self", "x", "y"]) fun _ _ _ _ _ _ us hl => match us, hl with | [_, _, _], _ => rfl
  have m9 : ∀ base : Heap, EMk l.prog w K mg base C9 ["self", "x", "y"] (sp2 C9) f9 d9 := fun base => ⟨q9.oex r9, q9.at_, q9.ty, okSurelyAfter q9.fn (q9.oex r9) n9x n9y, b9⟩
  have b10 := q10.fn.binds (ps := ["self", "line"]) fun _ _ _ _ _ _ us hl => match us, hl with | [_, _], _ => rfl
  have m10 : ∀ base : Heap, EMk l.prog w K mg base C10 ["self", "line"] (sp1 C10 "line") f10 d10 := fun base => ⟨q10.oex r10, q10.at_, q10.ty, okInvalidPicture q10.fn (q10.oex r10) n10line, b10⟩
  have b11 := q11.fn.binds (ps := ["self", "part"]) fun _ _ _ _ _ _ us hl => match us, hl with | [_, _], _ => rfl
  have m11 : ∀ base : Heap, EMk l.prog w K mg base C11 ["self", "part"] (sp1 C11 "part") f11 d11 := fun base => ⟨q11.oex r11, q11.at_, q11.ty, okInvalidRule q11.fn (q11.oex r11) n11part, b11⟩
  have b12 := q12.fn.binds (ps := ["self", "line"]) fun _ _ _ _ _ _ us hl => match us, hl with | [_, _], _ => rfl
  have m12 : ∀ base : Heap, EMk l.prog w K mg base C12 ["self", "line"] (sp1 C12 "line") f12 d12 := fun base => ⟨q12.oex r12, q12.at_, q12.ty, okInvalidBook q12.fn (q12.oex r12) n12line, b12⟩
  have b13 := q13.fn.binds (ps := ["self", "line"]) fun _ _ _ _ _ _ us hl => match us, hl with | [_, _], _ => rfl
  have m13 : ∀ base : Heap, EMk l.prog w K mg base C13 ["self", "line"] (sp1 C13 "line") f13 d13 := fun base => ⟨q13.oex r13, q13.at_, q13.ty, okInvalidSketch q13.fn (q13.oex r13) n13line, b13⟩
  have b14 := q14.fn.binds (ps := ["self", "line"]) fun _ _ _ _ _ _ us hl => match us, hl with | [_, _], _ => rfl
  have m14 : ∀ base : Heap, EMk l.prog w K mg base C14 ["self", "line"] (sp1 C14 "line") f14 d14 := fun base => ⟨q14.oex r14, q14.at_, q14.ty, okInvalidHistory q14.fn (q14.oex r14) n14line, b14⟩
  have b15 := q15.fn.binds (ps := ["self", "sign"]) fun _ _ _ _ _ _ us hl => match us, hl with | [_, _], _ => rfl
  have m15 : ∀ base : Heap, EMk l.prog w K mg base C15 ["self", "sign"] (sp1 C15 "sign") f15 d15 := fun base => ⟨q15.oex r15, q15.at_, q15.ty, okInvalidSign q15.fn (q15.oex r15) n15sign, b15⟩
  have b16 := q16.fn.binds (ps := ["self", "signs"]) fun _ _ _ _ _ _ us hl => match us, hl with | [_, _], _ => rfl
  have m16 : ∀ base : Heap, EMk l.prog w K mg base C16 ["self", "signs"] (sp1 C16 "signs") f16 d16 := fun base => ⟨q16.oex r16, q16.at_, q16.ty, okInvalidSigns q16.fn (q16.oex r16) n16signs, b16⟩
  have b17 := q17.fn.binds (ps := ["self", "value"]) fun _ _ _ _ _ _ us hl => match us, hl with | [_, _], _ => rfl
  have m17 : ∀ base : Heap, EMk l.prog w K mg base C17 ["self", "value"] (sp1 C17 "value") f17 d17 := fun base => ⟨q17.oex r17, q17.at_, q17.ty, okInvalidLimit q17.fn (q17.oex r17) n17value, b17⟩
  have b18 := q18.fn.binds (ps := ["self", "number"]) fun _ _ _ _ _ _ us hl => match us, hl with | [_, _], _ => rfl
  have m18 : ∀ base : Heap, EMk l.prog w K mg base C18 ["self", "number"] (sp1 C18 "number") f18 d18 := fun base => ⟨q18.oex r18, q18.at_, q18.ty, okNoRule q18.fn (q18.oex r18) n18number, b18⟩
  have b19 := q19.fn.binds (ps := ["self", "number"]) fun _ _ _ _ _ _ us hl => match us, hl with | [_, _], _ => rfl
  have m19 : ∀ base : Heap, EMk l.prog w K mg base C19 ["self", "number"] (sp1 C19 "number") f19 d19 := fun base => ⟨q19.oex r19, q19.at_, q19.ty, okNoPhotograph q19.fn (q19.oex r19) n19number, b19⟩
  have b20 := q20.fn.binds (ps := ["self", "stone"]) fun _ _ _ _ _ _ us hl => match us, hl with | [_, _], _ => rfl
  have m20 : ∀ base : Heap, EMk l.prog w K mg base C20 ["self", "stone"] (sp1 C20 "stone") f20 d20 := fun base => ⟨q20.oex r20, q20.at_, q20.ty, okWrongStone q20.fn (q20.oex r20) n20stone, b20⟩
  have b21 := q21.fn.binds (ps := ["self", "places"]) fun _ _ _ _ _ _ us hl => match us, hl with | [_, _], _ => rfl
  have m21 : ∀ base : Heap, EMk l.prog w K mg base C21 ["self", "places"] (sp1 C21 "places") f21 d21 := fun base => ⟨q21.oex r21, q21.at_, q21.ty, okRuleClash q21.fn (q21.oex r21) n21places, b21⟩
  have b22 := q22.fn.binds (ps := ["self", "index"]) fun _ _ _ _ _ _ us hl => match us, hl with | [_, _], _ => rfl
  have m22 : ∀ base : Heap, EMk l.prog w K mg base C22 ["self", "index"] (sp1 C22 "index") f22 d22 := fun base => ⟨q22.oex r22, q22.at_, q22.ty, okBadDeed q22.fn (q22.oex r22) n22index, b22⟩
  have b23 := q23.fn.binds (ps := ["self", "lacking"]) fun _ _ _ _ _ _ us hl => match us, hl with | [_, _], _ => rfl
  have m23 : ∀ base : Heap, EMk l.prog w K mg base C23 ["self", "lacking"] (sp1 C23 "lacking") f23 d23 := fun base => ⟨q23.oex r23, q23.at_, q23.ty, okImpossible q23.fn (q23.oex r23) n23lacking, b23⟩
  have b24 := q24.fn.binds (ps := ["self", "cases"]) fun _ _ _ _ _ _ us hl => match us, hl with | [_, _], _ => rfl
  have m24 : ∀ base : Heap, EMk l.prog w K mg base C24 ["self", "cases"] (sp1 C24 "cases") f24 d24 := fun base => ⟨q24.oex r24, q24.at_, q24.ty, okTooManyCases q24.fn (q24.oex r24) n24cases, b24⟩
  have b25 := q25.fn.binds (ps := ["self", "name"]) fun _ _ _ _ _ _ us hl => match us, hl with | [_, _], _ => rfl
  have m25 : ∀ base : Heap, EMk l.prog w K mg base C25 ["self", "name"] (sp1 C25 "name") f25 d25 := fun base => ⟨q25.oex r25, q25.at_, q25.ty, okUnknownOption q25.fn (q25.oex r25) n25name, b25⟩
  refine ⟨PySem.W.fnOf "law" "law" (defArgs SmL.lLaw) (defBody SmL.lLaw) (defScope SmL.lLaw) .none kVLaw dcLaw pmLaw anLaw cdLaw ctLaw, fun s v => .of_eq rfl, fun base _ _ => ?_⟩
  have OT := Sm.ok_take (P := l.prog) (w := w) (base := base) FTake L.len L.int
  have OSp := ok_spot (P := l.prog) (w := w) (base := base) FSpot OT kTake bTake (g aTake)
  have cCK : Cl l.prog w K mg base 1 "_law_cell_kinds" ["_law_e"] (spKinds (csOf [C0, C1, C2, C3, C4, C5, C6, C7, C8, C9, C10, C11, C12, C13, C14, C15, C16, C17, C18, C19, C20, C21, C22, C23, C24, C25, C26, C27, C28]) 0 10) fCK _ := ⟨okCellKinds FCK Z, kCK, bCK, g aCK⟩
  have cOK : Cl l.prog w K mg base 1 "_law_other_kinds" ["_law_e"] (spKinds (csOf [C0, C1, C2, C3, C4, C5, C6, C7, C8, C9, C10, C11, C12, C13, C14, C15, C16, C17, C18, C19, C20, C21, C22, C23, C24, C25, C26, C27, C28]) 10 19) fOK _ := ⟨okOtherKinds FOK Z, kOK, bOK, g aOK⟩
  have cIK : Cl l.prog w K mg base 2 "_law_is_kind" ["_law_e", "_law_at"] (spIsKind (csOf [C0, C1, C2, C3, C4, C5, C6, C7, C8, C9, C10, C11, C12, C13, C14, C15, C16, C17, C18, C19, C20, C21, C22, C23, C24, C25, C26, C27, C28])) fIK _ := ⟨ok_iskind FIK Z cCK cOK (n zlen) (n zrange), kIK, bIK, g aIK⟩
  have cCE : Cl l.prog w K mg base 3 "_law_cell_errors" ["_law_one", "_law_two"] (spCellErrors (csOf [C0, C1, C2, C3, C4, C5, C6, C7, C8, C9, C10, C11, C12, C13, C14, C15, C16, C17, C18, C19, C20, C21, C22, C23, C24, C25, C26, C27, C28])) fCE _ := ⟨okCellErrors FCE Z (m0 base) (m1 base) (m2 base) (m3 base) (m4 base) (m5 base) (m6 base) (m7 base) (m8 base) (m9 base), kCE, bCE, g aCE⟩
  have cOE : Cl l.prog w K mg base 3 "_law_other_errors" ["_law_one", "_law_row"] (spOtherErrors (csOf [C0, C1, C2, C3, C4, C5, C6, C7, C8, C9, C10, C11, C12, C13, C14, C15, C16, C17, C18, C19, C20, C21, C22, C23, C24, C25, C26, C27, C28])) fOE _ := ⟨okOtherErrors F.excBase_ValueError FOE Z (m10 base) (m11 base) (m12 base) (m13 base) (m14 base) (m15 base) (m16 base) (m17 base) (m18 base) (m19 base) (m20 base) (m21 base) (m22 base) (m23 base) (m24 base) (m25 base) x26 r26.kp x27 r27.kp x28 r28.kp, kOE, bOE, g aOE⟩
  have cF : Cl l.prog w K mg base 1 "_law_fields" ["_law_errors"] (spFields (csOf [C0, C1, C2, C3, C4, C5, C6, C7, C8, C9, C10, C11, C12, C13, C14, C15, C16, C17, C18, C19, C20, C21, C22, C23, C24, C25, C26, C27, C28])) fFi _ := ⟨ok_fields FFi Z n10line n11part n12line n13line n14line n15sign n16signs n17value n18number n19number n20stone n21places n22index n23lacking n24cases n25name, kFi, bFi, g aFi⟩
  exact ok_law FLaw L Z Zn ⟨ok_bag FBag L, kBag, bBag, g aBag⟩ ⟨OT, kTake, bTake, g aTake⟩ ⟨ok_spots FSpots OSp kSpot bSpot (g aSpot) OT kTake bTake (g aTake) L.len (n zrange), kSpots, bSpots, g aSpots⟩ cCE cOE cIK cF (n zrange)
theorem walk {l : PySem.W.OpenLaw} {q : Program} {loose : List Str} {XP : (Str → Option Value) → Heap → Prop} {YP : World → Heap → Prop} {d : DefRec} {K : Params → PySem.W.Frag} (hn : l.most = some 63) (hdf : d.params.defaults = [])
    (hY : ∀ (w : World) (h : Heap), YP w h → (K w.params).In h)
    (F : ∀ (w : World) (mg : Str → Option Value) (fa : Addr) (h : Heap), (K w.params).In h → h.Ns mainGlobals mg → mg d.name = some (.ref fa) →
      ∃ fd : FuncData, (∀ (s : Shared) (u : Value), BindsTo s fd ⟨[u], []⟩ [("_law_script", u)]) ∧ ∀ base : Heap, (K w.params).In base → base.Ns mainGlobals mg → FnOk l.prog w (K w.params) mg base CX0 4 fa fd ["_law_script"] (spLaw (K w.params))) :
    PySem.W.WalkO q loose XP YP l.row.toRowW d [] (fun f vs => PySem.call f vs) :=
  L2.walk_of (n := 63) (k := 4) (x := "_law_script") (CX := fun _ => CX0) (sp := fun w => spLaw (K w.params)) hn (by decide) hdf ⟨rfl, by decide, by decide⟩ hY F (fun _ _ a ns hl _ hS => ⟨a, ns, rfl, hS, hl, fun _ => rfl⟩) fun _ _ _ _ _ z => z
end SmL

open PySem PySem.W PyProof.Rows in
set_option maxRecDepth 100000 in
set_option maxHeartbeats 0 in
theorem PySem.Challenge.cw_smalti_k24_error_classes_holds : PySem.Challenge.rw_smalti_k24_error_classes.Holds := by
  w_on; o_law; k_head; (case hw => w_witness2)
  k_fill
  refine SmL.walk (l := PySem.Challenge.rw_smalti_k24_error_classes) rfl rfl (fun w h Y => PySem.W.kIn_of Y) ?F
  case F =>
    intro w mg fa h KX G hmg
    refine' SmL.all_mk KX G hmg ?aS ?cS ?tS ?cn ?ct ?r0 ?r1 ?r2 ?r3 ?r4 ?r5 ?r6 ?r7 ?r8 ?r9 ?r10 ?r11 ?r12 ?r13 ?r14 ?r15 ?r16 ?r17 ?r18 ?r19 ?r20 ?r21 ?r22 ?r23 ?r24 ?r25 ?r26 ?r27 ?r28 ?q0 ?n0x ?n0y ?q1 ?n1x ?n1y ?q2 ?n2x ?n2y ?q3 ?n3x ?n3y ?q4 ?n4x ?n4y ?q5 ?n5x ?n5y ?q6 ?n6x ?n6y ?q7 ?n7x ?n7y ?q8 ?n8x ?n8y ?q9 ?n9x ?n9y ?q10 ?n10line ?q11 ?n11part ?q12 ?n12line ?q13 ?n13line ?q14 ?n14line ?q15 ?n15sign ?q16 ?n16signs ?q17 ?n17value ?q18 ?n18number ?q19 ?n19number ?q20 ?n20stone ?q21 ?n21places ?q22 ?n22index ?q23 ?n23lacking ?q24 ?n24cases ?q25 ?n25name ?x26 ?x27 ?x28 ?aBag ?lBag ?cBag ?kBag ?aTake ?lTake ?cTake ?kTake ?aSpot ?lSpot ?cSpot ?kSpot ?aSpots ?lSpots ?cSpots ?kSpots ?aCK ?lCK ?cCK ?kCK ?aOK ?lOK ?cOK ?kOK ?aIK ?lIK ?cIK ?kIK ?aCE ?lCE ?cCE ?kCE ?aOE ?lOE ?cOE ?kOE ?aFi ?lFi ?cFi ?kFi ?aLaw ?lLaw ?cLaw ?kLaw ?zisinstance ?zint ?zlist ?zlen ?zrange ?zValueError ?apt
    (case aS => k_is)
    (case cS => k_is)
    (case tS => k_is)
    (case cn => k_is)
    (case ct => k_is)
    (case r0 => refine' SmL.raw_mk ?g ?k ?m ?t ?hg ?hk ?hs ?ha ?hm ?hd ?kp; (case g => k_is); (case k => k_is); (case m => rfl); (case t => k_is); (case hg => k_is); (case hk => k_is); (case hs => k_is); (case ha => k_is); (case hm => k_is); (case hd => k_is); (case kp => k_is))
    (case r1 => refine' SmL.raw_mk ?g ?k ?m ?t ?hg ?hk ?hs ?ha ?hm ?hd ?kp; (case g => k_is); (case k => k_is); (case m => rfl); (case t => k_is); (case hg => k_is); (case hk => k_is); (case hs => k_is); (case ha => k_is); (case hm => k_is); (case hd => k_is); (case kp => k_is))
    (case r2 => refine' SmL.raw_mk ?g ?k ?m ?t ?hg ?hk ?hs ?ha ?hm ?hd ?kp; (case g => k_is); (case k => k_is); (case m => rfl); (case t => k_is); (case hg => k_is); (case hk => k_is); (case hs => k_is); (case ha => k_is); (case hm => k_is); (case hd => k_is); (case kp => k_is))
    (case r3 => refine' SmL.raw_mk ?g ?k ?m ?t ?hg ?hk ?hs ?ha ?hm ?hd ?kp; (case g => k_is); (case k => k_is); (case m => rfl); (case t => k_is); (case hg => k_is); (case hk => k_is); (case hs => k_is); (case ha => k_is); (case hm => k_is); (case hd => k_is); (case kp => k_is))
    (case r4 => refine' SmL.raw_mk ?g ?k ?m ?t ?hg ?hk ?hs ?ha ?hm ?hd ?kp; (case g => k_is); (case k => k_is); (case m => rfl); (case t => k_is); (case hg => k_is); (case hk => k_is); (case hs => k_is); (case ha => k_is); (case hm => k_is); (case hd => k_is); (case kp => k_is))
    (case r5 => refine' SmL.raw_mk ?g ?k ?m ?t ?hg ?hk ?hs ?ha ?hm ?hd ?kp; (case g => k_is); (case k => k_is); (case m => rfl); (case t => k_is); (case hg => k_is); (case hk => k_is); (case hs => k_is); (case ha => k_is); (case hm => k_is); (case hd => k_is); (case kp => k_is))
    (case r6 => refine' SmL.raw_mk ?g ?k ?m ?t ?hg ?hk ?hs ?ha ?hm ?hd ?kp; (case g => k_is); (case k => k_is); (case m => rfl); (case t => k_is); (case hg => k_is); (case hk => k_is); (case hs => k_is); (case ha => k_is); (case hm => k_is); (case hd => k_is); (case kp => k_is))
    (case r7 => refine' SmL.raw_mk ?g ?k ?m ?t ?hg ?hk ?hs ?ha ?hm ?hd ?kp; (case g => k_is); (case k => k_is); (case m => rfl); (case t => k_is); (case hg => k_is); (case hk => k_is); (case hs => k_is); (case ha => k_is); (case hm => k_is); (case hd => k_is); (case kp => k_is))
    (case r8 => refine' SmL.raw_mk ?g ?k ?m ?t ?hg ?hk ?hs ?ha ?hm ?hd ?kp; (case g => k_is); (case k => k_is); (case m => rfl); (case t => k_is); (case hg => k_is); (case hk => k_is); (case hs => k_is); (case ha => k_is); (case hm => k_is); (case hd => k_is); (case kp => k_is))
    (case r9 => refine' SmL.raw_mk ?g ?k ?m ?t ?hg ?hk ?hs ?ha ?hm ?hd ?kp; (case g => k_is); (case k => k_is); (case m => rfl); (case t => k_is); (case hg => k_is); (case hk => k_is); (case hs => k_is); (case ha => k_is); (case hm => k_is); (case hd => k_is); (case kp => k_is))
    (case r10 => refine' SmL.raw_mk ?g ?k ?m ?t ?hg ?hk ?hs ?ha ?hm ?hd ?kp; (case g => k_is); (case k => k_is); (case m => rfl); (case t => k_is); (case hg => k_is); (case hk => k_is); (case hs => k_is); (case ha => k_is); (case hm => k_is); (case hd => k_is); (case kp => k_is))
    (case r11 => refine' SmL.raw_mk ?g ?k ?m ?t ?hg ?hk ?hs ?ha ?hm ?hd ?kp; (case g => k_is); (case k => k_is); (case m => rfl); (case t => k_is); (case hg => k_is); (case hk => k_is); (case hs => k_is); (case ha => k_is); (case hm => k_is); (case hd => k_is); (case kp => k_is))
    (case r12 => refine' SmL.raw_mk ?g ?k ?m ?t ?hg ?hk ?hs ?ha ?hm ?hd ?kp; (case g => k_is); (case k => k_is); (case m => rfl); (case t => k_is); (case hg => k_is); (case hk => k_is); (case hs => k_is); (case ha => k_is); (case hm => k_is); (case hd => k_is); (case kp => k_is))
    (case r13 => refine' SmL.raw_mk ?g ?k ?m ?t ?hg ?hk ?hs ?ha ?hm ?hd ?kp; (case g => k_is); (case k => k_is); (case m => rfl); (case t => k_is); (case hg => k_is); (case hk => k_is); (case hs => k_is); (case ha => k_is); (case hm => k_is); (case hd => k_is); (case kp => k_is))
    (case r14 => refine' SmL.raw_mk ?g ?k ?m ?t ?hg ?hk ?hs ?ha ?hm ?hd ?kp; (case g => k_is); (case k => k_is); (case m => rfl); (case t => k_is); (case hg => k_is); (case hk => k_is); (case hs => k_is); (case ha => k_is); (case hm => k_is); (case hd => k_is); (case kp => k_is))
    (case r15 => refine' SmL.raw_mk ?g ?k ?m ?t ?hg ?hk ?hs ?ha ?hm ?hd ?kp; (case g => k_is); (case k => k_is); (case m => rfl); (case t => k_is); (case hg => k_is); (case hk => k_is); (case hs => k_is); (case ha => k_is); (case hm => k_is); (case hd => k_is); (case kp => k_is))
    (case r16 => refine' SmL.raw_mk ?g ?k ?m ?t ?hg ?hk ?hs ?ha ?hm ?hd ?kp; (case g => k_is); (case k => k_is); (case m => rfl); (case t => k_is); (case hg => k_is); (case hk => k_is); (case hs => k_is); (case ha => k_is); (case hm => k_is); (case hd => k_is); (case kp => k_is))
    (case r17 => refine' SmL.raw_mk ?g ?k ?m ?t ?hg ?hk ?hs ?ha ?hm ?hd ?kp; (case g => k_is); (case k => k_is); (case m => rfl); (case t => k_is); (case hg => k_is); (case hk => k_is); (case hs => k_is); (case ha => k_is); (case hm => k_is); (case hd => k_is); (case kp => k_is))
    (case r18 => refine' SmL.raw_mk ?g ?k ?m ?t ?hg ?hk ?hs ?ha ?hm ?hd ?kp; (case g => k_is); (case k => k_is); (case m => rfl); (case t => k_is); (case hg => k_is); (case hk => k_is); (case hs => k_is); (case ha => k_is); (case hm => k_is); (case hd => k_is); (case kp => k_is))
    (case r19 => refine' SmL.raw_mk ?g ?k ?m ?t ?hg ?hk ?hs ?ha ?hm ?hd ?kp; (case g => k_is); (case k => k_is); (case m => rfl); (case t => k_is); (case hg => k_is); (case hk => k_is); (case hs => k_is); (case ha => k_is); (case hm => k_is); (case hd => k_is); (case kp => k_is))
    (case r20 => refine' SmL.raw_mk ?g ?k ?m ?t ?hg ?hk ?hs ?ha ?hm ?hd ?kp; (case g => k_is); (case k => k_is); (case m => rfl); (case t => k_is); (case hg => k_is); (case hk => k_is); (case hs => k_is); (case ha => k_is); (case hm => k_is); (case hd => k_is); (case kp => k_is))
    (case r21 => refine' SmL.raw_mk ?g ?k ?m ?t ?hg ?hk ?hs ?ha ?hm ?hd ?kp; (case g => k_is); (case k => k_is); (case m => rfl); (case t => k_is); (case hg => k_is); (case hk => k_is); (case hs => k_is); (case ha => k_is); (case hm => k_is); (case hd => k_is); (case kp => k_is))
    (case r22 => refine' SmL.raw_mk ?g ?k ?m ?t ?hg ?hk ?hs ?ha ?hm ?hd ?kp; (case g => k_is); (case k => k_is); (case m => rfl); (case t => k_is); (case hg => k_is); (case hk => k_is); (case hs => k_is); (case ha => k_is); (case hm => k_is); (case hd => k_is); (case kp => k_is))
    (case r23 => refine' SmL.raw_mk ?g ?k ?m ?t ?hg ?hk ?hs ?ha ?hm ?hd ?kp; (case g => k_is); (case k => k_is); (case m => rfl); (case t => k_is); (case hg => k_is); (case hk => k_is); (case hs => k_is); (case ha => k_is); (case hm => k_is); (case hd => k_is); (case kp => k_is))
    (case r24 => refine' SmL.raw_mk ?g ?k ?m ?t ?hg ?hk ?hs ?ha ?hm ?hd ?kp; (case g => k_is); (case k => k_is); (case m => rfl); (case t => k_is); (case hg => k_is); (case hk => k_is); (case hs => k_is); (case ha => k_is); (case hm => k_is); (case hd => k_is); (case kp => k_is))
    (case r25 => refine' SmL.raw_mk ?g ?k ?m ?t ?hg ?hk ?hs ?ha ?hm ?hd ?kp; (case g => k_is); (case k => k_is); (case m => rfl); (case t => k_is); (case hg => k_is); (case hk => k_is); (case hs => k_is); (case ha => k_is); (case hm => k_is); (case hd => k_is); (case kp => k_is))
    (case r26 => refine' SmL.raw_mk ?g ?k ?m ?t ?hg ?hk ?hs ?ha ?hm ?hd ?kp; (case g => k_is); (case k => k_is); (case m => rfl); (case t => k_is); (case hg => k_is); (case hk => k_is); (case hs => k_is); (case ha => k_is); (case hm => k_is); (case hd => k_is); (case kp => k_is))
    (case r27 => refine' SmL.raw_mk ?g ?k ?m ?t ?hg ?hk ?hs ?ha ?hm ?hd ?kp; (case g => k_is); (case k => k_is); (case m => rfl); (case t => k_is); (case hg => k_is); (case hk => k_is); (case hs => k_is); (case ha => k_is); (case hm => k_is); (case hd => k_is); (case kp => k_is))
    (case r28 => refine' SmL.raw_mk ?g ?k ?m ?t ?hg ?hk ?hs ?ha ?hm ?hd ?kp; (case g => k_is); (case k => k_is); (case m => rfl); (case t => k_is); (case hg => k_is); (case hk => k_is); (case hs => k_is); (case ha => k_is); (case hm => k_is); (case hd => k_is); (case kp => k_is))
    (case q0 => refine' SmL.rawI_mk ?l ?b ?s ?a ?t ?l2 ?c2 ?k2; (case a => k_is); (case l => k_is); (case b => decide +kernel); (case s => k_is); (case t => k_is); (case l2 => k_is); (case c2 => k_is); (case k2 => k_is))
    (case n0x => k_is)
    (case n0y => k_is)
    (case q1 => refine' SmL.rawI_mk ?l ?b ?s ?a ?t ?l2 ?c2 ?k2; (case a => k_is); (case l => k_is); (case b => decide +kernel); (case s => k_is); (case t => k_is); (case l2 => k_is); (case c2 => k_is); (case k2 => k_is))
    (case n1x => k_is)
    (case n1y => k_is)
    (case q2 => refine' SmL.rawI_mk ?l ?b ?s ?a ?t ?l2 ?c2 ?k2; (case a => k_is); (case l => k_is); (case b => decide +kernel); (case s => k_is); (case t => k_is); (case l2 => k_is); (case c2 => k_is); (case k2 => k_is))
    (case n2x => k_is)
    (case n2y => k_is)
    (case q3 => refine' SmL.rawI_mk ?l ?b ?s ?a ?t ?l2 ?c2 ?k2; (case a => k_is); (case l => k_is); (case b => decide +kernel); (case s => k_is); (case t => k_is); (case l2 => k_is); (case c2 => k_is); (case k2 => k_is))
    (case n3x => k_is)
    (case n3y => k_is)
    (case q4 => refine' SmL.rawI_mk ?l ?b ?s ?a ?t ?l2 ?c2 ?k2; (case a => k_is); (case l => k_is); (case b => decide +kernel); (case s => k_is); (case t => k_is); (case l2 => k_is); (case c2 => k_is); (case k2 => k_is))
    (case n4x => k_is)
    (case n4y => k_is)
    (case q5 => refine' SmL.rawI_mk ?l ?b ?s ?a ?t ?l2 ?c2 ?k2; (case a => k_is); (case l => k_is); (case b => decide +kernel); (case s => k_is); (case t => k_is); (case l2 => k_is); (case c2 => k_is); (case k2 => k_is))
    (case n5x => k_is)
    (case n5y => k_is)
    (case q6 => refine' SmL.rawI_mk ?l ?b ?s ?a ?t ?l2 ?c2 ?k2; (case a => k_is); (case l => k_is); (case b => decide +kernel); (case s => k_is); (case t => k_is); (case l2 => k_is); (case c2 => k_is); (case k2 => k_is))
    (case n6x => k_is)
    (case n6y => k_is)
    (case q7 => refine' SmL.rawI_mk ?l ?b ?s ?a ?t ?l2 ?c2 ?k2; (case a => k_is); (case l => k_is); (case b => decide +kernel); (case s => k_is); (case t => k_is); (case l2 => k_is); (case c2 => k_is); (case k2 => k_is))
    (case n7x => k_is)
    (case n7y => k_is)
    (case q8 => refine' SmL.rawI_mk ?l ?b ?s ?a ?t ?l2 ?c2 ?k2; (case a => k_is); (case l => k_is); (case b => decide +kernel); (case s => k_is); (case t => k_is); (case l2 => k_is); (case c2 => k_is); (case k2 => k_is))
    (case n8x => k_is)
    (case n8y => k_is)
    (case q9 => refine' SmL.rawI_mk ?l ?b ?s ?a ?t ?l2 ?c2 ?k2; (case a => k_is); (case l => k_is); (case b => decide +kernel); (case s => k_is); (case t => k_is); (case l2 => k_is); (case c2 => k_is); (case k2 => k_is))
    (case n9x => k_is)
    (case n9y => k_is)
    (case q10 => refine' SmL.rawI_mk ?l ?b ?s ?a ?t ?l2 ?c2 ?k2; (case a => k_is); (case l => k_is); (case b => decide +kernel); (case s => k_is); (case t => k_is); (case l2 => k_is); (case c2 => k_is); (case k2 => k_is))
    (case n10line => k_is)
    (case q11 => refine' SmL.rawI_mk ?l ?b ?s ?a ?t ?l2 ?c2 ?k2; (case a => k_is); (case l => k_is); (case b => decide +kernel); (case s => k_is); (case t => k_is); (case l2 => k_is); (case c2 => k_is); (case k2 => k_is))
    (case n11part => k_is)
    (case q12 => refine' SmL.rawI_mk ?l ?b ?s ?a ?t ?l2 ?c2 ?k2; (case a => k_is); (case l => k_is); (case b => decide +kernel); (case s => k_is); (case t => k_is); (case l2 => k_is); (case c2 => k_is); (case k2 => k_is))
    (case n12line => k_is)
    (case q13 => refine' SmL.rawI_mk ?l ?b ?s ?a ?t ?l2 ?c2 ?k2; (case a => k_is); (case l => k_is); (case b => decide +kernel); (case s => k_is); (case t => k_is); (case l2 => k_is); (case c2 => k_is); (case k2 => k_is))
    (case n13line => k_is)
    (case q14 => refine' SmL.rawI_mk ?l ?b ?s ?a ?t ?l2 ?c2 ?k2; (case a => k_is); (case l => k_is); (case b => decide +kernel); (case s => k_is); (case t => k_is); (case l2 => k_is); (case c2 => k_is); (case k2 => k_is))
    (case n14line => k_is)
    (case q15 => refine' SmL.rawI_mk ?l ?b ?s ?a ?t ?l2 ?c2 ?k2; (case a => k_is); (case l => k_is); (case b => decide +kernel); (case s => k_is); (case t => k_is); (case l2 => k_is); (case c2 => k_is); (case k2 => k_is))
    (case n15sign => k_is)
    (case q16 => refine' SmL.rawI_mk ?l ?b ?s ?a ?t ?l2 ?c2 ?k2; (case a => k_is); (case l => k_is); (case b => decide +kernel); (case s => k_is); (case t => k_is); (case l2 => k_is); (case c2 => k_is); (case k2 => k_is))
    (case n16signs => k_is)
    (case q17 => refine' SmL.rawI_mk ?l ?b ?s ?a ?t ?l2 ?c2 ?k2; (case a => k_is); (case l => k_is); (case b => decide +kernel); (case s => k_is); (case t => k_is); (case l2 => k_is); (case c2 => k_is); (case k2 => k_is))
    (case n17value => k_is)
    (case q18 => refine' SmL.rawI_mk ?l ?b ?s ?a ?t ?l2 ?c2 ?k2; (case a => k_is); (case l => k_is); (case b => decide +kernel); (case s => k_is); (case t => k_is); (case l2 => k_is); (case c2 => k_is); (case k2 => k_is))
    (case n18number => k_is)
    (case q19 => refine' SmL.rawI_mk ?l ?b ?s ?a ?t ?l2 ?c2 ?k2; (case a => k_is); (case l => k_is); (case b => decide +kernel); (case s => k_is); (case t => k_is); (case l2 => k_is); (case c2 => k_is); (case k2 => k_is))
    (case n19number => k_is)
    (case q20 => refine' SmL.rawI_mk ?l ?b ?s ?a ?t ?l2 ?c2 ?k2; (case a => k_is); (case l => k_is); (case b => decide +kernel); (case s => k_is); (case t => k_is); (case l2 => k_is); (case c2 => k_is); (case k2 => k_is))
    (case n20stone => k_is)
    (case q21 => refine' SmL.rawI_mk ?l ?b ?s ?a ?t ?l2 ?c2 ?k2; (case a => k_is); (case l => k_is); (case b => decide +kernel); (case s => k_is); (case t => k_is); (case l2 => k_is); (case c2 => k_is); (case k2 => k_is))
    (case n21places => k_is)
    (case q22 => refine' SmL.rawI_mk ?l ?b ?s ?a ?t ?l2 ?c2 ?k2; (case a => k_is); (case l => k_is); (case b => decide +kernel); (case s => k_is); (case t => k_is); (case l2 => k_is); (case c2 => k_is); (case k2 => k_is))
    (case n22index => k_is)
    (case q23 => refine' SmL.rawI_mk ?l ?b ?s ?a ?t ?l2 ?c2 ?k2; (case a => k_is); (case l => k_is); (case b => decide +kernel); (case s => k_is); (case t => k_is); (case l2 => k_is); (case c2 => k_is); (case k2 => k_is))
    (case n23lacking => k_is)
    (case q24 => refine' SmL.rawI_mk ?l ?b ?s ?a ?t ?l2 ?c2 ?k2; (case a => k_is); (case l => k_is); (case b => decide +kernel); (case s => k_is); (case t => k_is); (case l2 => k_is); (case c2 => k_is); (case k2 => k_is))
    (case n24cases => k_is)
    (case q25 => refine' SmL.rawI_mk ?l ?b ?s ?a ?t ?l2 ?c2 ?k2; (case a => k_is); (case l => k_is); (case b => decide +kernel); (case s => k_is); (case t => k_is); (case l2 => k_is); (case c2 => k_is); (case k2 => k_is))
    (case n25name => k_is)
    (case x26 => k_exc)
    (case x27 => k_exc)
    (case x28 => k_exc)
    (case aBag => k_is)
    (case lBag => k_is)
    (case cBag => k_is)
    (case kBag => k_is)
    (case aTake => k_is)
    (case lTake => k_is)
    (case cTake => k_is)
    (case kTake => k_is)
    (case aSpot => k_is)
    (case lSpot => k_is)
    (case cSpot => k_is)
    (case kSpot => k_is)
    (case aSpots => k_is)
    (case lSpots => k_is)
    (case cSpots => k_is)
    (case kSpots => k_is)
    (case aCK => k_is)
    (case lCK => k_is)
    (case cCK => k_is)
    (case kCK => k_is)
    (case aOK => k_is)
    (case lOK => k_is)
    (case cOK => k_is)
    (case kOK => k_is)
    (case aIK => k_is)
    (case lIK => k_is)
    (case cIK => k_is)
    (case kIK => k_is)
    (case aCE => k_is)
    (case lCE => k_is)
    (case cCE => k_is)
    (case kCE => k_is)
    (case aOE => k_is)
    (case lOE => k_is)
    (case cOE => k_is)
    (case kOE => k_is)
    (case aFi => k_is)
    (case lFi => k_is)
    (case cFi => k_is)
    (case kFi => k_is)
    (case aLaw => k_is)
    (case lLaw => k_is)
    (case cLaw => k_is)
    (case kLaw => k_is)
    (case zisinstance => k_is)
    (case zint => k_is)
    (case zlist => k_is)
    (case zlen => k_is)
    (case zrange => k_is)
    (case zValueError => k_is)
    (case apt => decide +kernel)
