import PyProof.Rows.All
import Wide.All
import OpenK.AllK
import Wide.FinOn
import HandS.ForMost
import HandS.Codes
import HandS.Deep
import HandS.ClsMeth
import HandS.Conv
import HandS.Small
import HandS.IsInst
import KE.GoesMore
import KE.GoesEnumKw
import PyProof.Draws
import PyProof.Rows.CallKwBuiltin
import HandS.Walk
import HandS.Exc
import HandS.ExcInit
import HandS.ExcField
import HandS.ExcIs
import HandS.TryMany
import HandS.WordsExc
import HandS.ExcValue
import KE.KExcIs
import HandS.ExcOwn
import HandS.More
import HandS.HotCalls
import PyProof.StrBlock2
import PyProof.Rows.StrJoinRep
import KE.KCallOwn
import HandS.SetBool
import HandS.TupSets
import HandS.DictComp
import HandS.SortRule
import HandS.OwnEq
import HandS.Text
import HandS.Style
import PySem.Challenge.RW_smalti_k04_picture_signs
set_option Elab.async false
set_option linter.all false
set_option maxRecDepth 100000
set_option maxHeartbeats 8000000
namespace Pm
open PySem L2
/-! ### the text by places -/
def top (i : Nat) : Stmt := PySem.Challenge.pw_smalti_k04_picture_signs.main.body.getD i (.Pass ⟨0, 0, 0, 0⟩)
abbrev gWall : Stmt := top 0
abbrev gDecimal : Stmt := top 4
abbrev cRegionInit : Stmt := inClass (top 5) 0
abbrev cRegionOf : Stmt := inClass (top 5) 1
abbrev cRegionCells : Stmt := inClass (top 5) 2
abbrev cRegionWithin : Stmt := inClass (top 5) 3
abbrev cRegionOr : Stmt := inClass (top 5) 4
abbrev cRegionAnd : Stmt := inClass (top 5) 5
abbrev cRegionSub : Stmt := inClass (top 5) 6
abbrev cRegionXor : Stmt := inClass (top 5) 7
abbrev cRegionEq : Stmt := inClass (top 5) 8
abbrev cRegionContains : Stmt := inClass (top 5) 9
abbrev cRegionLen : Stmt := inClass (top 5) 10
abbrev cRegionBool : Stmt := inClass (top 5) 11
abbrev cRegionStr : Stmt := inClass (top 5) 12
abbrev cInvalidPictureInit : Stmt := inClass (top 8) 0
abbrev gIsStone : Stmt := top 13
abbrev gIsStoneOrHole : Stmt := top 14
abbrev gIsBadRow : Stmt := top 15
abbrev gBadLine : Stmt := top 16
abbrev cPictureInit : Stmt := inClass (top 17) 2
abbrev cPictureRead : Stmt := inClass (top 17) 3
abbrev cPicturePlain : Stmt := inClass (top 17) 4
abbrev cPictureLines : Stmt := inClass (top 17) 5
abbrev cPictureEveryCell : Stmt := inClass (top 17) 6
abbrev cPictureStones : Stmt := inClass (top 17) 7
abbrev cPictureHoles : Stmt := inClass (top 17) 8
abbrev cPictureContains : Stmt := inClass (top 17) 9
abbrev cPictureWithSign : Stmt := inClass (top 17) 10
abbrev cPictureGetitem : Stmt := inClass (top 17) 11
abbrev cPictureIter : Stmt := inClass (top 17) 12
abbrev cPictureLen : Stmt := inClass (top 17) 13
abbrev cPictureEq : Stmt := inClass (top 17) 14
abbrev cPictureSub : Stmt := inClass (top 17) 15
abbrev cPictureStr : Stmt := inClass (top 17) 16
abbrev lBag : Stmt := top 19
abbrev lTake : Stmt := top 20
abbrev lIsInt : Stmt := top 21
abbrev lIsCell : Stmt := top 22
abbrev lIsCells : Stmt := top 23
abbrev lPalette : Stmt := top 24
abbrev lRow : Stmt := top 25
abbrev lSign : Stmt := top 26
abbrev lCells : Stmt := top 27
abbrev lStones : Stmt := top 28
abbrev lRegionIs : Stmt := top 29
abbrev lBigGrid : Stmt := top 30
abbrev lShows : Stmt := top 31
abbrev lLaw : Stmt := top 32
end Pm
namespace Pm
open PySem PySem.Spec PyProof.Rows L2
/-- all that stood stands, but r -/
def SameBut (r : Addr) (H H' : Hp) : Prop := ∀ b o, b ≠ r → H b = some o → H' b = some o
theorem tyes {σ : L2.St} {G : Hp} {R : Bool → Hp → Prop} (h : R true G) : tYes σ G R := h
theorem same_upd {H : Hp} {p : Addr} {o : HO} (h : H p = none) : Same H (upd H p o) := fun b x e => by
  rw [upd_ne (ne_of_none e h)]
  exact e
theorem back {H H' : Hp} (s : Same H H') {t : Addr} (h : H' t = none) : H t = none := by
  cases z : H t with
  | none => rfl
  | some o =>
    rw [s _ _ z] at h
    cases h
theorem but_back {b : Addr} {H H' : Hp} {xs : List V} (hb : H b = some (.lst xs)) (s : SameBut b H H') {t : Addr} (ne : t ≠ b) (h : H' t = none) : H t = none := by
  cases z : H t with
  | none => rfl
  | some o =>
    rw [s _ _ ne z] at h
    cases h
theorem cut_to (xs : List V) (n : Nat) : cutV xs none (some (n : Int)) = xs.take n := by
  unfold cutV
  rw [HT.sIx_none, HT.sIx_nat, List.drop_zero, Nat.sub_zero]
  rcases Nat.le_total n xs.length with h | h
  · rw [Nat.min_eq_left h]
  · rw [Nat.min_eq_right h, List.take_of_length_le (Nat.le_refl _), List.take_of_length_le h]
theorem iteFe {b : Bool} {p q : Prop} (h : b = false) (z : q) : if b = true then p else q := by
  subst h
  exact iteF z
theorem iteTe {b : Bool} {p q : Prop} (h : b = true) (z : p) : if b = true then p else q := by
  subst h
  exact iteT z
/-- the built-ins by their names -/
structure LTxt (K : PySem.W.Frag) (mg : Str → Option Value) : Prop where
  isi : mg "isinstance" = none
  int : mg "int" = none
  lst : mg "list" = none
  len : mg "len" = none
  rng : mg "range" = none
/-- a def that may be called by its name -/
structure Cl (P : Program) (w : World) (K : PySem.W.Frag) (mg : Str → Option Value) (base : Heap) (CX : CXT) (k : Nat) (name : Str) (ps : List Str) (sp : Sp) (f : Addr) (fd : FuncData) : Prop where
  ok : FnOk P w K mg base CX k f fd ps sp
  kp : PySem.W.keepIn K (.ref f) = true
  bd : Binds K fd ps []
  gl : mg name = some (.ref f)
/-! ### the bag of drawn numbers -/
/-- the bag at b: four places; the first a list of ints, the second a place in it or its end, the third at least 0 -/
abbrev BagL (H : Hp) (b l : Addr) : Prop := ∃ (ns : List Int) (i p q : Int),
  H b = some (.lst [.ref l, .int i, .int p, .int q]) ∧ H l = some (.lst (ns.map V.int)) ∧ 0 ≤ i ∧ 0 ≤ p ∧ l ≠ b ∧ ns.length ≤ 63
/-- all but b stands as it stood -/
def But (b : Addr) (H H' : Hp) : Prop := ∀ a, a ≠ b → H' a = H a
theorem But.refl (b : Addr) (H : Hp) : But b H H := fun _ _ => rfl
theorem But.trans {b : Addr} {H H1 H2 : Hp} (x : But b H H1) (y : But b H1 H2) : But b H H2 := fun a h => (y a h).trans (x a h)
theorem But.upd {b : Addr} {H : Hp} {o : HO} : But b H (upd H b o) := fun _ h => upd_ne h
def spTake : Sp := fun vs H Q _ => ∃ (b l : Addr) (size : Int), vs = [.ref b, .int size] ∧ BagL H b l ∧ 0 < size ∧ size < 1073741824 ∧
  ∀ (n : Int) (H' : Hp), 0 ≤ n → n < size → But b H H' → BagL H' b l → Q (.int n) H'
theorem scTake : FnScope ["_law_bag_here", "_law_size", "_law_cell", "_law_digit"] ["_law_bag_here", "_law_size"] (defScope lTake) := ⟨rfl, rfl, rfl, by decide +kernel, rfl, by decide +kernel, by decide +kernel⟩
theorem at4 {a b c d : V} : atI [a, b, c, d] 0 = some a ∧ atI [a, b, c, d] 1 = some b ∧ atI [a, b, c, d] 2 = some c ∧ atI [a, b, c, d] 3 = some d := ⟨rfl, rfl, rfl, rfl⟩
section
variable {P : Program} {w : World} {K : PySem.W.Frag} {mg : Str → Option Value} {base : Heap}
theorem ok_take {f : Addr} {fd : FuncData} (F : Fun K "_law_take" "_law_take" lTake f fd) (mlen : mg "len" = none) (mint : mg "int" = none) : FnOk P w K mg base CX0 1 f fd ["_law_bag_here", "_law_size"] spTake := by
  refine F.ok scTake (fun vs H Q E h => ?_) (fun cdv A outer s H vs Q E hr h => ?_)
  · obtain ⟨b, l, size, rfl, _⟩ := h
    rfl
  · obtain ⟨b, l, size, rfl, ⟨ns, i, p, q, hb, hl, i0, p0, nlb, n63⟩, s0, s1, k⟩ := h
    refine ⟨_, C8.pss_cut (ps_if (PW.pt (pw_and (pt_cmpR op_eq (pe_ix ix_list (pv 0) pe_int (fun _ _ => rfl)) pe_int (nomark _))
          (pw_and1 (pt_cmpR op_lt (pe_ix ix_list (pv 0) pe_int (fun _ _ => rfl)) (pe_callB call_len_seq (by rfl) mlen PySem.boot_len (pa_cons (pe_ix ix_list (pv 0) pe_int (fun _ _ => rfl)) pa_nil)) (nomark _)))))
        (pss_cons (ps_set (i := 2) scTake.nd rfl (.inl rfl) (pe_ix ix_list (pe_ix ix_list (pv 0) pe_int (fun _ _ => rfl)) (pe_ix ix_list (pv 0) pe_int (fun _ _ => rfl)) (fun _ _ => rfl)))
        (pss_cons (ps_asg (pe_op op_add (pe_ix ix_list (pv 0) pe_int (fun _ _ => rfl)) pe_int) (pg_sub (pv 0) pe_int set_list))
        (pss_one (ps_if (pt_cmpR op_ge (pv 2) (pe_op op_pow pe_int pe_int) (nomark _))
          (pss_one (ps_asg (pv 2) (pg_sub (pv 0) pe_int set_list)))
          (pss_one (ps_asg (pe_op op_mod (pe_callTy call_int1 (by rfl) mint (by decide +kernel) (pa_cons (pe_op op_add (pe_op op_add (pe_op op_mul (pe_ix ix_list (pv 0) pe_int (fun _ _ => rfl)) pe_int) (pe_op op_mul (pv 2) pe_int)) pe_int) pa_nil)) pe_int) (pg_sub (pv 0) pe_int set_list)))))))
        pss_nil)
      (pss_cons (ps_if (pt_cmpR op_gt (pe_ix ix_list (pv 0) pe_int (fun _ _ => rfl)) pe_int (nomark _))
        (pss_cons (ps_set (i := 3) scTake.nd rfl (.inl rfl) (pe_op op_mod (pe_callTy call_int1 (by rfl) mint (by decide +kernel) (pa_cons (pe_ix ix_list (pv 0) pe_int (fun _ _ => rfl)) pa_nil)) (pv 1)))
        (pss_cons (ps_asg (pe_op op_fdiv (pe_ix ix_list (pv 0) pe_int (fun _ _ => rfl)) (pv 1)) (pg_sub (pv 0) pe_int set_list))
        (pss_one (ps_ret (pv 3)))))
        pss_nil)
      (pss_cons (ps_asg (pe_op op_mod (pe_callTy call_int1 (by rfl) mint (by decide +kernel) (pa_cons (pe_op op_add (pe_op op_mul (pe_ix ix_list (pv 0) pe_int (fun _ _ => rfl)) pe_int) pe_int) pa_nil)) pe_int) (pg_sub (pv 0) pe_int set_list))
      (pss_one (ps_ret (pe_op op_mod (pe_callTy call_int1 (by rfl) mint (by decide +kernel) (pa_cons (pe_op op_fdiv (pe_ix ix_list (pv 0) pe_int (fun _ _ => rfl)) pe_int) pa_nil)) (pv 1)))))), ?_⟩
    have seven : ∀ q' : Int, (0 : Int) < 2147483647 := fun _ => by decide
    refine ⟨fun σ H1 => ∃ (c : Option V) (i' p' q' : Int), σ = [some (.ref b), some (.int size), c, Option.none] ∧ But b H H1 ∧ H1 b = some (.lst [.ref l, .int i', .int p', .int q']) ∧ 0 ≤ i' ∧ 0 ≤ p', ?_, ?_⟩
    · -- if bag[2] == 0 and bag[1] < len(bag[0])
      refine ⟨_, rfl, b, _, 2, _, rfl, rfl, SqL.of hb, rfl, rfl, _, rfl, ite2 (fun _ => ?_) (fun _ => ⟨_, i, p, q, rfl, But.refl b H, hb, i0, p0⟩)⟩
      refine ⟨_, rfl, b, _, 1, _, rfl, rfl, SqL.of hb, rfl, _, rfl, b, _, 0, _, rfl, rfl, SqL.of hb, rfl, l, _, rfl, .inl (SqL.of hl), _, _, rfl, rfl, _, rfl, ite2 (fun e => ?_) (fun _ => ⟨_, i, p, q, rfl, But.refl b H, hb, i0, p0⟩)⟩
      have elt : i < ((ns.map V.int).length : Int) := of_decide_eq_true e
      rw [List.length_map] at elt
      obtain ⟨j, rfl⟩ : ∃ j : Nat, i = (j : Int) := ⟨i.toNat, by omega⟩
      have hj : j < ns.length := by omega
      have gj : (ns.map V.int)[j]? = some (.int ns[j]) := by
        rw [List.getElem?_map, List.getElem?_eq_getElem hj]
        rfl
      -- cell = bag[0][bag[1]]
      refine ⟨_, rfl, b, _, 0, _, rfl, rfl, SqL.of hb, rfl, _, rfl, b, _, 1, _, rfl, rfl, SqL.of hb, rfl, l, _, (j : Int), _, rfl, rfl, SqL.of hl, atI_nat gj, ?_⟩
      -- bag[1] = bag[1] + 1
      refine ⟨_, rfl, b, _, 1, _, rfl, rfl, SqL.of hb, rfl, _, _, rfl, rfl, _, rfl, b, _, 1, 1, rfl, rfl, hb, rfl, ?_⟩
      have hb1 : (upd H b (.lst [.ref l, .int ((j : Int) + 1), .int p, .int q])) b = some (.lst [.ref l, .int ((j : Int) + 1), .int p, .int q]) := upd_same
      have bu : But b H (upd H b (.lst [.ref l, .int ((j : Int) + 1), .int p, .int q])) := But.upd
      refine ⟨_, rfl, _, _, rfl, rfl, ⟨by decide, by decide, by decide⟩, _, _, rfl, rfl, _, rfl, ite2 (fun e2 => ?_) (fun _ => ?_)⟩
      · have big : (10 : Int) ^ (18 : Int).toNat ≤ ns[j] := of_decide_eq_true e2
        have pos : (0 : Int) ≤ (10 : Int) ^ (18 : Int).toNat := by decide
        refine ⟨_, rfl, _, rfl, b, _, 2, 2, rfl, rfl, hb1, rfl, ?_⟩
        exact ⟨_, (j : Int) + 1, ns[j], q, rfl, bu.trans But.upd, upd_same, by omega, by omega⟩
      · refine ⟨_, rfl, b, _, 3, _, rfl, rfl, SqL.of hb1, rfl, _, _, rfl, rfl, .inr ⟨by decide, by decide⟩, _, rfl, _, _, rfl, rfl, .inr ⟨by decide, by decide⟩, _, _, rfl, rfl, _, _, rfl, rfl, .inl ⟨_, rfl, _, _, rfl, rfl, seven 0, _, rfl, b, _, 3, 3, rfl, rfl, hb1, rfl, ?_⟩⟩
        exact ⟨_, (j : Int) + 1, p, _, rfl, bu.trans But.upd, upd_same, by omega, p0⟩
    · rintro σ H1 ⟨c, i', p', q', rfl, bu, hb1, i1, p1⟩
      have hl1 : H1 l = some (.lst (ns.map V.int)) := (bu l nlb).trans hl
      refine ⟨_, rfl, b, _, 2, _, rfl, rfl, SqL.of hb1, rfl, _, _, rfl, rfl, _, rfl, ite2 (fun _ => ?_) (fun _ => ?_)⟩
      · -- digit = int(bag[2]) % size; bag[2] = bag[2] // size; return digit
        refine ⟨_, rfl, b, _, 2, _, rfl, rfl, SqL.of hb1, rfl, .inl ⟨_, rfl, _, rfl, _, _, rfl, rfl, s0, ?_⟩⟩
        refine ⟨_, rfl, b, _, 2, _, rfl, rfl, SqL.of hb1, rfl, _, rfl, _, _, rfl, rfl, ⟨s0, s1⟩, _, rfl, b, _, 2, 2, rfl, rfl, hb1, rfl, _, rfl, ?_⟩
        refine k _ _ (Int.emod_nonneg _ (by omega)) (Int.emod_lt_of_pos _ s0) (bu.trans But.upd) ⟨ns, i', p' / size, q', upd_same, ?_, i1, Int.ediv_nonneg p1 (by omega), nlb, n63⟩
        rw [upd_ne nlb]
        exact hl1
      · refine ⟨_, rfl, b, _, 3, _, rfl, rfl, SqL.of hb1, rfl, _, _, rfl, rfl, .inr ⟨by decide, by decide⟩, _, _, rfl, rfl, .inl ⟨_, rfl, _, _, rfl, rfl, seven 0, _, rfl, b, _, 3, 3, rfl, rfl, hb1, rfl, ?_⟩⟩
        have hb2 : (upd H1 b (.lst [.ref l, .int i', .int p', .int ((q' * 48271 + 11) % 2147483647)])) b = some (.lst [.ref l, .int i', .int p', .int ((q' * 48271 + 11) % 2147483647)]) := upd_same
        refine ⟨_, rfl, b, _, 3, _, rfl, rfl, SqL.of hb2, rfl, _, _, rfl, rfl, ⟨by decide, by decide⟩, .inl ⟨_, rfl, _, rfl, _, _, rfl, rfl, s0, ?_⟩⟩
        refine k _ _ (Int.emod_nonneg _ (by omega)) (Int.emod_lt_of_pos _ s0) (bu.trans But.upd) ⟨ns, i', p', _, upd_same, ?_, i1, p1, nlb, n63⟩
        rw [upd_ne nlb]
        exact hl1
def spBag (K : PySem.W.Frag) : Sp := fun vs H Q _ => ∃ (a : Addr) (ns : List Int), vs = [.ref a] ∧ SqL K H a (ns.map V.int) ∧ ns.length ≤ 63 ∧ ∀ b l H', Same H H' → H b = none → BagL H' b l → Q (.ref b) H'
abbrev nBag : List Str := ["_law_script", "_law_cell"]
theorem scBag : FnScope nBag ["_law_script"] (defScope lBag) := ⟨rfl, rfl, rfl, by decide +kernel, rfl, by decide +kernel, by decide +kernel⟩
theorem ok_bag {f : Addr} {fd : FuncData} (F : Fun K "_law_bag" "_law_bag" lBag f fd) (T : LTxt K mg) : FnOk P w K mg base CX0 1 f fd ["_law_script"] (spBag K) := by
  refine F.ok scBag (fun vs H Q E h => ?_) (fun cdv A outer s H vs Q E hr h => ?_)
  · obtain ⟨a, ns, rfl, _⟩ := h
    rfl
  · obtain ⟨a, ns, rfl, ha, few, k⟩ := h
    refine ⟨_, pss_one (ps_ret (pe_lst (pa_cons (pe_lc (own := [("_law_cell", 1)]) (g := gName 1) (tt := tYes) rfl scBag.nd (pi_list (pe_slice sl_list (pv 0) po_none (po_some pe_int)))
      (blkOk_by (own := [("_law_cell", 1)]) (N := nBag) (sc := defScope lBag) (by decide +kernel)) (fun _ _ _ _ _ => pg_name (i := 1) scBag.nd rfl (Or.inl rfl)) (fun _ _ _ _ _ => pts_nil)
      (fun _ _ _ _ _ => pe_callTy call_int1 (by rfl) T.int (by decide +kernel) (pa_cons (pv 1) pa_nil))) (pa_cons pe_int (pa_cons pe_int (pa_cons pe_int pa_nil)))))), ?_⟩
    refine ⟨_, rfl, 63, rfl, a, _, rfl, ha, fun q nq => ?_⟩
    have ec : cutV (ns.map V.int) none (some 63) = ns.map V.int := by
      rw [show (some 63 : Option Int) = some ((63 : Nat) : Int) from rfl, cut_to, List.take_of_length_le (by rw [List.length_map]; exact few)]
    rw [ec]
    have s1 := same_upd (o := .lst (ns.map V.int)) nq
    refine ⟨q, rfl, ⟨_, SqL.of upd_same⟩, fun D nD => lc_list (K := K) (a := q) (xs := ns.map V.int) (fun i G => Same (upd H q (.lst (ns.map V.int))) G ∧ G D = some (.lst ((ns.take i).map V.int))) ⟨same_upd nD, upd_same⟩ (fun i G _ ⟨sm, _⟩ => SqL.of (sm _ _ upd_same)) ?_ ?_⟩
    · rintro i x G hx ⟨sm, hD⟩
      rw [List.getElem?_map] at hx
      cases e : ns[i]? with
      | none =>
        rw [e] at hx
        cases hx
      | some n =>
        rw [e] at hx
        cases hx
        refine ⟨rfl, tyes (iteT ⟨_, rfl, .inl ⟨n, rfl, _, hD, ?_, fun b o eb => ?_, ?_⟩⟩)⟩
        · rw [List.length_map, List.length_take]
          exact small1000 (by omega)
        · rw [upd_ne (ne_of_none eb nD)]
          exact sm _ _ eb
        · rw [upd_same, List.take_add_one, e, List.map_append]
          rfl
    · rintro G ⟨sm, hD⟩
      rw [List.length_map, List.take_of_length_le (Nat.le_refl _)] at hD
      refine ⟨(by show 4 ≤ sizeLine; decide), fun b nb => ?_⟩
      have nb0 : H b = none := by
        cases z : H b with
        | none => rfl
        | some o =>
          rw [sm _ _ (s1 _ _ z)] at nb
          cases nb
      have ndb : D ≠ b := ne_of_none hD nb
      exact k b D _ (fun x o e => by
        rw [upd_ne (ne_of_none (sm _ _ (s1 _ _ e)) nb)]
        exact sm _ _ (s1 _ _ e)) nb0 ⟨ns, 0, 0, 7, upd_same, by rw [upd_ne ndb]; exact hD, by decide, by decide, ndb, few⟩
end
end Pm
namespace Pm
open PySem PySem.Spec PyProof.Rows L2 SX
/-! ### signs -/
abbrev alphaS : Str := "abcdefghijklmnopqrstuvwxyz"
def Let (c : Nat) : Prop := 97 ≤ c ∧ c ≤ 122
def Good (c : Nat) : Prop := c = 46 ∨ Let c
instance (c : Nat) : Decidable (Let c) := by unfold Let; infer_instance
instance (c : Nat) : Decidable (Good c) := by unfold Good; infer_instance
theorem alpha_at : ∀ n : Nat, n < 26 → alphaS.cps.toList[n]? = some (97 + n) := by decide +kernel
theorem alpha_mem (c : Nat) : c ∈ alphaS.cps.toList ↔ Let c := by
  have e : alphaS.cps.toList = List.range' 97 26 := by decide +kernel
  rw [e, List.mem_range'_1]
  unfold Let
  omega
theorem alpha_len : alphaS.length = 26 := by decide +kernel
theorem len_S (a : List Nat) : (S a).length = a.length := S_len a
theorem small_line {n : Nat} (h : n ≤ 1000) : n ≤ sizeLine := Nat.le_of_lt (small1000 h)
theorem dot_S : ("." : Str) = S [46] := by decide +kernel
/-- three letters -/
def Pal (z : List Nat) : Prop := ∃ c d e, z = [c, d, e] ∧ Let c ∧ Let d ∧ Let e
theorem Pal.len {z : List Nat} (h : Pal z) : z.length = 3 := by
  obtain ⟨c, d, e, rfl, _⟩ := h
  rfl
theorem Pal.good {z : List Nat} (h : Pal z) {c : Nat} (m : c ∈ z) : Let c := by
  obtain ⟨a, b, e, rfl, ha, hb, he⟩ := h
  simp only [List.mem_cons, List.not_mem_nil, or_false] at m
  rcases m with rfl | rfl | rfl <;> assumption
theorem draw_at {z : List Nat} (h : Pal z) {n : Int} (n0 : 0 ≤ n) (n7 : n < 7) : ∃ c, atI ([46] ++ z ++ z) n = some c ∧ Good c := by
  obtain ⟨j, rfl⟩ : ∃ j : Nat, n = (j : Int) := ⟨n.toNat, by omega⟩
  have len : ([46] ++ z ++ z).length = 7 := by simp [h.len]
  have hj : j < ([46] ++ z ++ z).length := by omega
  refine ⟨([46] ++ z ++ z)[j], atI_nat (List.getElem?_eq_getElem hj), ?_⟩
  have m := List.getElem_mem hj
  rcases List.mem_append.mp m with m | m
  · rcases List.mem_append.mp m with m | m
    · exact .inl (by simpa using m)
    · exact .inr (h.good m)
  · exact .inr (h.good m)
section
variable {P : Program} {w : World} {K : PySem.W.Frag} {mg : Str → Option Value} {base : Heap}
def spPal : Sp := fun vs H Q _ => ∃ b l, vs = [.ref b] ∧ BagL H b l ∧ ∀ z H', Pal z → But b H H' → BagL H' b l → Q (.str (S z)) H'
theorem scPal : FnScope ["_law_bag_here", "_law_letters", "_law_first", "_law_second", "_law_third"] ["_law_bag_here"] (defScope lPalette) := ⟨rfl, rfl, rfl, by decide +kernel, rfl, by decide +kernel, by decide +kernel⟩
abbrev tkNames : List Str := ["_law_bag_here", "_law_size"]
theorem ok_pal {f t : Addr} {fd td : FuncData} (F : Fun K "_law_palette" "_law_palette" lPalette f fd) (T : Cl P w K mg base CX0 1 "_law_take" tkNames spTake t td) (L : LTxt K mg) : FnOk P w K mg base CX0 2 f fd ["_law_bag_here"] spPal := by
  refine F.ok scPal (fun vs H Q E h => ?_) (fun cdv A outer s H vs Q E hr h => ?_)
  · obtain ⟨b, l, rfl, _⟩ := h
    rfl
  · obtain ⟨b, l, rfl, hb, k⟩ := h
    refine ⟨_, pss_cons (ps_set (i := 1) scPal.nd rfl (.inl rfl) pe_str)
      (pss_cons (ps_set (i := 2) scPal.nd rfl (.inl rfl) (pe_call T.ok hr (by rfl) T.gl T.kp T.bd .nil pass0 (pa_cons (pv 0) (pa_cons pe_int pa_nil))))
      (pss_cons (ps_set (i := 3) scPal.nd rfl (.inl rfl) (pe_op op_mod (pe_callTy call_int1 (by rfl) L.int (by decide +kernel) (pa_cons (pe_op op_add (pe_op op_add (pv 2) pe_int) (pe_call T.ok hr (by rfl) T.gl T.kp T.bd .nil pass0 (pa_cons (pv 0) (pa_cons pe_int pa_nil)))) pa_nil)) pe_int))
      (pss_cons (ps_set (i := 4) scPal.nd rfl (.inl rfl) (pe_op op_mod (pe_callTy call_int1 (by rfl) L.int (by decide +kernel) (pa_cons (pe_op op_add (pe_op op_add (pv 3) pe_int) (pe_call T.ok hr (by rfl) T.gl T.kp T.bd .nil pass0 (pa_cons (pv 0) (pa_cons pe_int pa_nil)))) pa_nil)) pe_int))
      (pss_one (ps_ret (pe_op op_add_str (pe_op op_add_str (pe_ix ix_str (pv 1) (pv 2) (fun _ _ => rfl)) (pe_ix ix_str (pv 1) (pv 3) (fun _ _ => rfl))) (pe_ix ix_str (pv 1) (pv 4) (fun _ _ => rfl)))))))), ?_⟩
    refine ⟨_, rfl, b, l, 26, rfl, hb, by decide, by decide, fun n H1 n0 n1 u1 b1 => ?_⟩
    refine ⟨_, rfl, _, _, rfl, rfl, _, rfl, b, l, 25, rfl, b1, by decide, by decide, fun n2 H2 p0 p1 u2 b2 => ⟨_, _, rfl, rfl, .inl ⟨_, rfl, _, _, rfl, rfl, (by show (0 : Int) < 26; decide), ?_⟩⟩⟩
    refine ⟨_, rfl, _, _, rfl, rfl, _, rfl, b, l, 25, rfl, b2, by decide, by decide, fun n3 H3 q0 q1 u3 b3 => ⟨_, _, rfl, rfl, .inl ⟨_, rfl, _, _, rfl, rfl, (by show (0 : Int) < 26; decide), ?_⟩⟩⟩
    have at_ : ∀ m : Int, 0 ≤ m → m < 26 → ∃ c, atI alphaS.cps.toList m = some c ∧ Let c := fun m h0 h1 => by
      obtain ⟨j, rfl⟩ : ∃ j : Nat, m = (j : Int) := ⟨m.toNat, by omega⟩
      exact ⟨97 + j, atI_nat (alpha_at j (by omega)), by unfold Let; omega⟩
    obtain ⟨c, ec, hc⟩ := at_ n n0 n1
    obtain ⟨d, ed, hd⟩ := at_ _ (Int.emod_nonneg (n + 1 + n2) (show (26 : Int) ≠ 0 by decide)) (Int.emod_lt_of_pos (n + 1 + n2) (show (0 : Int) < 26 by decide))
    obtain ⟨e, ee, he⟩ := at_ _ (Int.emod_nonneg ((n + 1 + n2) % 26 + 1 + n3) (show (26 : Int) ≠ 0 by decide)) (Int.emod_lt_of_pos ((n + 1 + n2) % 26 + 1 + n3) (show (0 : Int) < 26 by decide))
    have al : alphaS.length ≤ sizeLine := by rw [alpha_len]; exact small_line (by decide)
    refine ⟨_, rfl, _, rfl, _, _, _, rfl, rfl, al, ec, ?_⟩
    refine ⟨_, rfl, _, rfl, _, _, _, rfl, rfl, al, ed, _, _, rfl, rfl, by show 1 + 1 ≤ sizeLine; decide, ?_⟩
    refine ⟨_, rfl, _, rfl, _, _, _, rfl, rfl, al, ee, _, _, rfl, rfl, by show 2 + 1 ≤ sizeLine; decide, ?_⟩
    have z : (S [c] ++ S [d]) ++ S [e] = S [c, d, e] := by rw [S_cat, S_cat]; rfl
    have y := k [c, d, e] H3 ⟨c, d, e, rfl, hc, hd, he⟩ ((u1.trans u2).trans u3) b3
    rw [← z] at y
    exact y
def spRow : Sp := fun vs H Q _ => ∃ b l z w, vs = [.ref b, .str (S z), .int w] ∧ BagL H b l ∧ Pal z ∧ 0 ≤ w ∧ w ≤ 8 ∧
  ∀ r H', (r.length : Int) = w → (∀ c ∈ r, Good c) → But b H H' → BagL H' b l → Q (.str (S r)) H'
theorem scRow : FnScope ["_law_bag_here", "_law_palette_here", "_law_wide", "_law_row_here", "_law_k"] ["_law_bag_here", "_law_palette_here", "_law_wide"] (defScope lRow) := ⟨rfl, rfl, rfl, by decide +kernel, rfl, by decide +kernel, by decide +kernel⟩
theorem ok_row {f t : Addr} {fd td : FuncData} (F : Fun K "_law_row" "_law_row" lRow f fd) (T : Cl P w K mg base CX0 1 "_law_take" tkNames spTake t td) (L : LTxt K mg) : FnOk P w K mg base CX0 2 f fd ["_law_bag_here", "_law_palette_here", "_law_wide"] spRow := by
  refine F.ok scRow (fun vs H Q E h => ?_) (fun cdv A outer s H vs Q E hr h => ?_)
  · obtain ⟨b, l, z, w, rfl, _⟩ := h
    rfl
  · obtain ⟨b, l, z, w, rfl, hb, hz, w0, w8, k⟩ := h
    refine ⟨_, pss_cons (ps_set (i := 3) scRow.nd rfl (.inl rfl) pe_str)
      (pss_cons (ps_for PassesOwn.never rfl (pi_range1 (by rfl) L.rng (pa_cons (pv 2) pa_nil)) (pg_name (i := 4) scRow.nd rfl (.inl rfl))
        (pss_one (ps_set (i := 3) scRow.nd rfl (.inl rfl) (pe_op op_add_str (pv 3) (pe_ix ix_str (pe_op op_add_str (pe_op op_add_str pe_str (pv 1)) (pv 1)) (pe_call T.ok hr (by rfl) T.gl T.kp T.bd .nil pass0 (pa_cons (pv 0) (pa_cons pe_int pa_nil))) (fun _ _ => rfl))))))
      (pss_one (ps_ret (pv 3)))), ?_⟩
    have lz := hz.len
    refine ⟨_, rfl, w, rfl, by omega, by omega, for_range (lo := 0) (n := w.toNat) (fun i σ G => ∃ y r, σ = [some (.ref b), some (.str (S z)), some (.int w), some (.str (S r)), y] ∧ r.length = i ∧ (∀ c ∈ r, Good c) ∧ But b H G ∧ BagL G b l)
      ⟨_, [], rfl, rfl, (fun c m => nomatch m), But.refl b H, hb⟩ ?_ ?_⟩
    · rintro i σ G hi ⟨y, r, rfl, lr, gr, bu, bG⟩
      have e1 : ("." : Str) ++ S z ++ S z = S ([46] ++ z ++ z) := by rw [dot_S, S_cat, S_cat]
      refine ⟨_, rfl, _, rfl, _, _, rfl, rfl, by rw [dot_S, len_S, len_S, lz]; decide, _, rfl, _, _, rfl, rfl, by rw [dot_S, S_cat, len_S, len_S]; simp [lz]; decide, _, rfl, b, l, 7, rfl, bG, by decide, by decide, fun n G1 n0 n1 u1 b1 => ?_⟩
      obtain ⟨c, ec, gc⟩ := draw_at hz n0 n1
      refine ⟨_, n, c, rfl, rfl, by rw [e1, len_S]; simp [lz]; exact small_line (by decide), by rw [e1]; exact ec, _, _, rfl, rfl, ?_, some (.int (0 + (i : Int))), r ++ [c], ?_, ?_, ?_, bu.trans u1, b1⟩
      · rw [len_S]
        show r.length + 1 ≤ sizeLine
        exact small_line (by omega)
      · exact congrArg (fun x => [some (V.ref b), some (V.str (S z)), some (V.int w), some (V.str x), some (V.int (0 + (i : Int)))]) (S_cat r [c])
      · rw [List.length_append, lr]
        rfl
      · intro d hd
        rcases List.mem_append.mp hd with m | m
        · exact gr d m
        · rw [List.mem_singleton.mp m]
          exact gc
    · rintro σ G ⟨y, r, rfl, lr, gr, bu, bG⟩
      exact ⟨_, rfl, k r G (by omega) gr bu bG⟩
/-! ### grids -/
abbrev Rows := List (List Nat)
def rowsV (R : Rows) : List V := R.map fun r => V.str (S r)
structure Grid (R : Rows) (w : Nat) : Prop where
  w1 : 1 ≤ w
  w8 : w ≤ 8
  h1 : 1 ≤ R.length
  h8 : R.length ≤ 8
  row : ∀ r ∈ R, r.length = w
  sgn : ∀ r ∈ R, ∀ c ∈ r, Good c
theorem rowsV_len (R : Rows) : (rowsV R).length = R.length := List.length_map _
theorem bag_upd {H : Hp} {b l t : Addr} {o : HO} (h : BagL H b l) (n : H t = none) : BagL (upd H t o) b l := by
  obtain ⟨ns, i, p, q, hb, hl, r⟩ := h
  exact ⟨ns, i, p, q, by rw [upd_ne (ne_of_none hb n)]; exact hb, by rw [upd_ne (ne_of_none hl n)]; exact hl, r⟩
theorem bag_b {H : Hp} {b l : Addr} (h : BagL H b l) : ∃ xs, H b = some (.lst xs) := by
  obtain ⟨_, _, _, _, hb, _⟩ := h
  exact ⟨_, hb⟩
theorem bag_ne {H : Hp} {b l t : Addr} {o : HO} (h : BagL H b l) (tb : t ≠ b) (tl : t ≠ l) : BagL (upd H t o) b l := by
  obtain ⟨ns, i, p, q, hb, hl, r⟩ := h
  exact ⟨ns, i, p, q, by rw [upd_ne (Ne.symm tb)]; exact hb, by rw [upd_ne (Ne.symm tl)]; exact hl, r⟩
theorem bag_l {H : Hp} {b l : Addr} (h : BagL H b l) : ∃ xs, H l = some (.lst xs) := by
  obtain ⟨_, _, _, _, _, hl, _⟩ := h
  exact ⟨_, hl⟩
theorem but_same {b : Addr} {H H' : Hp} (h : But b H H') : SameBut b H H' := fun a o ha e => (h a ha).trans e
theorem sb_trans {b : Addr} {H H1 H2 : Hp} (h : SameBut b H H1) (k : SameBut b H1 H2) : SameBut b H H2 := fun a o ha e => k a o ha (h a o ha e)
theorem sb_refl (b : Addr) (H : Hp) : SameBut b H H := fun _ _ _ e => e
theorem same_sb {b : Addr} {H H' : Hp} (h : Same H H') : SameBut b H H' := fun a o _ e => h a o e
def spGrid : Sp := fun vs H Q _ => ∃ b l z, vs = [.ref b, .str (S z)] ∧ BagL H b l ∧ Pal z ∧
  ∀ p R w H', Grid R w → SameBut b H H' → BagL H' b l → H p = none → H' p = some (.lst (rowsV R)) → Q (.ref p) H'
abbrev nGrid : List Str := ["_law_bag_here", "_law_palette_here", "_law_wide", "_law_k"]
theorem scGrid : FnScope nGrid ["_law_bag_here", "_law_palette_here"] (defScope lBigGrid) := ⟨rfl, rfl, rfl, by decide +kernel, rfl, by decide +kernel, by decide +kernel⟩
theorem ok_grid {f t g : Addr} {fd td gd : FuncData} (F : Fun K "_law_big_grid" "_law_big_grid" lBigGrid f fd) (T : Cl P w K mg base CX0 1 "_law_take" tkNames spTake t td) (R : Cl P w K mg base CX0 2 "_law_row" ["_law_bag_here", "_law_palette_here", "_law_wide"] spRow g gd) (L : LTxt K mg) :
    FnOk P w K mg base CX0 3 f fd ["_law_bag_here", "_law_palette_here"] spGrid := by
  refine F.ok scGrid (fun vs H Q E h => ?_) (fun cdv A outer s H vs Q E hr h => ?_)
  · obtain ⟨b, l, z, rfl, _⟩ := h
    rfl
  · obtain ⟨b, l, z, rfl, hb, hz, k⟩ := h
    have hr1 : Room 1 _ := hr.mono (by decide)
    refine ⟨_, pss_cons (ps_set (i := 2) scGrid.nd rfl (.inr rfl) (pe_op op_add pe_int (pe_call T.ok hr1 (by rfl) T.gl T.kp T.bd .nil pass0 (pa_cons (pv 0) (pa_cons pe_int pa_nil)))))
      (pss_one (ps_ret (pe_lc (own := [("_law_k", 3)]) (g := gName 3) (tt := tYes) rfl scGrid.nd (pi_range1 (by rfl) L.rng (pa_cons (pe_op op_add pe_int (pe_call T.ok hr1 (by rfl) T.gl T.kp T.bd .nil pass0 (pa_cons (pv 0) (pa_cons pe_int pa_nil)))) pa_nil)) (blkOk_by (N := nGrid) (sc := defScope lBigGrid) (by decide +kernel)) (fun _ _ _ _ _ => pg_name (i := 3) scGrid.nd rfl (.inl rfl)) (fun _ _ _ _ _ => pts_nil)
        (fun _ _ _ _ _ => pe_call R.ok hr (by rfl) R.gl R.kp R.bd .nil pass0 (pa_cons (pv 0) (pa_cons (pv 1) (pa_cons (pv 2) pa_nil))))))), ?_⟩
    refine ⟨_, rfl, b, l, 8, rfl, hb, by decide, by decide, fun n H1 n0 n1 u1 b1 => ⟨_, _, rfl, rfl, ?_⟩⟩
    refine ⟨_, rfl, b, l, 8, rfl, b1, by decide, by decide, fun m H2 m0 m1 u2 b2 => ⟨_, _, rfl, rfl, 1 + m, rfl, by omega, by omega, fun D nD => ?_⟩⟩
    have s2 : SameBut b H H2 := but_same (u1.trans u2)
    have nDb : D ≠ b := fun e => by
      obtain ⟨xs, e2⟩ := bag_b b2
      rw [e, e2] at nD
      cases nD
    have nDl : D ≠ l := fun e => by
      obtain ⟨xs, e2⟩ := bag_l b2
      rw [e, e2] at nD
      cases nD
    have nD0 : H D = none := by
      obtain ⟨xs, e2⟩ := bag_b hb
      exact but_back e2 s2 nDb nD
    refine lc_range (lo := 0) (n := (1 + m).toNat) (fun i G => ∃ R : Rows, R.length = i ∧ (∀ r ∈ R, (r.length : Int) = 1 + n ∧ ∀ c ∈ r, Good c) ∧ SameBut b H G ∧ BagL G b l ∧ G D = some (.lst (rowsV R))) ⟨[], rfl, (fun r hr => nomatch hr), fun a o ha e => ?_, bag_upd b2 nD, upd_same⟩ ?_ ?_
    · rw [upd_ne (ne_of_none (s2 a o ha e) nD)]
      exact s2 a o ha e
    · rintro i G hi ⟨R, lR, gR, sG, bG, hD⟩
      refine ⟨rfl, tyes (iteT ⟨_, rfl, _, rfl, _, rfl, b, l, z, 1 + n, rfl, bG, hz, by omega, by omega, fun r G1 lr gr u3 b3 => ⟨rowsV R, (u3 D nDb).trans hD, ?_, R ++ [r], ?_, ?_, fun a o ha e => ?_, ?_, ?_⟩⟩)⟩
      · rw [rowsV_len]
        exact small1000 (by omega)
      · rw [List.length_append, lR]
        rfl
      · intro q hq
        rcases List.mem_append.mp hq with y | y
        · exact gR q y
        · rw [List.mem_singleton.mp y]
          exact ⟨lr, gr⟩
      · rw [upd_ne (ne_of_none e nD0)]
        exact (u3 a ha).trans (sG a o ha e)
      · exact bag_ne b3 nDb nDl
      · rw [upd_same]
        unfold rowsV
        rw [List.map_append]
        rfl
    · rintro G ⟨R, lR, gR, sG, bG, hD⟩
      refine k D R (1 + n).toNat G ⟨by omega, by omega, by omega, by omega, fun r hr => by have := (gR r hr).1; omega, fun r hr => (gR r hr).2⟩ sG bG nD0 hD
end
end Pm
namespace Pm
open PySem PySem.Spec PyProof.Rows L2 SX
/-! ### for i, x in enumerate(xs, start=1) -/
/-- the list at a, item by item, each with its number counted from 1, in a new pair -/
def ItS (K : PySem.W.Frag) (a : Addr) : It where
  go := fun i H => ∃ (xs : List V) (x : V), SqL K H a xs ∧ xs[i]? = some x
  yld := fun i H v H' => ∃ T x, v = .ref T ∧ H T = none ∧ H' = upd H T (.tup [.int ((i : Int) + 1), x]) ∧ ∀ xs, SqL K H a xs → xs[i]? = some x
  stop := fun i H => ∃ xs : List V, SqL K H a xs ∧ xs.length = i
/-- a list's draws, counted from 1 -/
theorem draws1 {prog : Program} {w : World} {A : Around} (hh : A.handled = none) (it l : Addr) (ne : l ≠ it) (xs : Array Value) :
    Draws prog w A it [it, l] (xs.size + 1) (fun i v => xs[i - 1]? = some v) (fun i h => 1 ≤ i ∧ h.IsListIter it l (i - 1) ∧ h.IsList l xs) := by
  have D := Draws.list (prog := prog) (w := w) hh it l ne xs
  refine ⟨fun i h st => D.live (i - 1) h st.2, fun i h g st k => ⟨st.1, D.frame (i - 1) h g st.2 k⟩, ?_, fun s Q E st q => D.done s Q E st.2 q⟩
  intro i s Q E lt st q
  obtain ⟨j, rfl⟩ : ∃ j, i = j + 1 := ⟨i - 1, by have := st.1; omega⟩
  exact D.item j s Q E (by omega) st.2 fun x g tk px sx sb => q x g tk px ⟨by omega, sx⟩ sb
theorem apartL {h : Heap} {a it : Addr} {xs : Array Value} {i : Nat} (isl : h.IsList a xs) (h2 : h.IsListIter it a i) : a ≠ it := fun z => by
  obtain ⟨o, y, yc, n, yd⟩ := isl
  obtain ⟨o', y', _, yd'⟩ := h2
  rw [z, y'] at y
  cases y
  rw [yd'] at yd
  cases yd
theorem apartE {h : Heap} {a e it : Addr} {xs : Array Value} {i : Int} {w : Value} (isl : h.IsList a xs) (h1 : IsEnum h e it i w) : e ≠ a := fun z => by
  obtain ⟨o, y, yc, n, yd⟩ := isl
  rw [← z, h1] at y
  cases y
  cases yd
def tnS (e it a : Addr) (i : Nat) (h : Heap) : Prop := (∃ o, IsEnum h e it ((i + 1 : Nat) : Int) o) ∧ h.IsListIter it a i ∧ e ≠ it
theorem turnS {P : Program} {w : World} {K : PySem.W.Frag} {es : List Expr} {kk : Nat} {tp : Pos} (a e it : Addr) : Turn P w K (.Tuple es kk tp) (ItS K a) [e, it] e (tnS e it a) := by
  have two : ∀ {b : Addr}, b ∈ [e, it] → b = e ∨ b = it := fun m => by simpa using m
  constructor
  case mem => exact List.mem_cons_self
  case obj =>
    rintro i h ⟨⟨o1, h1⟩, ⟨o2, h2, _, d2⟩, _⟩ b m
    rcases two m with rfl | rfl
    · exact ⟨_, h1, fun v q => nomatch q⟩
    · refine ⟨o2, h2, fun v q => ?_⟩
      rw [d2] at q
      cases q
  case keep =>
    rintro i h g ⟨⟨o1, h1⟩, h2, ne⟩ k
    exact ⟨⟨o1, k e (by simp) _ h1⟩, h2.at fun o y => k it (by simp) o y, ne⟩
  case self =>
    rintro A i s Q E ⟨⟨_, h1⟩, _⟩ q
    exact wpAny_pyIter_enum h1 q
  case done =>
    rintro X rfl rfl rfl calm i pins s σ H E I free ⟨⟨o1, h1⟩, h2, ne⟩ ⟨xs, hx, rfl⟩
    obtain ⟨us, rv, isl, _⟩ := I.list hx
    obtain ⟨f0, f1, f2, f3, f4, f5⟩ := free it (by simp)
    have D := draws1 (prog := X.prog) (w := X.w) (A := X.A.in1) (I.ok.hd calm) it a (apartL isl.isList h2) us.toArray
    have e5 : us.toArray.size = xs.length := by simpa using rv.length.symm
    rw [e5] at D
    exact wpAny_pyNext_enum_endD D h1 ⟨by omega, h2, isl.isList⟩ fun g eb => ⟨rfl, I.turned (t' := s.toks) (fun b o nb y => eb b o nb y) f0 f1 f3 f4 f5⟩
  case item =>
    rintro X rfl rfl rfl calm i pins s σ H E I free ⟨⟨o1, h1⟩, h2, ne⟩ ⟨xs, x, hx, gx⟩
    obtain ⟨us, rv, isl, _⟩ := I.list hx
    obtain ⟨u, gu, ru⟩ := rv.get gx
    have nl := apartL isl.isList h2
    have D := draws1 (prog := X.prog) (w := X.w) (A := X.A.in1) (I.ok.hd calm) it a nl us.toArray
    have big : e < s.heap.objs.size := Heap.lt_size h1
    have sz : i < us.length := by
      rcases List.getElem?_eq_some_iff.mp gu with ⟨y, _⟩
      exact y
    refine wpAny_pyNext_enum_itemD (i := i + 1) D h1 ⟨by omega, h2, isl.isList⟩ (by simpa using sz) ne (fun m => ?_) fun v g tk pv eo st gT gs gk => ?_
    · rcases List.mem_cons.mp m with z | z
      · exact ne z
      · exact apartE isl.isList h1 (List.mem_singleton.mp z)
    · have ev : v = u := by
        have y : us.toArray[i]? = some v := pv
        rw [List.getElem?_toArray, gu] at y
        exact (Option.some.inj y).symm
      subst ev
      refine ⟨_, rfl, wpAny_letOwnedTupleGo_enum (s := { s with heap := g, toks := tk + 1 }) eo fun g2 e2 sb => ?_⟩
      have T2 : g2.get? s.heap.objs.size = some { cls := .type "tuple", data := .seq #[.int ((i + 1 : Nat) : Int) tk, v] } :=
        (sb.2 _ (Nat.ne_of_gt big)).trans gT
      have fresh : H s.heap.objs.size = none := I.hok.fresh (Nat.le_refl _)
      have pair : ObjOk X.prog X.w (upd H s.heap.objs.size (.tup [.int ((i : Int) + 1), x])) g2 s.heap.objs.size (.tup [.int ((i : Int) + 1), x]) :=
        ⟨small_line (by show 2 ≤ 1000; decide), [.int ((i + 1 : Nat) : Int) tk, v], .cons ⟨_, rfl⟩ (.cons ru .nil), ⟨_, T2, rfl, _, rfl⟩⟩
      have J : L2.Inv X pins σ (upd H s.heap.objs.size (.tup [.int ((i : Int) + 1), x])) { s with heap := g2, toks := tk + 1 } :=
        I.turnedNew (ch := [e, it]) (fun b o nb y => (sb.2 b (fun z => nb (by simp [z]))).trans (gk b o (fun z => nb (by simp [z])) (fun z => nb (by simp [z])) y)) free (Nat.le_refl _) pair
      refine ⟨.ref s.heap.objs.size, _, J, rfl, ⟨_, x, rfl, fresh, rfl, fun ys hy => ?_⟩, ⟨⟨v, e2⟩, st.2.1.at fun o y => (sb.2 it (Ne.symm ne)).trans y, ne⟩, fun b m => ?_⟩
      · rw [I.list_inj hy hx]
        exact gx
      · rw [upd_ne (fun z => ?_)]
        · exact (free b m).1
        · rcases two m with y | y
          · rw [y] at z
            rw [← z] at big
            exact Nat.lt_irrefl _ big
          · have lt2 : it < s.heap.objs.size := by
              obtain ⟨_, y2, _⟩ := h2
              exact Heap.lt_size y2
            rw [y] at z
            rw [← z] at lt2
            exact Nat.lt_irrefl _ lt2
/-! ### its making -/
section
variable {M : Model} {A : Around} {E : Value → Shared → Prop} {s : Shared} {env : Env}
theorem kw_type {pos : Pos} {T : String} {e : Expr} {es : List Expr} {kws : List Keyword} {Q : Value → Shared → Prop}
    (h : wpAny M A (spliced (backTo pos (starEach (e :: es) env))) (fun us s1 => wpAny M A (evalAll ((backToKw pos (keywordEach kws env)).map (·.2)))
      (fun ks s2 => wpAny M A (call (.type T) us (((backToKw pos (keywordEach kws env)).filterMap (·.1)).zip ks)) Q E s2) E s1) E s)
    (h1 : backTo pos (starEach (e :: es) env) = (false, eval e env) :: backTo pos (starEach es env) := by rfl) (h2 : (backTo pos (starEach (e :: es) env)).any (·.1) = false := by rfl)
    (h3 : (backToKw pos (keywordEach kws env)).all (·.1.isSome) = true := by rfl) (h4 : (backToKw pos (keywordEach kws env)).any (·.1.isNone) = false := by rfl) :
    wpAny M A (callWith pos (.type T) [] (backTo pos (starEach (e :: es) env)) (backToKw pos (keywordEach kws env))) Q E s := by
  have go : wpAny M A (evalArgs (.type T) true (backTo pos (starEach (e :: es) env)) (backToKw pos (keywordEach kws env))) (fun a s1 => wpAny M A (call (.type T) ([] ++ a.pos) a.kw) Q E s1) E s := by
    rw [h1] at h ⊢
    exact evalArgs_kwB h3 h
  unfold callWith
  refine wpAny_bind (wpAny_holding (wpAny_mono go (fun a s1 r => wpAny_bind (wpAny_standAt ?_)) fun _ _ y => y))
  simp only [h2, h4, Bool.or_false]
  exact wpAny_bind (wpAny_pure (wpAny_bind (wpAny_mono r (fun u s2 q => wpAny_bind (wpAny_holding (wpAny_point (wpAny_pure q)))) fun _ _ y => y)))
end
def iEnS (K : PySem.W.Frag) (ta tk : TA) : TI := fun σ H R => ta σ H fun vs H1 => tk σ H1 fun zs H2 => ∃ a xs, vs = [.ref a] ∧ zs = [.int 1] ∧ SqL K H2 a xs ∧ R (ItS K a) H2
theorem pi_enumS {X : Cx} {e ke : Expr} {ta tk : TA} {p kp pos tp : Pos} {es : List Expr} {kk : Nat} (hg : Gl X "enumerate") (hm : X.mg "enumerate" = none) (ha : PA X [e] ta) (hk : PK X [⟨some "start", ke, kp⟩] tk)
    (h1 : backTo pos (starEach [e] X.env) = (false, eval e X.env) :: backTo pos (starEach [] X.env) := by rfl) (h2 : (backTo pos (starEach [e] X.env)).any (·.1) = false := by rfl) :
    PI X (.Tuple es kk tp) (.Call (.Name "enumerate" p) [e] [⟨some "start", ke, kp⟩] pos) (iEnS X.K ta tk) := by
  refine ⟨fun pins s σ H R I h => ?_⟩
  refine wpAny_Call_Name_kw (ld_blt I hg hm boot_enumerate (kw_type (thn (ha.run pos pins s σ H _ I h) fun us s1 ⟨vs, H1, I1, r1, q1⟩ => thn (hk.run pos pins s1 σ H1 _ I1 q1) fun ks s2 ⟨zs, H2, I2, r2, a, xs, ev, ez, hx, q⟩ => ?_) h1 h2) (by decide) (by decide))
  subst ev ez
  match r1, r2 with
  | .cons ra .nil, .cons rk .nil =>
    cases ra
    obtain ⟨t, rfl⟩ := rk
    obtain ⟨vals, rv, isl, _⟩ := I2.list hx
    refine enum_begins_start (begins_list a vals.toArray) isl.isList (by decide) (by decide) fun g he hi hz hk2 => wpAny_pyIter_enum he ?_
    have J : L2.Inv X pins σ H2 { s2 with heap := g } := I2.kept (t' := s2.toks) hk2
    refine ⟨s2.heap.objs.size + 1, [s2.heap.objs.size + 1, s2.heap.objs.size], _, ItS X.K a, H2, rfl, J, turnS a (s2.heap.objs.size + 1) s2.heap.objs.size, ⟨⟨.none, he⟩, ⟨_, hi, rfl, rfl⟩, Nat.succ_ne_self _⟩, fun b m => ?_, q⟩
    have le : s2.heap.objs.size ≤ b := by
      rcases List.mem_cons.mp m with y | y
      · rw [y]
        exact Nat.le_succ _
      · rw [List.mem_singleton.mp y]
        exact Nat.le_refl _
    exact I2.fpOk le (I2.hok.fresh le)
end Pm
namespace Pm
open PySem PySem.Spec PyProof.Rows L2 SX
/-! ### which rows are good -/
def stoneB : List Nat → Bool
  | [c] => decide (Let c)
  | _ => false
def goodB : List Nat → Bool
  | [c] => decide (Good c)
  | _ => false
def okB (w : Int) (z : List Nat) : Bool := (decide (1 ≤ z.length) && decide (z.length ≤ 8) && decide ((z.length : Int) = w)) && z.all fun c => decide (Good c)
def lineOf : Rows → Int
  | [] => 1
  | r :: R => match ((r :: R).take 8).findIdx? (fun z => !okB (r.length : Int) z) with
    | some i => (i : Int) + 1
    | none => if 8 < (r :: R).length then 9 else 0
structure PTxt (K : PySem.W.Frag) (mg : Str → Option Value) (C : Addr) : Prop where
  gC : mg "Picture" = some (.ref C)
  cr : ∃ mc, ClX.CRead K C mc ∧ (∃ u, ClX.CVal K C mc "HOLE" (.str ".") u) ∧ ∃ u, ClX.CVal K C mc "EDGE" (.str "#") u
  stones : ∃ u, mg "STONES" = some u ∧ RelV (.str alphaS) u
  most : ∃ u, mg "MOST" = some u ∧ RelV (.int 8) u
  all : mg "all" = none
  enum : mg "enumerate" = none
theorem len_one {z : List Nat} (h : z.length = 1) : ∃ c, z = [c] := match z, h with | [c], _ => ⟨c, rfl⟩
theorem stoneB_ne {z : List Nat} (h : z.length ≠ 1) : stoneB z = false := by
  match z, h with
  | [], _ => rfl
  | [_], h => exact absurd rfl h
  | _ :: _ :: _, _ => rfl
theorem goodB_ne {z : List Nat} (h : z.length ≠ 1) : goodB z = false := by
  match z, h with
  | [], _ => rfl
  | [_], h => exact absurd rfl h
  | _ :: _ :: _, _ => rfl
section
variable {P : Program} {w : World} {K : PySem.W.Frag} {mg : Str → Option Value} {base : Heap} {C : Addr}
def spStone : Sp := fun vs H Q _ => ∃ z, vs = [.str (S z)] ∧ z.length ≤ 1000 ∧ Q (.bl (stoneB z)) H
theorem scStone : FnScope ["sign"] ["sign"] (defScope gIsStone) := ⟨rfl, rfl, rfl, by decide +kernel, rfl, by decide +kernel, by decide +kernel⟩
theorem ok_stone {f : Addr} {fd : FuncData} (F : Fun K "is_stone" "is_stone" gIsStone f fd) (L : LTxt K mg) (T : PTxt K mg C) : FnOk P w K mg base CX0 1 f fd ["sign"] spStone := by
  refine F.ok scStone (fun vs H Q E h => ?_) (fun cdv A outer s H vs Q E hr h => ?_)
  · obtain ⟨z, rfl, _⟩ := h
    rfl
  · obtain ⟨z, rfl, few, k⟩ := h
    obtain ⟨u, hu, ru⟩ := T.stones
    refine ⟨_, pss_one (ps_ret (pe_and (pe_cmpR op_eq (pe_callB call_len_str (by rfl) L.len PySem.boot_len (pa_cons (pv 0) pa_nil)) pe_int (nomark _)) (pe_one (pe_cmpR op_in_sign (pv 0) (pe_glob (by rfl) hu ru) (by rfl))))), ?_⟩
    refine ⟨_, rfl, _, rfl, by rw [len_S]; exact small_line few, rfl, _, rfl, ite2 (fun e => ?_) (fun e => ?_)⟩
    · have e1 : z.length = 1 := by
        have := of_decide_eq_true e
        simp only [V.int.injEq] at this
        rw [len_S] at this
        omega
      obtain ⟨c, rfl⟩ := len_one e1
      refine ⟨_, rfl, c, _, rfl, rfl, ?_⟩
      have y : decide (c ∈ alphaS.cps.toList) = stoneB [c] := decide_eq_decide.mpr (alpha_mem c)
      rw [y]
      exact k
    · have e1 : z.length ≠ 1 := fun y => e (decide_eq_true (by rw [len_S, y]; rfl))
      rw [stoneB_ne e1] at k
      exact k
def spSoh : Sp := fun vs H Q _ => ∃ z, vs = [.str (S z)] ∧ z.length ≤ 1000 ∧ Q (.bl (goodB z)) H
theorem scSoh : FnScope ["sign"] ["sign"] (defScope gIsStoneOrHole) := ⟨rfl, rfl, rfl, by decide +kernel, rfl, by decide +kernel, by decide +kernel⟩
theorem ok_soh {f g : Addr} {fd gd : FuncData} (F : Fun K "is_stone_or_hole" "is_stone_or_hole" gIsStoneOrHole f fd) (G : Cl P w K mg base CX0 1 "is_stone" ["sign"] spStone g gd) (T : PTxt K mg C) : FnOk P w K mg base CX0 2 f fd ["sign"] spSoh := by
  refine F.ok scSoh (fun vs H Q E h => ?_) (fun cdv A outer s H vs Q E hr h => ?_)
  · obtain ⟨z, rfl, _⟩ := h
    rfl
  · obtain ⟨z, rfl, few, k⟩ := h
    obtain ⟨mc, cr, ⟨u, hu⟩, _⟩ := T.cr
    refine ⟨_, pss_one (ps_ret (pe_or (pe_cmpR op_eq (pv 0) (ClX.pe_cval (pe_glob (v := .ref C) (by rfl) T.gC rfl)) (nomark _)) (pe_one (pe_call G.ok hr (by rfl) G.gl G.kp G.bd .nil pass0 (pa_cons (pv 0) pa_nil))))), ?_⟩
    refine ⟨_, rfl, C, mc, _, u, rfl, cr, hu, rfl, _, rfl, ite2 (fun e => ?_) (fun e => ⟨_, rfl, z, rfl, few, ?_⟩)⟩
    · have e1 : z = [46] := by
        have := of_decide_eq_true e
        simp only [V.str.injEq] at this
        rw [dot_S] at this
        exact S_inj this
      subst e1
      exact k
    · have e1 : z ≠ [46] := fun y => e (decide_eq_true (by rw [y, dot_S]))
      have e2 : stoneB z = goodB z := by
        by_cases l1 : z.length = 1
        · obtain ⟨c, rfl⟩ := len_one l1
          refine decide_eq_decide.mpr ⟨.inr, fun y => ?_⟩
          rcases y with y | y
          · exact absurd (by rw [y]) e1
          · exact y
        · rw [stoneB_ne l1, goodB_ne l1]
      rw [e2]
      exact k
/-! ### a bad row -/
def spBad : Sp := fun vs H Q _ => ∃ z w, vs = [.str (S z), .int w] ∧ z.length ≤ 1000 ∧ ∀ H', Same H H' → Q (.bl (!okB w z)) H'
abbrev nBad : List Str := ["row", "width", "sign"]
theorem scBad : FnScope nBad ["row", "width"] (defScope gIsBadRow) := ⟨rfl, rfl, rfl, by decide +kernel, rfl, by decide +kernel, by decide +kernel⟩
theorem all_good (z : List Nat) : (z.map fun c => goodB [c]).all id = z.all fun c => decide (Good c) := by
  rw [List.all_map]
  rfl
theorem ok_bad {f g : Addr} {fd gd : FuncData} (F : Fun K "_is_bad_row" "_is_bad_row" gIsBadRow f fd) (G : Cl P w K mg base CX0 2 "is_stone_or_hole" ["sign"] spSoh g gd) (L : LTxt K mg) (T : PTxt K mg C) : FnOk P w K mg base CX0 3 f fd ["row", "width"] spBad := by
  refine F.ok scBad (fun vs H Q E h => ?_) (fun cdv A outer s H vs Q E hr h => ?_)
  · obtain ⟨z, w, rfl, _⟩ := h
    rfl
  · obtain ⟨z, w, rfl, few, k⟩ := h
    obtain ⟨um, hm, rm⟩ := T.most
    refine ⟨_, pss_cons (ps_if (PW.pt (pw_or (pt_not (pt_chain op_le op_le pe_int (pe_callB call_len_str (by rfl) L.len PySem.boot_len (pa_cons (pv 0) pa_nil)) (pe_glob (by rfl) hm rm))) (pw_or1 (pt_cmpR op_ne (pe_callB call_len_str (by rfl) L.len PySem.boot_len (pa_cons (pv 0) pa_nil)) (pv 1) (nomark _))))) (pss_one (ps_ret pe_bl)) pss_nil)
      (pss_one (ps_ret (pe_not (pe_callB (cr_all rfl) (by rfl) T.all (by decide +kernel) (pa_cons (pe_lc (own := [("sign", 2)]) (g := gName 2) (tt := tYes) rfl scBad.nd (pi_str (pv 0)) (blkOk_by (N := nBad) (sc := defScope gIsBadRow) (by decide +kernel)) (fun _ _ _ _ _ => pg_name (i := 2) scBad.nd rfl (.inl rfl)) (fun _ _ _ _ _ => pts_nil)
        (fun _ _ _ _ _ => pe_call G.ok hr (by rfl) G.gl G.kp G.bd .nil pass0 (pa_cons (pv 2) pa_nil))) pa_nil))))), ?_⟩
    have line : (S z).length ≤ sizeLine := by rw [len_S]; exact small_line few
    have body : okB w z = (z.all fun c => decide (Good c)) → ∀ H1, Same H H1 → Q (.bl (!(z.all fun c => decide (Good c)))) H1 := fun e H1 s1 => by
      rw [← e]
      exact k H1 s1
    -- what stands behind the test, where it does not hold
    have go : (1 ≤ z.length ∧ z.length ≤ 8 ∧ (z.length : Int) = w) → okB w z = (z.all fun c => decide (Good c)) := fun ⟨a, b, c⟩ => by
      unfold okB
      rw [decide_eq_true a, decide_eq_true b, decide_eq_true c]
      rfl
    have no : ¬ (1 ≤ z.length ∧ z.length ≤ 8 ∧ (z.length : Int) = w) → okB w z = false := fun y => by
      unfold okB
      by_cases a : 1 ≤ z.length
      · by_cases b : z.length ≤ 8
        · by_cases c : (z.length : Int) = w
          · exact absurd ⟨a, b, c⟩ y
          · rw [decide_eq_false c, Bool.and_false]
            rfl
        · rw [decide_eq_false b, Bool.and_false]
          rfl
      · rw [decide_eq_false a]
        rfl
    have yes : ¬ (1 ≤ z.length ∧ z.length ≤ 8 ∧ (z.length : Int) = w) → Q (.bl true) H := fun y => by
      have q := k H (Same.refl H)
      rw [no y] at q
      exact q
    refine ⟨_, rfl, _, rfl, line, _, _, rfl, rfl, _, rfl, ite2 (fun a => ?_) (fun a => ?_)⟩
    · have a1 : 1 ≤ z.length := by
        have y := of_decide_eq_true a
        rw [len_S] at y
        omega
      refine ⟨_, _, rfl, rfl, _, rfl, ?_⟩
      by_cases b : z.length ≤ 8
      · refine iteFe (by rw [len_S]; simp; omega) ⟨_, rfl, _, rfl, line, _, rfl, rfl, _, rfl, ?_⟩
        by_cases c : (z.length : Int) = w
        · refine iteFe (by rw [len_S]; simp [c]) ⟨_, rfl, _, rfl, fun D nD => lc_it walk_str (fun i G => Same H G ∧ G D = some (.lst (((z.take i).map fun c => goodB [c]).map V.bl))) ⟨same_upd nD, upd_same⟩ (fun _ _ _ _ => trivial) ?_ ?_⟩
          · rintro i x G G' hi ⟨sG, hD⟩ ⟨rfl, d, gd, rfl⟩
            have gd2 : z[i]? = some d := by
              have y : z.toArray[i]? = some d := gd
              rwa [List.getElem?_toArray] at y
            refine ⟨rfl, tyes (iteT ⟨_, rfl, [d], rfl, (show 1 ≤ 1000 by decide), _, hD, ?_, ?_, ?_⟩)⟩
            · rw [List.length_map, List.length_map, List.length_take]
              exact small1000 (by omega)
            · exact fun b o e => by
                rw [upd_ne (ne_of_none e nD)]
                exact sG b o e
            · rw [upd_same, List.take_add_one, gd2]
              simp
          · rintro G ⟨sG, hD⟩
            have e1 : (S z).cps.size = z.length := by simp
            rw [e1, List.take_of_length_le (Nat.le_refl _)] at hD
            refine ⟨D, _, rfl, SqL.of hD, _, rfl, ?_⟩
            rw [all_good]
            exact body (go ⟨a1, b, c⟩) G sG
        · exact iteTe (by rw [len_S]; simp [c]) (yes fun y => c y.2.2)
      · exact iteTe (by rw [len_S]; simp; omega) (iteT (yes fun y => b y.2.1))
    · refine ⟨_, rfl, iteT (iteT (yes fun y => a (decide_eq_true ?_)))⟩
      rw [len_S]
      have := y.1
      omega
/-! ### the first bad line -/
def spLine : Sp := fun vs H Q _ => ∃ a R, vs = [.ref a] ∧ H a = some (.lst (rowsV R)) ∧ R.length ≤ 1000 ∧ (∀ r ∈ R, r.length ≤ 1000) ∧ ∀ H', Same H H' → Q (.int (lineOf R)) H'
theorem scLine : FnScope ["rows", "line", "row"] ["rows"] (defScope gBadLine) := ⟨rfl, rfl, rfl, by decide +kernel, rfl, by decide +kernel, by decide +kernel⟩
theorem walkS {K : PySem.W.Frag} {a : Addr} {xs : List V} : Walk (ItS K a) xs.length (fun H => SqL K H a xs) (fun i H v H' => ∃ T x, v = .ref T ∧ H T = none ∧ H' = upd H T (.tup [.int ((i : Int) + 1), x]) ∧ xs[i]? = some x) :=
  ⟨fun i H hi h => ⟨xs, xs[i], h, List.getElem?_eq_getElem hi⟩, fun H h => ⟨xs, h, rfl⟩, fun i H v H' _ h ⟨T, x, a, b, c, d⟩ => ⟨T, x, a, b, c, d xs h⟩⟩
theorem row0 (r : List Nat) (R : Rows) : atI (rowsV (r :: R)) 0 = some (.str (S r)) := atI_nat (j := 0) (by rfl)
theorem rowsV_at {R : Rows} {i : Nat} {x : V} (h : (rowsV R)[i]? = some x) : ∃ r, R[i]? = some r ∧ x = .str (S r) := by
  unfold rowsV at h
  rw [List.getElem?_map] at h
  cases e : R[i]? with
  | none =>
    rw [e] at h
    cases h
  | some r =>
    rw [e] at h
    cases h
    exact ⟨r, rfl, rfl⟩
theorem lineOf_cons {r : List Nat} {R : Rows} : lineOf (r :: R) = match ((r :: R).take 8).findIdx? (fun z => !okB (r.length : Int) z) with
    | some i => (i : Int) + 1
    | none => if 8 < (r :: R).length then 9 else 0 := rfl
theorem find_some {p : List Nat → Bool} : ∀ {l : Rows} {i : Nat} {z : List Nat}, l[i]? = some z → p z = true → (∀ j y, j < i → l[j]? = some y → p y = false) → l.findIdx? p = some i
  | [], i, z, h, _, _ => by simp at h
  | y :: l, 0, z, h, hz, _ => by
    have e : y = z := by simpa using h
    subst e
    rw [List.findIdx?_cons, hz]
    rfl
  | y :: l, i + 1, z, h, hz, hp => by
    have e := find_some (l := l) (i := i) (z := z) (by simpa using h) hz fun j x hj hx => hp (j + 1) x (by omega) (by simpa using hx)
    rw [List.findIdx?_cons, hp 0 y (by omega) rfl, e]
    rfl
theorem find_none {p : List Nat → Bool} {l : Rows} (h : ∀ (j : Nat) (y : List Nat), l[j]? = some y → p y = false) : l.findIdx? p = none := by
  rw [List.findIdx?_eq_none_iff]
  intro x hx
  obtain ⟨j, hj⟩ := List.mem_iff_getElem?.mp hx
  exact h j x hj
theorem ok_line {f g : Addr} {fd gd : FuncData} (F : Fun K "_bad_line" "_bad_line" gBadLine f fd) (G : Cl P w K mg base CX0 3 "_is_bad_row" ["row", "width"] spBad g gd) (L : LTxt K mg) (T : PTxt K mg C) : FnOk P w K mg base CX0 4 f fd ["rows"] spLine := by
  refine F.ok scLine (fun vs H Q E h => ?_) (fun cdv A outer s H vs Q E hr h => ?_)
  · obtain ⟨a, R, rfl, _⟩ := h
    rfl
  · obtain ⟨a, R, rfl, ha, few, each, k⟩ := h
    obtain ⟨um, hm, rm⟩ := T.most
    refine ⟨_, pss_cons (ps_if (pt_not (pt_truth (pv 0) (fun _ => rfl))) (pss_one (ps_ret pe_int)) pss_nil)
      (pss_cons (ps_for PassesOwn.never rfl (pi_enumS (by rfl) T.enum (pa_cons (pe_slice sl_list (pv 0) po_none (po_some (pe_glob (by rfl) hm rm))) pa_nil) (pk_cons pe_int pk_nil)) (pg_tup rfl (pgs_cons (pg_name (i := 1) scLine.nd rfl (.inl rfl)) (pgs_cons (pg_name (i := 2) scLine.nd rfl (.inl rfl)) pgs_nil)))
        (pss_one (ps_if (pt_val (pe_call G.ok hr (by rfl) G.gl G.kp G.bd .nil pass0 (pa_cons (pv 2) (pa_cons (pe_callB call_len_str (by rfl) L.len PySem.boot_len (pa_cons (pe_ix ix_list (pv 0) pe_int (fun _ _ => rfl)) pa_nil)) pa_nil)))) (pss_one (ps_ret (pv 1))) pss_nil)))
      (pss_one (ps_ret (pe_ifExp (pt_cmpR op_gt (pe_callB call_len_seq (by rfl) L.len PySem.boot_len (pa_cons (pv 0) pa_nil)) (pe_glob (by rfl) hm rm) (nomark _)) (pe_op op_add (pe_glob (by rfl) hm rm) pe_int) pe_int)))), ?_⟩
    match R, ha, few, each, k with
    | [], ha, few, each, k =>
      exact ⟨_, rfl, _, .inl ⟨_, SqL.of ha, rfl⟩, iteT (k H (Same.refl H))⟩
    | r :: R, ha, few, each, k =>
      refine ⟨_, rfl, _, .inl ⟨_, SqL.of ha, rfl⟩, iteF ?_⟩
      refine ⟨_, rfl, _, rfl, a, _, rfl, SqL.of ha, fun p np => ?_⟩
      have e8 : cutV (rowsV (r :: R)) none (some 8) = rowsV ((r :: R).take 8) := by
        rw [show (some 8 : Option Int) = some ((8 : Nat) : Int) from rfl, cut_to]
        exact (List.map_take).symm
      rw [e8]
      have s1 := same_upd (o := .lst (rowsV ((r :: R).take 8))) np
      have hp : (upd H p (.lst (rowsV ((r :: R).take 8)))) p = some (.lst (rowsV ((r :: R).take 8))) := upd_same
      generalize upd H p (.lst (rowsV ((r :: R).take 8))) = H1 at s1 hp
      refine ⟨p, _, rfl, rfl, SqL.of hp, for_it walkS (fun i σ G => ∃ y z, σ = [some (.ref a), y, z] ∧ Same H1 G ∧ ∀ j x, j < i → ((r :: R).take 8)[j]? = some x → okB (r.length : Int) x = true) ⟨_, _, rfl, Same.refl _, fun j x hj => absurd hj (by omega)⟩ (fun i σ G _ ⟨_, _, _, sG, _⟩ => SqL.of (sG _ _ hp)) ?_ ?_⟩
      · rintro i x σ G G' hi ⟨y, z, rfl, sG, ok⟩ ⟨T1, x1, rfl, nT, rfl, gx⟩
        obtain ⟨q, gq, rfl⟩ := rowsV_at gx
        have s2 := sG.trans (same_upd (o := .tup [.int ((i : Int) + 1), .str (S q)]) nT)
        refine ⟨T1, _, rfl, SqT.of upd_same, rfl, _, _, rfl, _, _, rfl, rfl, ?_⟩
        have mq : q ∈ r :: R := List.mem_of_mem_take (List.mem_of_getElem? gq)
        refine ⟨_, rfl, _, rfl, a, _, 0, _, rfl, rfl, SqL.of (s2 _ _ (s1 _ _ ha)), row0 r R, _, rfl, by rw [len_S]; exact small_line (each r List.mem_cons_self), q, _, rfl, each q mq, fun G2 sg => ⟨_, rfl, ?_⟩⟩
        rw [len_S]
        by_cases b : okB (r.length : Int) q = true
        · rw [b]
          refine iteF ⟨_, _, rfl, s2.trans sg, fun j x hj hx => ?_⟩
          rcases Nat.lt_succ_iff_lt_or_eq.mp hj with z | z
          · exact ok j x z hx
          · rw [z, gq] at hx
            cases hx
            exact b
        · have b : okB (r.length : Int) q = false := by simpa using b
          rw [b]
          refine iteT ⟨_, rfl, ?_⟩
          have e : lineOf (r :: R) = (i : Int) + 1 := by
            rw [lineOf_cons, find_some gq (by rw [b]; rfl) fun j y hj hy => by rw [ok j y hj hy]; rfl]
          have q2 := k G2 (s1.trans (s2.trans sg))
          rw [e] at q2
          exact q2
      · rintro σ G ⟨y, z, rfl, sG, ok⟩
        have e : lineOf (r :: R) = if 8 < (r :: R).length then 9 else 0 := by
          rw [lineOf_cons, find_none fun j y hy => by
            rw [ok j y ?_ hy]
            · rfl
            · rw [rowsV_len]
              rcases List.getElem?_eq_some_iff.mp hy with ⟨h1, _⟩
              exact h1]
        have q2 := k G (s1.trans sG)
        rw [e] at q2
        refine ⟨_, rfl, a, _, rfl, .inl (SqL.of (sG _ _ (s1 _ _ ha))), _, _, rfl, rfl, _, rfl, ?_⟩
        rw [rowsV_len]
        by_cases b : 8 < (r :: R).length
        · rw [if_pos b] at q2
          exact iteTe (decide_eq_true (by omega)) ⟨_, _, rfl, rfl, q2⟩
        · rw [if_neg b] at q2
          exact iteFe (decide_eq_false (by omega)) q2
end
end Pm
namespace Pm
open PySem PySem.Spec PyProof.Rows L2 SX
/-! ### errors that are raised with fields of their own -/
/-- an error class at C that may be raised: its __init__ at f keeps sp -/
structure EMk (P : Program) (w : World) (K : PySem.W.Frag) (mg : Str → Option Value) (base : Heap) (C : Addr) (name : Str) (ps : List Str) (sp : Sp) (f : Addr) (fd : FuncData) : Prop where
  T : OexC K C
  at_ : PySem.W.findIn K (.ref C) "__init__" = some (some (.ref f))
  ty : PySem.W.typeIn K (.ref f) = some (.type "function")
  ok : FnOk P w K mg base CX0 1 f fd ps sp
  bd : Binds K fd ps []
  gl : mg name = some (.ref C)
def spE1 (C : Addr) (n : Str) : Sp := fun vs H Q _ => ∃ a v, vs = [.ref a, v] ∧ H a = some (exo a C none) ∧ ∀ H' d, H' a = some (exo a C (some d)) → H' d = some (exd d [(n, v)]) → H d = none → d ≠ a → SameBut a H H' → Q .non H'
def spE2 (C : Addr) : Sp := fun vs H Q _ => ∃ a v u, vs = [.ref a, v, u] ∧ H a = some (exo a C none) ∧ ∀ H' d, H' a = some (exo a C (some d)) → H' d = some (exd d [("y", u), ("x", v)]) → H d = none → d ≠ a → SameBut a H H' → Q .non H'
/-- what was there stands when the error is on its way -/
theorem on_way {H H2 : Hp} {a d : Addr} {o : HO} {fs : List (Str × V)} (n : H a = none) (nd : (upd H a o) d = none) (ne : d ≠ a) (s : SameBut a (upd H a o) H2) : Same H (upd (del H2 a) d (.xd fs)) := fun b u e => by
  have nba : b ≠ a := ne_of_none e n
  have nbd : b ≠ d := fun z => by
    rw [z] at e
    rw [upd_ne ne, e] at nd
    cases nd
  rw [upd_ne nbd, del_ne nba]
  exact s b u nba (by rw [upd_ne nba]; exact e)
theorem passF {X : Cx} : Passes (L2.CX X.prog X.w) X E0 := fun _ _ _ _ _ _ _ c => by
  obtain ⟨_, _, _, _, _, _, _, _, _, _, _, _, z⟩ := c
  exact z.elim
/-- an error of the class at C with the fields fs is let out -/
def Lets (E : XK) (C : Addr) (fs : List (Str × V)) (H : Hp) : Prop := ∀ d H', H d = none → H' d = some (.xd fs) → Same H H' → E (.ref C) (some d) H'
/-! ### the error that a suite holds -/
structure ErrC (K : PySem.W.Frag) (D : Addr) : Prop where
  cl : (PySem.W.clsIn K D).isSome = true
  hg : PySem.W.findIn K (.ref D) "__getattribute__" = some (some (.builtin "BaseException.__getattribute__"))
  hk : PySem.W.findIn K (.ref D) "__getattr__" = some none
  hs : PySem.W.subIn K (.ref D) (.type "BaseException") = some true
  ha : PySem.W.findIn K (.ref D) "__class__" = some (some (.builtin "object.__class__"))
  hn : PySem.W.specialIn K (.builtin "object.__class__") "__get__" = some (some (.builtin "getset_descriptor.__get__"))
  ht : PySem.W.takesIn K (.builtin "object.__class__") = some true
  hm : PySem.W.mroIn K D (.type "object") = some true
  hd : PySem.W.hasDictIn K D = true
theorem ErrC.xf {K : PySem.W.Frag} {D : Addr} (C : ErrC K D) : XfC K D := ⟨C.hg, C.hk, C.hs, C.hd⟩
/-- isinstance(e, c), e the error that the suite holds at a, its class cls, its dict d -/
def rIsX (K : PySem.W.Frag) (a : Addr) (cls : Value) (d : Option Addr) : List V → Hp → VK → Prop := fun xs H Q => ∃ (D dd : Addr) (fs : List (Str × V)) (c : V) (cv : Value) (b : Bool),
  xs = [.ref a, c] ∧ cls = .ref D ∧ d = some dd ∧ ErrC K D ∧ H dd = some (.xd fs) ∧ (∀ u, RelV c u → u = cv) ∧ PySem.W.kitOne K (.ref D) cv = some b ∧ Q (.bl b) H
theorem call_isX {X : Cx} {a : Addr} {cls : Value} {d : Option Addr} {oe : Obj} {pn : List (Addr × Obj)} (hz : Zc cls d oe) (hf : ∃ vs, oe.data = .fields vs) : CallR (X.suite a ((a, oe) :: pn)) (.builtin "isinstance") (rIsX X.K a cls d) := by
  intro pins s σ H xs us Q I r h
  obtain ⟨D, dd, fs, c, cv, b, rfl, rfl, rfl, C, hdd, hcv, e, q⟩ := h
  match r with
  | .cons rx (.cons rt .nil) =>
    cases rx
    cases hcv _ rt
    obtain ⟨at_, _⟩ := I.pin (a, oe) (List.mem_append_left _ List.mem_cons_self)
    obtain ⟨vs, hd⟩ := hf
    have own : ObjOk X.prog X.w H s.heap dd (.xd fs) := I.hok dd _ hdd
    obtain ⟨mA, hns, _⟩ := own
    obtain ⟨od, ho, _⟩ := lookIn_ns hns
    have J : PySem.W.InstAt s.heap a oe D (some od) := ⟨at_, hz.1, by unfold PySem.W.notCls; rw [hd] <;> rfl, by rw [hz.2]; exact ho⟩
    exact PySem.W.kia_one (PySem.W.kitx_exc C.cl C.hg C.hk C.hs C.ha C.hn C.ht C.hm) I.kIn J e (fun z => nomatch z) fun tk => ⟨.bl b, H, I.kept (t' := tk) fun _ _ z => z, rfl, q⟩
/-- e.f of that error, whatever its class -/
def tErrX (K : PySem.W.Frag) (a : Addr) (cls : Value) (d : Option Addr) (f : Str) (te : TE) : TE := fun σ H Q => te σ H fun x H1 => ∃ (D dd : Addr) (fs : List (Str × V)) (v : V), x = .ref a ∧ cls = .ref D ∧ d = some dd ∧ ErrC K D ∧ PySem.W.findIn K (.ref D) f = some none ∧ H1 dd = some (.xd fs) ∧ fs.lookup f = some v ∧ Q v H1
theorem pe_errX {X : Cx} {a : Addr} {oe : Obj} {cls : Value} {d : Option Addr} {pn : List (Addr × Obj)} {e : Expr} {te : TE} {pos : Pos} {n : Str} (hz : Zc cls d oe) (hf : ∃ vs, oe.data = .fields vs) (he : PE (X.suite a ((a, oe) :: pn)) e te)
    (hb : attributeBase e n X.env (eval e X.env) = eval e X.env := by rfl) : PE (X.suite a ((a, oe) :: pn)) (.Attribute e n pos) (tErrX X.K a cls d n te) := by
  refine ⟨fun pins s σ H Q I h => attr_of hb (thn (he.run pins s σ H _ I h) fun u s1 ⟨x, H1, I1, rx, D, dd, fs, v, ex, ec, ed, C, hno, hdd, l, q⟩ => ?_)⟩
  subst ex ec ed
  obtain rfl : u = Value.ref a := rx
  obtain ⟨at_, _⟩ := I1.pin (a, oe) (List.mem_append_left _ List.mem_cons_self)
  obtain ⟨vs, hd⟩ := hf
  have own : ObjOk X.prog X.w H1 s1.heap dd (.xd fs) := I1.hok dd _ hdd
  obtain ⟨mA, hns, rel⟩ := own
  obtain ⟨od, ho, hl⟩ := lookIn_ns hns
  have rl := rel n
  rw [l] at rl
  obtain ⟨u, hu, ru⟩ := RelO.some_of (v := v) (o := mA n) rl
  have J : PySem.W.InstAt s1.heap a oe D (some od) := ⟨at_, hz.1, by unfold PySem.W.notCls; rw [hd] <;> rfl, by rw [hz.2]; exact ho⟩
  exact HandSPX.exc_get I1.kIn J C.hg C.hk C.hs (PySem.W.findObj_own C.hd hno rfl (by rw [hl, hu])) (handed_of ru) ⟨v, H1, I1.tok _, ru, q⟩
end Pm
namespace Pm
open PySem PySem.Spec PyProof.Rows L2 SX
section
variable {P : Program} {w : World} {K : PySem.W.Frag} {mg : Str → Option Value} {base : Heap} {C CI : Addr}
theorem scEInvalidPicture : FnScope ["self", "line"] ["self", "line"] (defScope cInvalidPictureInit) := ⟨rfl, rfl, rfl, by decide +kernel, rfl, by decide +kernel, by decide +kernel⟩
theorem okEInvalidPicture {f C : Addr} {fd : FuncData} (F : Fun K "__init__" "InvalidPicture.__init__" cInvalidPictureInit f fd) (T : OexC K C) (nx : PySem.W.findIn K (.ref C) "line" = some none) : FnOk P w K mg base CX0 1 f fd ["self", "line"] (spE1 C "line") := by
  refine F.ok scEInvalidPicture (fun vs H Q E h => ?_) (fun cdv A outer s H vs Q E hr h => ?_)
  · obtain ⟨a, v, rfl, _⟩ := h
    rfl
  · obtain ⟨a, v, rfl, ha, k⟩ := h
    refine ⟨_, pss_one (ps_ost (pv 0) (pv 1)), ?_⟩
    refine ⟨_, rfl, _, rfl, a, C, rfl, T, nx, .inl ⟨ha, fun dx nd ne => ?_⟩⟩
    refine k _ dx upd_same (by rw [upd_ne ne, upd_same]) nd ne fun b o nb e => ?_
    rw [upd_ne nb, upd_ne (ne_of_none e nd)]
    exact e
/-! ### a picture -/
def wideOf (R : Rows) : Int := ((R.headD []).length : Int)
def PicAt (C : Addr) (H : Hp) (r : Addr) (R : Rows) : Prop := ∃ dx l, H r = some (.ins C dx [("_rows", .ref l), ("width", .int (wideOf R)), ("height", .int (R.length : Int))]) ∧ H l = some (.lst (rowsV R))
structure PCls (K : PySem.W.Frag) (C : Addr) : Prop where
  cl : L2.Cls K C
  nR : NoAttr K C "_rows"
  nW : NoAttr K C "width"
  nH : NoAttr K C "height"
def spInit (C CI : Addr) : Sp := fun vs H Q E => ∃ r dx a R, vs = [.ref r, .ref a] ∧ H r = some (.ins C dx []) ∧ H a = some (.lst (rowsV R)) ∧ R.length ≤ 1000 ∧ (∀ z ∈ R, z.length ≤ 1000) ∧
  (0 < lineOf R → Lets E CI [("line", .int (lineOf R))] H) ∧ (lineOf R = 0 → ∀ H', PicAt C H' r R → SameBut r H H' → Q .non H')
theorem lineOf_nonneg (R : Rows) : 0 ≤ lineOf R := by
  match R with
  | [] => exact Int.le_of_lt (by decide)
  | r :: R =>
    rw [lineOf_cons]
    split
    · exact Int.add_nonneg (Int.natCast_nonneg _) (by decide)
    · split <;> decide
theorem scInit : FnScope ["self", "rows", "line"] ["self", "rows"] (defScope cPictureInit) := ⟨rfl, rfl, rfl, by decide +kernel, rfl, by decide +kernel, by decide +kernel⟩
theorem ok_init {f g e : Addr} {fd gd ed : FuncData} (F : Fun K "__init__" "Picture.__init__" cPictureInit f fd) (G : Cl P w K mg base CX0 4 "_bad_line" ["rows"] spLine g gd) (Ex : EMk P w K mg base CI "InvalidPicture" ["self", "line"] (spE1 CI "line") e ed) (L : LTxt K mg) (T : PCls K C) :
    FnOk P w K mg base (L2.CX P w) 5 f fd ["self", "rows"] (spInit C CI) := by
  refine F.okX scInit (fun vs H Q E h => ?_) (fun cdv A outer s H vs Q E hr h => ?_)
  · obtain ⟨r, dx, a, R, rfl, _⟩ := h
    rfl
  · obtain ⟨r, dx, a, R, rfl, hR, ha, few, each, bad, good⟩ := h
    refine ⟨_, pss_cons (ps_set (i := 2) scInit.nd rfl (.inl rfl) (pe_call G.ok hr (by rfl) G.gl G.kp G.bd .nil pass0 (pa_cons (pv 1) pa_nil)))
      (pss_cons (ps_if (pt_cmpR op_gt (pv 2) pe_int (nomark _)) (pss_one (ps_raise rfl (takes_of rfl rfl rfl rfl) (pmk_oex Ex.T Ex.at_ Ex.ty Ex.ok (hr.mono (by decide)) Ex.bd .nil pass0 (by rfl) Ex.gl (pa_cons (pv 2) pa_nil)))) pss_nil)
      (pss_cons (ps_fld (pv 0) (pe_callTy call_list_of (by rfl) L.lst (by decide +kernel) (pa_cons (pv 1) pa_nil)) rfl)
      (pss_cons (ps_fld (pv 0) (pe_callB call_len_str (by rfl) L.len PySem.boot_len (pa_cons (pe_ix ix_list (pv 1) pe_int (fun _ _ => rfl)) pa_nil)) rfl)
      (pss_one (ps_fld (pv 0) (pe_callB call_len_seq (by rfl) L.len PySem.boot_len (pa_cons (pv 1) pa_nil)) rfl))))), ?_⟩
    refine ⟨_, rfl, a, R, rfl, ha, few, each, fun H1 s1 => ?_⟩
    refine ⟨_, rfl, _, _, rfl, rfl, _, rfl, ite2 (fun p => ?_) (fun p => ?_)⟩
    · have pos : 0 < lineOf R := of_decide_eq_true p
      refine ⟨_, rfl, by show 1 ≤ 1000; decide, fun x nx => ⟨x, _, rfl, upd_same, fun H2 d h1 h2 nd ne sb => ⟨rfl, d, _, h1, h2, ?_, ?_⟩⟩⟩
      · rwa [upd_ne ne] at nd
      · have nd1 : H1 d = none := by rwa [upd_ne ne] at nd
        exact bad pos d _ (back s1 nd1) upd_same (s1.trans (on_way nx nd ne sb))
    · have zero : lineOf R = 0 := by
        have y := lineOf_nonneg R
        have z : ¬ 0 < lineOf R := fun y => p (decide_eq_true y)
        omega
      match R, ha, few, each, bad, good, zero with
      | q :: R, ha, few, each, bad, good, zero =>
        refine ⟨_, rfl, a, _, rfl, .inl (SqL.of (s1 _ _ ha)), fun l nl => ⟨_, rfl, r, C, dx, [], rfl, same_upd nl _ _ (s1 _ _ hR), T.cl, T.nR, by show 0 < 1000; decide, ?_⟩⟩
        have nra : a ≠ r := ne_of (s1 _ _ ha) (s1 _ _ hR) (by intro z; cases z)
        have nlr : l ≠ r := Ne.symm (ne_of_none (s1 _ _ hR) nl)
        have nla : l ≠ a := Ne.symm (ne_of_none (s1 _ _ ha) nl)
        refine ⟨_, rfl, a, _, 0, _, rfl, rfl, SqL.of (by rw [upd_ne nra, upd_ne nla.symm]; exact s1 _ _ ha), row0 q R, _, rfl, by rw [len_S]; exact small_line (each q List.mem_cons_self), _, rfl, r, C, dx, _, rfl, upd_same, T.cl, T.nW, by show 1 < 1000; decide, ?_⟩
        refine ⟨_, rfl, a, _, rfl, .inl (SqL.of (by rw [upd_ne nra, upd_ne nra, upd_ne nla.symm]; exact s1 _ _ ha)), _, rfl, r, C, dx, _, rfl, upd_same, T.cl, T.nH, by show 2 < 1000; decide, ?_⟩
        refine good zero _ ⟨dx, l, ?_, ?_⟩ fun b o nb e => ?_
        · rw [upd_same, rowsV_len, len_S]
          rfl
        · rw [upd_ne nlr, upd_ne nlr, upd_ne nlr]
          exact upd_same
        · rw [upd_ne nb, upd_ne nb, upd_ne nb]
          exact same_upd nl _ _ (s1 _ _ e)
end
end Pm
namespace Pm
open PySem PySem.Spec PyProof.Rows L2 SX
/-! ### calls whose errors are wished for at the caller's slots -/
section
variable {X : Cx} {CXf : CXT} {k : Nat} {f C : Addr} {fd : FuncData} {ps : List Str} {sp : Sp} {E : L2.St → XK} {x m : Str} {p pos apos : Pos} {e o : Expr} {es : List Expr} {ta : TE} {t : TA} {pins : List (Addr × Obj)} {σ : L2.St} {H : Hp} {s : Shared} {Q : VK} {us : List Value} {vs : List V}
/-- how a callee's end is taken -/
theorem end_of {r : Result} {s' : Shared} (I : L2.Inv X pins σ H s) (hx : PassesAt CXf X σ (E σ)) (h : match r with | .ok (.ret v) => EP X pins σ Q v s' | .ok _ => False | .error er => CXf X.stack H s (E σ) er s') :
    match r with | .ok (.ret v) => EP X pins σ Q v s' | .ok _ => False | .error er => X.xe er s' := by
  cases r with
  | error er => exact hx pins H s er s' I h
  | ok fl =>
    cases fl with
    | ret u => exact h
    | next => exact h
    | brk => exact h
    | cont => exact h
theorem make_runS (M : Mk X.K C f) (F : FnOk X.prog X.w X.K X.mg X.base CXf k f fd ps sp) (hr : Room (k + 1) X.A) (hb : Binds X.K fd ps []) (hx : PassesAt CXf X σ (E σ)) (I : L2.Inv X pins σ H s) (rv : Vals vs us)
    (h : ∀ x dx, H x = none → H dx = none → dx ≠ x → sp (.ref x :: vs) (upd (upd H dx (.own x)) x (.ins C dx [])) (fun v H2 => v = .non ∧ Q (.ref x) H2) (E σ)) : wpAny (model X.prog X.w) X.A (call (.ref C) us) (EP X pins σ Q) X.xe s := by
  have big : s.heap.objs.size ≤ s.heap.objs.size + 1 := Nat.le_succ _
  have asked := h (s.heap.objs.size + 1) s.heap.objs.size (I.hok.fresh big) (I.hok.fresh (Nat.le_refl _)) (Nat.ne_of_lt (Nat.lt_succ_self _))
  have J := Inv.made (C := C) I
  have rs : Vals (V.ref (s.heap.objs.size + 1) :: vs) (Value.ref (s.heap.objs.size + 1) :: us) := .cons rfl rv
  have len : (Value.ref (s.heap.objs.size + 1) :: us ++ []).length = ps.length := by
    rw [List.append_nil, ← rs.length]
    exact F.len _ _ _ _ asked
  have env := J.env0.make C us []
  have bind := hb _ (Value.ref (s.heap.objs.size + 1) :: us) J.kIn len
  rw [List.append_nil] at bind
  refine wpAny_call (make_map (f := f) I.kIn M.makes M.init (beq_iff_eq.mp M.fn) (codeAny_mono (F.run _ X.stack _ _ ⟨Value.ref (s.heap.objs.size + 1) :: us, []⟩ (Value.ref (s.heap.objs.size + 1) :: us) _ _ (E σ) (hr.make C us []) env bind rs asked) fun r s' z => ?_))
  cases r with
  | error er => exact hx pins _ _ er s' J z
  | ok fl =>
    cases fl with
    | ret u =>
      obtain ⟨v, H', I3, rv3, ev, q3⟩ := J.after z
      subst ev
      exact ⟨rv3, .ref (s.heap.objs.size + 1), H', I3, rfl, q3⟩
    | next => exact z.elim
    | brk => exact z.elim
    | cont => exact z.elim
def tMakeS (C : Addr) (sp : Sp) (E : L2.St → XK) (t : TA) : TE := fun σ H Q => t σ H fun vs H1 => ∀ x dx, H1 x = none → H1 dx = none → dx ≠ x → sp (.ref x :: vs) (upd (upd H1 dx (.own x)) x (.ins C dx [])) (fun v H2 => v = .non ∧ Q (.ref x) H2) (E σ)
/-- C(e, ..), C a name of the module -/
theorem pe_makeS (M : Mk X.K C f) (F : FnOk X.prog X.w X.K X.mg X.base CXf k f fd ps sp) (hr : Room (k + 1) X.A) (hg : Gl X x) (hm : X.mg x = some (.ref C)) (hb : Binds X.K fd ps []) (hx : ∀ σ, PassesAt CXf X σ (E σ)) (ha : PA X (e :: es) t)
    (dbg : (x == ("__debug__" : Str)) = false := by decide) (st : starEach (e :: es) X.env = (false, eval e X.env) :: starEach es X.env := by rfl) (pl : (backTo pos (starEach es X.env)).any (·.1) = false := by rfl) :
    PE X (.Call (.Name x p) (e :: es) [] pos) (tMakeS C sp E t) := by
  refine ⟨fun pins s σ H Q I h => wpAny_Call_Name_kw (ld_glob I hg hm ?_ dbg)⟩
  refine PySem.W.callWith_K (h₀ := X.base) I.ok.mod.kin M.kp (thn (ha.run pos pins s σ H _ I h) fun us s1 ⟨vs, H1, I1, rv, q⟩ => ⟨I1.kIn, ?_⟩) st pl
  exact make_runS M F hr hb (hx σ) I1 rv q
def tMakeV (i : Nat) (C : Addr) (sp : Sp) (E : L2.St → XK) (t : TA) : TE := fun σ H Q => σ[i]? = some (some (.ref C)) ∧ tMakeS C sp E t σ H Q
/-- c(e, ..), the class at C in slot i -/
theorem pe_makeV {i : Nat} (M : Mk X.K C f) (F : FnOk X.prog X.w X.K X.mg X.base CXf k f fd ps sp) (hr : Room (k + 1) X.A) (hN : X.N[i]? = some x) (hv : Vis X.env.scope x) (hb : Binds X.K fd ps []) (hx : ∀ σ, PassesAt CXf X σ (E σ)) (ha : PA X (e :: es) t)
    (dbg : (x == ("__debug__" : Str)) = false := by decide) (hcd : (x == ("__classdict__" : Str)) = false := by decide) (st : starEach (e :: es) X.env = (false, eval e X.env) :: starEach es X.env := by rfl) (pl : (backTo pos (starEach es X.env)).any (·.1) = false := by rfl) :
    PE X (.Call (.Name x p) (e :: es) [] pos) (tMakeV i C sp E t) := by
  refine ⟨fun pins s σ H Q I ⟨hs, h⟩ => ?_⟩
  refine wpAny_Call_Name_kw (thn ((pe_var (pos := p) hN hv dbg hcd).run pins s σ H (fun v H1 => v = .ref C ∧ H1 = H) I ⟨.ref C, hs, rfl, rfl⟩) fun u s0 ⟨v, H0, I0, r0, ev, eh⟩ => ?_)
  subst ev eh
  obtain rfl : u = Value.ref C := r0
  refine PySem.W.callWith_K (h₀ := X.base) I.ok.mod.kin M.kp (thn (ha.run pos pins s0 σ _ _ I0 h) fun us s1 ⟨vs, H1, I1, rv, q⟩ => ⟨I1.kIn, ?_⟩) st pl
  exact make_runS M F hr hb (hx σ) I1 rv q
def tMethE (C : Addr) (m : Str) (sp : Sp) (E : L2.St → XK) (ta : TE) (t : TA) : TE := fun σ H Q => ta σ H fun x H1 => ∃ a dx fs, x = .ref a ∧ H1 a = some (.ins C dx fs) ∧ fs.lookup m = none ∧ t σ H1 fun vs H2 => sp (x :: vs) H2 Q (E σ)
/-- o.m(e, ..) -/
theorem pe_methE {pl : Sem Bool} (he : PE X o ta) (c : L2.Cls X.K C) (hm : Meth X.K C m f) (F : FnOk X.prog X.w X.K X.mg X.base CXf k f fd ps sp) (hr : Room k X.A) (hb : Binds X.K fd ps []) (hx : ∀ σ, PassesAt CXf X σ (E σ)) (ha : PA X (e :: es) t)
    (st : starEach (e :: es) X.env = (false, eval e X.env) :: starEach es X.env := by rfl) (pl2 : (backTo pos (starEach es X.env)).any (·.1) = false := by rfl)
    (ht : eval (.Call (.Attribute o m apos) (e :: es) [] pos) X.env = (do
      let ov ← eval o X.env
      standAt apos.atName
      let (f, first) ← holding [ov] (getMethod ov m pl)
      callWith pos f first (backTo pos (starEach (e :: es) X.env)) (backToKw pos (keywordEach [] X.env))) := by rfl) :
    PE X (.Call (.Attribute o m apos) (e :: es) [] pos) (tMethE C m sp E ta t) := by
  refine ⟨fun pins s σ H Q I h => PySem.W.methodCall_KW (pl := pl) (thn (he.run pins s σ H _ I h) fun u s1 ⟨x, H1, I1, rx, a, dx, fs, ex, ea, l, q⟩ => ?_) ht⟩
  subst ex
  obtain rfl : u = Value.ref a := rx
  refine getmeth_ok I1 ea c hm l (PySem.W.callWith_K (first := [.ref a]) (h₀ := X.base) I.ok.mod.kin hm.kp (thn (ha.run pos pins s1 σ H1 _ I1 q) fun us s2 ⟨vs, H2, I2, rv, q2⟩ => ⟨I2.kIn, ?_⟩) st pl2)
  exact run_fnS (us := .ref a :: us) (vs := .ref a :: vs) F hr hb (hx σ) I2 (.cons rfl rv) q2
/-! ### a classmethod -/
open ClX in
def tCMethE (C : Addr) (sp : Sp) (E : L2.St → XK) (ta : TE) (t : TA) : TE := fun σ H Q => ta σ H fun x H1 => x = .ref C ∧ t σ H1 fun vs H2 => sp (.ref C :: vs) H2 Q (E σ)
open ClX in
theorem run_cmE {q g : Addr} (F : FnR X.prog X.w X.K X.mg X.base CXf k g sp) (hr : Room k X.A) (hx : PassesAt CXf X σ (E σ)) (I : L2.Inv X ((q, PySem.W.methodObj (.ref g) (.ref C)) :: pins) σ H s)
    (rv : Vals vs us) (h : sp (.ref C :: vs) H Q (E σ)) : wpAny (model X.prog X.w) X.A (call (.ref q) us) (EP X pins σ Q) X.xe s := by
  have go : wpAny (model X.prog X.w) X.A (call (.ref q) us) (EP X ((q, PySem.W.methodObj (.ref g) (.ref C)) :: pins) σ Q) X.xe s := by
    refine wpAny_call (PySem.W.method_call (pin_at I) (codeAny_mono (F X.A X.stack s H (.ref C :: us) (.ref C :: vs) Q (E σ) hr I.env0 (.cons rfl rv) h) fun r s' z => ?_))
    cases r with
    | error er => exact hx _ H s er s' I z
    | ok fl =>
      cases fl with
      | ret u => exact I.after z
      | next => exact z.elim
      | brk => exact z.elim
      | cont => exact z.elim
  exact thn go fun _ _ y => unpinE y
open ClX in
theorem pe_cmethE {g c : Addr} {mc : Value} {pl : Sem Bool} (he : PE X o ta) (r : CRead X.K C mc) (cm : CMet X.K C mc m c g) (F : FnR X.prog X.w X.K X.mg X.base CXf k g sp) (hr : Room k X.A) (hx : ∀ σ, PassesAt CXf X σ (E σ)) (ha : PA X (e :: es) t)
    (st : starEach (e :: es) X.env = (false, eval e X.env) :: starEach es X.env := by rfl) (pl2 : (backTo pos (starEach es X.env)).any (·.1) = false := by rfl)
    (ht : eval (.Call (.Attribute o m apos) (e :: es) [] pos) X.env = (do
      let ov ← eval o X.env
      standAt apos.atName
      let (f, first) ← holding [ov] (getMethod ov m pl)
      callWith pos f first (backTo pos (starEach (e :: es) X.env)) (backToKw pos (keywordEach [] X.env))) := by rfl) :
    PE X (.Call (.Attribute o m apos) (e :: es) [] pos) (tCMethE C sp E ta t) := by
  refine ⟨fun pins s σ H Q I h => PySem.W.methodCall_KW (pl := pl) (thn (he.run pins s σ H _ I h) fun u s1 ⟨x, H1, I1, rx, ex, q⟩ => ?_) ht⟩
  subst ex
  obtain rfl : u = Value.ref C := rx
  refine getmethcm_ok I1 r cm fun s2 I2 => ?_
  refine callwith_cm I2 (base_none I1 (Nat.le_refl _)) cm.fi (thn (ha.run pos _ s2 σ H1 _ I2 q) fun us s3 ⟨vs, H2, I3, rv, q2⟩ => ⟨⟨pin_at I3, I3.kIn⟩, ?_⟩) st pl2
  exact run_cmE F hr (hx σ) I3 rv q2
end
end Pm
namespace Pm
open PySem PySem.Spec PyProof.Rows L2 SX
/-! ### a def that is called where an error is handled, whatever error it is -/
structure FnW (P : Program) (w : World) (K : PySem.W.Frag) (mg : Str → Option Value) (base : Heap) (CXf : CXT) (k : Nat) (f : Addr) (fd : FuncData) (ps : List Str) (sp : Sp) : Prop where
  len : ∀ vs H Q E, sp vs H Q E → vs.length = ps.length
  run : ∀ (A : Around) (outer : List Env) (s : Shared) (H : Hp) (args : Args) (us : List Value) (vs : List V) (Q : VK) (E : XK) (p : Addr × Obj), L2H.RoomH k A → L2H.PinOk outer H s p → Env0 P w K mg base A outer s H →
    BindsTo s fd args (ps.zip us) → Vals vs us → sp vs H Q E → codeAny (model P w) A (.call (.ref f) args) (CR CXf outer P w H s Q E) s
theorem fnW_of {CXf : CXT} {P : Program} {w : World} {K : PySem.W.Frag} {mg : Str → Option Value} {base : Heap} {k : Nat} {x qual : Str} {st : Stmt} {f : Addr} {fd : FuncData} {N ps : List Str} {sp : Sp} (F : Fun K x qual st f fd) (S : FnScope N ps (defScope st))
    (len : ∀ vs H Q E, sp vs H Q E → vs.length = ps.length)
    (body : ∀ (cdv : Value) (A : Around) (outer : List Env) (s : Shared) (H : Hp) (vs : List V) (Q : VK) (E : XK) (p : Addr × Obj), L2H.RoomH k (A.deeper (envOfC qual (defScope st) s.heap.objs.size f cdv)) → sp vs H Q E →
      ∃ t, PSs (L2H.cxH CXf P w K mg base N qual (defScope st) f cdv A outer s H E p) (defBody st) t ∧ t { nx := fun _ G => Q .non G, rt := Q } (L2.start N vs) H) : FnW P w K mg base CXf (k + 1) f fd ps sp := by
  obtain ⟨oc, od, kV, doc, pm, an, cdv, ct, osl, rfl, lk, hcd⟩ := F.ex
  constructor
  case len => exact len
  case run =>
    intro A outer s H args us vs Q E p room pin env0 bind rv asked
    have few := len _ _ _ _ asked
    have kin : K.In s.heap := env0.mod.kin.keeps fun b o e => (env0.bs b o e).1
    have unlimited : s.heap.NoLimit := env0.mod.nolimit.keeps fun b o e => (env0.bs b o e).1
    have kinds : ∀ y ∈ ps.zip us, (defScope st).names.lookup y.1 = some .local ∨ ((defScope st).names.lookup y.1 = some .cell ∧ ((cellsFrom (s.heap.objs.size + 1) (defScope st).names []).lookup y.1).isSome = true) := by
      rintro ⟨n, v⟩ hy
      rcases S.par n (List.of_mem_zip hy).1 with q | q
      · exact Or.inl q
      · exact Or.inr ⟨q, PySem.W.cellsFrom_some _ _ _ (.inl q)⟩
    refine codeAny_call_function room.depth (kin _ _ lk) rfl S.co S.gen rfl (PySem.W.codeRec_of kin hcd) (bind _ _ _ _ (wpAny_newFunctionEnv_cells S.kind kinds fun env he s1 call => ?_))
    subst he
    refine ⟨unlimited.keeps call.toInCall.keep, codeAny_func ?_⟩
    obtain ⟨t, ht, read⟩ := body cdv A outer s H vs Q E p (room.deeper _) asked
    have I := L2H.inv_startH (CX := CXf) (E := E) S pin env0 few rv call
    refine wpAny_mono (ht.run [] s1 (L2.start N vs) H _ I read) (fun fl s2 z => ?_) fun _ _ z => z
    cases fl with
    | ret u =>
      obtain ⟨v, _, G, J, ru, q⟩ := z
      exact ⟨v, G, J.os, J.bare, J.base, J.hok, ru, q⟩
    | next =>
      obtain ⟨_, G, J, q⟩ := z
      exact ⟨V.non, G, J.os, J.bare, J.base, J.hok, rfl, q⟩
    | brk =>
      obtain ⟨_, _, _, q⟩ := z
      exact q.elim
    | cont =>
      obtain ⟨_, _, _, q⟩ := z
      exact q.elim
section
variable {X : Cx} {CXf : CXT} {k : Nat} {f : Addr} {fd : FuncData} {ps : List Str} {sp : Sp} {x : Str} {q pos : Pos} {e : Expr} {es : List Expr} {t : TA}
/-- f(e, ..) where something is pinned; nothing that is raised leaves f -/
theorem pe_callW {p : Addr × Obj} (F : FnW X.prog X.w X.K X.mg X.base CX0 k f fd ps sp) (hr : L2H.RoomH k X.A) (hp : p ∈ X.pn) (hg : Gl X x) (hm : X.mg x = some (.ref f)) (hk : PySem.W.keepIn X.K (.ref f) = true) (hb : Binds X.K fd ps []) (ha : PA X (e :: es) t)
    (dbg : (x == ("__debug__" : Str)) = false := by decide) (st : starEach (e :: es) X.env = (false, eval e X.env) :: starEach es X.env := by rfl) (pl : (backTo pos (starEach es X.env)).any (·.1) = false := by rfl) :
    PE X (.Call (.Name x q) (e :: es) [] pos) (tCall sp [] E0 t) := by
  refine ⟨fun pins s σ H Q I h => wpAny_Call_Name_kw (ld_glob I hg hm ?_ dbg)⟩
  refine PySem.W.callWith_K (h₀ := X.base) I.ok.mod.kin hk (thn (ha.run pos pins s σ H _ I h) fun us s1 ⟨vs, H1, I1, rv, asked⟩ => ⟨I1.kIn, ?_⟩) st pl
  have asked : sp (vs ++ []) H1 Q E0 := asked
  rw [List.append_nil] at asked
  show wpAny _ _ (call (.ref f) us) _ _ _
  have len : us.length = ps.length := rv.length.symm.trans (F.len _ _ _ _ asked)
  have bind := hb s1 us I1.kIn (by rw [List.append_nil]; exact len)
  rw [List.append_nil] at bind
  obtain ⟨p1, p2, p3, p4, p5⟩ := I1.pin p (List.mem_append_left _ hp)
  have pin : L2H.PinOk X.stack H1 s1 p := ⟨p1, p2, fun hm => (List.mem_cons.mp (I1.stkSub p.1 hm)).elim p3 p4, p5⟩
  refine wpAny_call (codeAny_mono (F.run X.A X.stack s1 H1 ⟨us, []⟩ us vs Q E0 p hr pin I1.env0 bind rv asked) fun r s2 z => ?_)
  cases r with
  | error er => exact z.elim
  | ok fl =>
    cases fl with
    | ret u => exact I1.after z
    | next => exact z.elim
    | brk => exact z.elim
    | cont => exact z.elim
end
end Pm
namespace Pm
open PySem PySem.Spec PyProof.Rows L2 SX
/-! ### try with several clauses «except C as e», all with the same name -/
abbrev Suites := List (Value × (Addr → Value → Option Addr → TS))
/-- what the clauses wish, one after the other; the error goes into slot i, which is empty behind the suite -/
def wClauses (K : PySem.W.Frag) (i : Nat) (Wout : WX) (D : Ends) : Suites → WX
  | [] => Wout
  | (c, ts) :: r => fun cls d σ H => ∃ b, PySem.W.exmOne K cls c = some b ∧
      (b = true → ∀ a, H a = none → ts a cls d ⟨fun σ2 H2 => D.nx (σ2.set i none) H2, D.rt, fun σ2 H2 => D.bk (σ2.set i none) H2, fun σ2 H2 => D.ct (σ2.set i none) H2⟩ (σ.set i (some (.ref a))) H) ∧ (b = false → wClauses K i Wout D r cls d σ H)
inductive Clauses (X : Cx) (n : Str) : List ExceptHandler → Suites → Prop
  | nil : Clauses X n [] []
  | cons {x : Str} {c : Value} {ts : Addr → Value → Option Addr → TS} {s0 : Stmt} {ss : List Stmt} {p1 p2 : Pos} {hds : List ExceptHandler} {l : Suites} (named : Names X x c)
      (suite : ∀ (a : Addr) (oe : Obj) (cls : Value) (d : Option Addr) (pn : List (Addr × Obj)), Zc cls d oe → (∃ vs, oe.data = .fields vs) → PSs (X.suite a ((a, oe) :: pn)) (s0 :: ss) (ts a cls d)) (rest : Clauses X n hds l) :
      Clauses X n (.ExceptHandler (some (.Name x p1)) (some n) (s0 :: ss) p2 :: hds) ((c, ts) :: l)
section
variable {X : Cx} {n : Str} {i : Nat} {body : List Stmt} {h0 : ExceptHandler} {hds : List ExceptHandler} {l : Suites} {pos : Pos} {tb : WX → TS} {Wout : WX}
theorem ps_try_clauses (stk : X.stack = X.env :: X.outer) (fr : X.env.frame = some X.env.locals) (nd : X.N.Nodup) (slot : X.N[i]? = some n) (loc : X.env.kindOf n = some .local) (out : Takes X Wout)
    (hbody : ∀ (W : WX) (pn : List (Addr × Obj)) (xe : Value → Shared → Prop), Takes (X.tr pn xe) W → PassesOwn (model X.prog X.w) X.A X.env xe → PSs (X.tr pn xe) body (tb W)) (hcl : Clauses X n (h0 :: hds) l) :
    PS X (.Try body (h0 :: hds) [] [] pos) (fun D σ H => tb (wClauses X.K i Wout D l) D σ H) := by
  constructor
  intro pins s σ H D I asked
  have good := I.ok
  have frames : X.A.frames = some (X.env :: X.outer) := by rw [good.frames, stk]
  have lc : Loc X.env.scope n := Or.inl loc
  refine wpAny_Try_except ?_
  refine wpAny_mono ((hbody (wClauses X.K i Wout D l) (X.pn ++ pins) (fun e s1 => wpAny (model X.prog X.w) X.A (noteFrame e X.env) (fun _ s2 => wpAny (model X.prog X.w) X.A (setFlight e none)
    (fun _ s3 => wpAny (model X.prog X.w) X.A (handleBy e X.env (h0 :: hds)) (SP X pins D) X.xe s3) X.xe s2) X.xe s1) (fun u s1 raised => ?_) PassesOwn.looking).run [] s σ H D (I.toTry _) asked) (fun fl s1 z => ?_) (fun _ _ z => z)
  case _ =>
    obtain ⟨a, B, sI, pins1, σ1, H1, cls, d, rfl, J0, nb, up, sky, na, os, bare, wish⟩ := raised
    have J : L2.Inv X pins σ1 H1 sI := J0.ofTry good
    show wpAny (model X.prog X.w) X.A (noteFrame (.ref a) X.env) _ _ _
    refine Sky.land Zc.steady frames fr (by rw [← stk]; exact sky) fun g fly up2 => ?_
    have J1 : L2.Inv X pins σ1 H1 { s1 with heap := g } := J.landed nb fly.1 (up.trans up2) os bare
    obtain ⟨o1, v1, at1, z1, d1⟩ := fly.there
    have outside : a ∉ frs (X.env :: X.outer) := fun m => by
      obtain ⟨_, o, eo, nf⟩ := fly.2.2.1.mem m
      rw [at1] at eo
      cases eo
      exact nf _ d1
    have notL : a ≠ X.env.locals := fun z => outside (List.mem_filterMap.mpr ⟨X.env, List.mem_cons_self, by rw [fr, z]⟩)
    have notF : a ∉ X.fs := fun m => by
      obtain ⟨e, me, y⟩ := List.mem_filterMap.mp m
      exact outside (List.mem_filterMap.mpr ⟨e, List.mem_cons_of_mem _ me, y⟩)
    have inSuite := J1.suite at1 d1 na notL notF
    have types : PySem.W.Looks (model X.prog X.w) g (typeOf (.ref a)) cls := fun A Q E s k q => wpAny_typeOf_ref (k _ _ at1) (by rw [z1.1]; exact q)
    clear asked hbody
    -- the clauses in turn
    have turn : ∀ (hd2 : List ExceptHandler) (l2 : Suites), Clauses X n hd2 l2 → wClauses X.K i Wout D l2 cls d σ1 H1 → wpAny (model X.prog X.w) X.A (handleBy (.ref a) X.env hd2) (SP X pins D) X.xe { s1 with heap := g } := by
      intro hd2 l2 cl
      induction cl with
      | nil =>
        intro wish
        refine wpAny_handleBy_nil ?_
        obtain ⟨_, _, _, oe, vs, T, oT, ts2, e1, e2, e3, e4, e5⟩ := id fly
        unfold PySem.passOn
        refine wpAny_bind (wpAny_field e1 e3 e4 ?_)
        rw [if_neg (show ¬ ((Value.ref T == Value.none) = true) from by simp)]
        have leave : wpAny (model X.prog X.w) X.A (setFlight (.ref a) X.env.frame) (fun _ s2 => wpAny (model X.prog X.w) X.A (throw (.ref a) : Sem Flow) (SP X pins D) X.xe s2) X.xe { s1 with heap := g } := by
          rw [fr]
          refine HandSPX.setFlight_upZ fly fun g2 held up3 => wpAny_throw (out _ _ ⟨a, B, sI, pins, σ1, H1, cls, d, rfl, J, nb, (up.trans up2).trans up3, .inr (.inr (by rw [stk]; exact held)), na, os, bare, wish⟩)
        first
          | exact wpAny_bind (wpAny_pure (wpAny_bind leave))
          | exact wpAny_bind leave
      | @cons x c ts s0 ss p1 p2 hd3 l3 named suite rest ih =>
        rintro ⟨b, eb, yes, no⟩
        have meets := PySem.W.exm_one (M := model X.prog X.w) J1.kIn types eb
        refine wpAny_handleBy_cons (codeAny_handlers_test ?_) (fun z => nomatch z)
        have name : ∀ {Q : Value → Shared → Prop} {E : Value → Shared → Prop}, Q c { s1 with heap := g } → wpAny (model X.prog X.w) (X.A.mark (some (.ref a))) (eval (.Name x p1) X.env) Q E { s1 with heap := g } := by
          intro Q E q
          obtain ⟨hg, dbg, hm⟩ := named
          rcases hm with hm | ⟨hm, hv, hn⟩
          · exact ld_glob (X := X.suite a ((a, o1) :: (X.pn ++ pins))) inSuite hg hm q dbg
          · exact ld_blt (X := X.suite a ((a, o1) :: (X.pn ++ pins))) inSuite hg hm hv q hn dbg
        refine name (meets.here ?_)
        cases b with
        | false => exact ih (no rfl)
        | true =>
          refine codeAny_handlers_suite_as (HandSPX.lands_againZ fly fun g2 fly2 up3 => ?_)
          have J2 : L2.Inv X pins σ1 H1 { s1 with heap := g2 } := J.landed nb fly2.1 ((up.trans up2).trans up3) os bare
          obtain ⟨o2, v2, at2, z2, d2⟩ := fly2.there
          refine store_ok (X := X.suite a ((a, o2) :: (X.pn ++ pins))) (v := .ref a) (J2.suite at2 d2 na notL notF) nd slot lc rfl (fun s2 S2 => ?_) (.inr loc)
          refine wpAny_mono ((suite a o2 cls d (X.pn ++ pins) z2 ⟨_, d2⟩).run [] s2 _ H1 _ S2 (yes rfl a na)) (fun fl s3 z => ?_) (fun _ _ z => False.elim z)
          have gone : ∀ {σ3 : L2.St} {H3 : Hp} {Q : Shared → Prop}, L2.Inv (X.suite a ((a, o2) :: (X.pn ++ pins))) [] σ3 H3 s3 → (∀ s4, L2.Inv X pins (σ3.set i none) H3 s4 → Q s4) →
              wpAny (model X.prog X.w) X.A (do bindName X.env n .none; unbindBehindTheSuite X.env n p2) (fun _ s4 => Q s4) X.xe s3 := fun S3 q => gone_ok (S3.unsuite good) nd slot loc q
          cases fl with
          | ret u =>
            obtain ⟨v, _, _, S3, rv, q⟩ := z
            exact gone S3 fun _ J4 => ⟨_, _, _, J4, rv, q⟩
          | next =>
            obtain ⟨_, _, S3, q⟩ := z
            exact gone S3 fun _ J4 => ⟨_, _, J4, q⟩
          | brk =>
            obtain ⟨_, _, S3, q⟩ := z
            exact gone S3 fun _ J4 => ⟨_, _, J4, q⟩
          | cont =>
            obtain ⟨_, _, S3, q⟩ := z
            exact gone S3 fun _ J4 => ⟨_, _, J4, q⟩
    exact turn _ _ hcl wish
  cases fl with
  | ret u =>
    obtain ⟨v, σ2, H2, J2, rv, q⟩ := z
    exact ⟨v, σ2, H2, J2.ofTry good, rv, q⟩
  | next =>
    obtain ⟨σ2, H2, J2, q⟩ := z
    exact wpAny_execs_nil ⟨σ2, H2, J2.ofTry good, q⟩
  | brk =>
    obtain ⟨σ2, H2, J2, q⟩ := z
    exact ⟨σ2, H2, J2.ofTry good, q⟩
  | cont =>
    obtain ⟨σ2, H2, J2, q⟩ := z
    exact ⟨σ2, H2, J2.ofTry good, q⟩
end
end Pm
namespace Pm
open PySem PySem.Spec PyProof.Rows L2 SX
/-! ### a text times an int -/
theorem mul_fit {x : Str} {n : Int} (hx : x.length ≤ 1000) (n0 : 0 ≤ n) (n1 : n ≤ 1000) : MulOk x n := by
  have nn : (n.toNat : Int) = n := Int.toNat_of_nonneg n0
  have hm : x.length * n.toNat ≤ 1000 * 1000 := Nat.mul_le_mul hx (by omega)
  refine ⟨?_, fun a _ => ?_, fun _ _ => ?_⟩
  · rw [decide_eq_false (by omega), decide_eq_false (by omega)]
    rfl
  · have e : (x.length : Int) * n ≤ 2 ^ 63 - 1 := by
      rw [← nn]
      have y : ((x.length * n.toNat : Nat) : Int) ≤ ((1000 * 1000 : Nat) : Int) := Int.ofNat_le.mpr hm
      rw [Int.natCast_mul] at y
      exact Int.le_trans y (by decide)
    have := Int.le_ediv_of_mul_le (by omega) e
    omega
  · show decide (x.length * n.toNat > sizeLine) = false
    refine decide_eq_false ?_
    have : (1000 * 1000 : Nat) ≤ sizeLine := by decide
    omega
theorem op_mul_str {X : Cx} : OpR X (binaryOp .Mult) (fun x y H Q => ∃ i n, x = .str i ∧ y = .int n ∧ i.length ≤ 1000 ∧ 0 ≤ n ∧ n ≤ 1000 ∧ Q (.str (Txt.mul i n)) H) := by
  intro pins s σ H x y v u Q I rx ry h
  obtain ⟨i, n, rfl, rfl, hi, n0, n1, q⟩ := h
  obtain ⟨t, rfl⟩ := rx
  obtain ⟨t2, rfl⟩ := ry
  exact SB.mul (mul_fit hi n0 n1) fun t3 tk => ⟨.str (Txt.mul i n), H, I.tok _, ⟨_, rfl⟩, q⟩
theorem mul3 {z : List Nat} (h : Pal z) : Txt.mul (S z) 3 = S (z ++ z ++ z) := by
  obtain ⟨c, d, e, rfl, _⟩ := h
  rfl
theorem mul1 (c : Nat) (n : Int) : Txt.mul (S [c]) n = S (List.replicate n.toNat c) := by
  have e := mul_one_list c n
  have y : S (Txt.mul (S [c]) n).cps.toList = Txt.mul (S [c]) n := S_tl _
  rw [← y, e]
end Pm
namespace Pm
open PySem PySem.Spec PyProof.Rows L2 SX
section
variable {P : Program} {w : World} {K : PySem.W.Frag} {mg : Str → Option Value} {base : Heap} {C CI : Addr}
theorem PicAt.same {C : Addr} {H H' : Hp} {r : Addr} {R : Rows} (h : PicAt C H r R) (s : Same H H') : PicAt C H' r R := by
  obtain ⟨dx, l, a, b⟩ := h
  exact ⟨dx, l, s _ _ a, s _ _ b⟩
theorem made_same {C : Addr} {H : Hp} {x dx : Addr} (nx : H x = none) (nd : H dx = none) : Same H (upd (upd H dx (.own x)) x (.ins C dx [])) := fun b o e => by
  rw [upd_ne (ne_of_none e nx), upd_ne (ne_of_none e nd)]
  exact e
theorem made_but {C : Addr} {H H' : Hp} {x dx : Addr} (nx : H x = none) (nd : H dx = none) (s : SameBut x (upd (upd H dx (.own x)) x (.ins C dx [])) H') : Same H H' := fun b o e => by
  have ne : b ≠ x := ne_of_none e nx
  exact s b o ne (made_same nx nd _ _ e)
theorem lets_made {E : XK} {D : Addr} {fs : List (Str × V)} {H H' : Hp} (h : Lets E D fs H) (s : Same H H') : Lets E D fs H' := fun d G nd hd sg => h d G (back s nd) hd (s.trans sg)
def spLines (C : Addr) : Sp := fun vs H Q _ => ∃ r R, vs = [.ref r] ∧ PicAt C H r R ∧ ∀ p H', Same H H' → H p = none → H' p = some (.lst (rowsV R)) → Q (.ref p) H'
theorem scLines : FnScope ["self"] ["self"] (defScope cPictureLines) := ⟨rfl, rfl, rfl, by decide +kernel, rfl, by decide +kernel, by decide +kernel⟩
theorem ok_lines {f : Addr} {fd : FuncData} (F : Fun K "lines" "Picture.lines" cPictureLines f fd) (L : LTxt K mg) (T : PCls K C) : FnOk P w K mg base CX0 1 f fd ["self"] (spLines C) := by
  refine F.ok scLines (fun vs H Q E h => ?_) (fun cdv A outer s H vs Q E hr h => ?_)
  · obtain ⟨r, R, rfl, _⟩ := h
    rfl
  · obtain ⟨r, R, rfl, ⟨dx, l, hr1, hl⟩, k⟩ := h
    refine ⟨_, pss_one (ps_ret (pe_callTy call_list_of (by rfl) L.lst (by decide +kernel) (pa_cons (pe_fld (pv 0) rfl) pa_nil))), ?_⟩
    refine ⟨_, rfl, r, C, dx, _, _, rfl, hr1, T.cl, T.nR, rfl, l, _, rfl, .inl (SqL.of hl), fun p np => k p _ (same_upd np) np upd_same⟩
/-! ### contains -/
def inB (R : Rows) (x y : Int) : Bool := decide (0 ≤ x ∧ x < wideOf R) && decide (0 ≤ y ∧ y < (R.length : Int))
def spContains (C : Addr) : Sp := fun vs H Q _ => ∃ r R x y, vs = [.ref r, .int x, .int y] ∧ PicAt C H r R ∧ Q (.bl (inB R x y)) H
theorem scContains : FnScope ["self", "x", "y"] ["self", "x", "y"] (defScope cPictureContains) := ⟨rfl, rfl, rfl, by decide +kernel, rfl, by decide +kernel, by decide +kernel⟩
theorem ok_contains {f : Addr} {fd : FuncData} (F : Fun K "contains" "Picture.contains" cPictureContains f fd) (T : PCls K C) : FnOk P w K mg base CX0 1 f fd ["self", "x", "y"] (spContains C) := by
  refine F.ok scContains (fun vs H Q E h => ?_) (fun cdv A outer s H vs Q E hr h => ?_)
  · obtain ⟨r, R, x, y, rfl, _⟩ := h
    rfl
  · obtain ⟨r, R, x, y, rfl, ⟨dx, l, h1, h2⟩, k⟩ := h
    refine ⟨_, pss_one (ps_ret (pe_and (pe_chain op_le op_lt pe_int (pv 1) (pe_fld (pv 0) rfl)) (pe_one (pe_chain op_le op_lt pe_int (pv 2) (pe_fld (pv 0) rfl))))), ?_⟩
    have second : inB R x y = decide (0 ≤ y ∧ y < (R.length : Int)) → tChain (rI0 fun i j => .bl (decide (i ≤ j))) (rI0 fun i j => .bl (decide (i < j))) (tC (.int 0)) (tVar 2) (tFld K (tVar 0) "height") (L2.start ["self", "x", "y"] [.ref r, .int x, .int y]) H Q := fun e => by
      rw [e] at k
      refine ⟨_, rfl, _, _, rfl, rfl, _, rfl, ite2 (fun a => ?_) (fun a => ?_)⟩
      · have a := of_decide_eq_true a
        refine ⟨_, rfl, r, C, dx, _, _, rfl, h1, T.cl, T.nH, rfl, _, _, rfl, rfl, ?_⟩
        have e2 : decide (0 ≤ y ∧ y < (R.length : Int)) = decide (y < (R.length : Int)) := decide_eq_decide.mpr ⟨fun z => z.2, fun z => ⟨a, z⟩⟩
        rw [e2] at k
        exact k
      · have a : ¬ 0 ≤ y := fun z => a (decide_eq_true z)
        rw [decide_eq_false (fun z => a z.1)] at k
        exact k
    refine ⟨_, rfl, _, _, rfl, rfl, _, rfl, ite2 (fun a => ?_) (fun a => ?_)⟩
    · have a := of_decide_eq_true a
      refine ⟨_, rfl, r, C, dx, _, _, rfl, h1, T.cl, T.nW, rfl, _, _, rfl, rfl, _, rfl, ite2 (fun b => ?_) (fun b => ?_)⟩
      · have b := of_decide_eq_true b
        refine second ?_
        unfold inB
        rw [decide_eq_true (show 0 ≤ x ∧ x < wideOf R from ⟨a, b⟩), Bool.true_and]
      · have b : ¬ x < wideOf R := fun z => b (decide_eq_true z)
        unfold inB at k
        rw [decide_eq_false (fun z => b z.2), Bool.false_and] at k
        exact k
    · have a : ¬ 0 ≤ x := fun z => a (decide_eq_true z)
      unfold inB at k
      rw [decide_eq_false (fun z => a z.1), Bool.false_and] at k
      exact ⟨_, rfl, iteF k⟩
end
end Pm
namespace Pm
open PySem PySem.Spec PyProof.Rows L2 SX
/-! ### rows as data -/
/-- no sign is far out, none ends a line -/
def Low (R : Rows) : Prop := ∀ r ∈ R, ∀ c ∈ r, c < 256 ∧ c ≠ 10
def dR (r : List Nat) : PyData := .str (S r)
theorem dR_eqv (r q : List Nat) : PyData.eqv (dR r) (dR q) = decide (r = q) := by
  show (S r == S q) = _
  exact S_beq_eq
theorem dRs_lay : ∀ {M : Rows}, Low M → PyData.canLayAll0 (M.map dR) = true
  | [], _ => rfl
  | r :: M, h => by
    have e1 := dRs_lay (M := M) fun q m => h q (List.mem_cons_of_mem _ m)
    have e2 : PyData.strOk (S r) = true := by
      show (S r).cps.all (· < 0x110000) = true
      rw [Array.all_eq_true]
      intro i hi
      have m := h r List.mem_cons_self _ (List.getElem_mem (l := r) (n := i) (by simpa using hi))
      exact decide_eq_true (Nat.lt_of_lt_of_le (by simpa using m.1) (by decide))
    show (PyData.strOk (S r) && PyData.canLayAll0 (M.map dR)) = true
    rw [e1, e2]
    rfl
theorem dRs_depth : ∀ M : Rows, PyData.depthAll (M.map dR) = 0
  | [] => by simp [PyData.depthAll]
  | c :: M => by
    have := dRs_depth M
    simp [PyData.depthAll, dR, PyData.depth, this]
theorem dRs_shaped {M : Rows} (h : Low M) : SeqAt.shaped (.list (M.map dR)) = true := by
  have z := dRs_depth M
  have y := dRs_lay h
  simp [SeqAt.shaped, PyData.canLay0, PyData.depth, y, z]
theorem dRs_eqvAll : ∀ M N : Rows, PyData.eqvAll (M.map dR) (N.map dR) = decide (M = N)
  | [], N => by cases N <;> simp [PyData.eqvAll]
  | r :: M, [] => by simp [PyData.eqvAll]
  | r :: M, q :: N => by
    rw [List.map_cons, List.map_cons]
    show (PyData.eqv (dR r) (dR q) && PyData.eqvAll (M.map dR) (N.map dR)) = _
    rw [dR_eqv, dRs_eqvAll M N]
    simp
theorem dRs_eqv (M N : Rows) : PyData.eqv (.list (M.map dR)) (.list (N.map dR)) = decide (M = N) := by
  simp [PyData.eqv, dRs_eqvAll]
theorem dp_rows {K : PySem.W.Frag} {H : Hp} : ∀ R : Rows, DpAll K H (rowsV R) (R.map dR)
  | [] => .nil
  | r :: R => .cons (.str _) (dp_rows R)
theorem dp_list {K : PySem.W.Frag} {H : Hp} {a : Addr} {R : Rows} (h : H a = some (.lst (rowsV R))) : Dp K H (.ref a) (.list (R.map dR)) := .lst (SqL.of h) (dp_rows R)
theorem Low.nil : Low [] := fun r m => nomatch m
end Pm
namespace Pm
open PySem PySem.Spec PyProof.Rows L2 SX
/-! ### grids that change -/
def rowAt (R : Rows) (j : Nat) : List Nat := R.getD j []
def putR (R : Rows) (i j : Nat) (z : List Nat) : Rows := R.set j ((rowAt R j).take i ++ z ++ (rowAt R j).drop (i + 1))
theorem good_low {c : Nat} (h : Good c) : c < 256 ∧ c ≠ 10 := by
  unfold Good Let at h
  omega
theorem line_good {r : List Nat} {R : Rows} (ok : ∀ (j : Nat) y, j < 8 → (r :: R)[j]? = some y → okB (r.length : Int) y = true) : lineOf (r :: R) = if 8 < (r :: R).length then 9 else 0 := by
  rw [lineOf_cons, find_none fun j y hy => by
    rw [List.getElem?_take] at hy
    by_cases a : j < 8
    · rw [if_pos a] at hy
      rw [ok j y a hy]
      rfl
    · rw [if_neg a] at hy
      cases hy]
theorem Grid.line {R : Rows} {n : Nat} (g : Grid R n) : lineOf R = 0 := by
  have h1 := g.h1
  have h8 := g.h8
  have w1 := g.w1
  have w8 := g.w8
  match R, g, h1, h8 with
  | r :: R, g, h1, h8 =>
    have ok : ∀ z ∈ r :: R, okB (r.length : Int) z = true := fun z m => by
      have e1 := g.row z m
      have e2 := g.row r List.mem_cons_self
      have e3 : (z.all fun c => decide (Good c)) = true := List.all_eq_true.mpr fun c mc => decide_eq_true (g.sgn z m c mc)
      unfold okB
      rw [e3, decide_eq_true (show 1 ≤ z.length by omega), decide_eq_true (show z.length ≤ 8 by omega), decide_eq_true (show (z.length : Int) = (r.length : Int) by omega)]
      rfl
    rw [line_good fun j y _ hy => ok y (List.mem_of_getElem? hy), if_neg (by omega)]
theorem Grid.wide {R : Rows} {n : Nat} (g : Grid R n) : wideOf R = (n : Int) := by
  match R, g, g.h1 with
  | r :: R, g, _ =>
    show (r.length : Int) = _
    rw [g.row r List.mem_cons_self]
theorem Grid.at {R : Rows} {n : Nat} (g : Grid R n) {j : Nat} (hj : j < R.length) : R[j]? = some (rowAt R j) ∧ rowAt R j ∈ R ∧ (rowAt R j).length = n := by
  have e : R[j]? = some R[j] := List.getElem?_eq_getElem hj
  have y : rowAt R j = R[j] := by
    unfold rowAt
    rw [List.getD_eq_getElem?_getD, e]
    rfl
  rw [y]
  exact ⟨e, List.getElem_mem hj, g.row _ (List.getElem_mem hj)⟩
theorem Grid.inside {R : Rows} {n : Nat} (g : Grid R n) {x y : Int} (h : inB R x y = true) : ∃ i j : Nat, x = (i : Int) ∧ y = (j : Int) ∧ i < n ∧ j < R.length := by
  unfold inB at h
  obtain ⟨a, b⟩ := Bool.and_eq_true_iff.mp h
  have a := of_decide_eq_true a
  have b := of_decide_eq_true b
  rw [g.wide] at a
  exact ⟨x.toNat, y.toNat, by omega, by omega, by omega, by omega⟩
theorem goodB_one {z : List Nat} (h : goodB z = true) : ∃ c, z = [c] ∧ Good c := by
  match z, h with
  | [c], h => exact ⟨c, rfl, of_decide_eq_true h⟩
theorem Grid.put {R : Rows} {n i j c : Nat} (g : Grid R n) (hi : i < n) (hj : j < R.length) (hc : Good c) : Grid (putR R i j [c]) n := by
  obtain ⟨_, m, l⟩ := g.at hj
  have new : ((rowAt R j).take i ++ [c] ++ (rowAt R j).drop (i + 1)).length = n := by
    simp only [List.length_append, List.length_take, List.length_drop, List.length_cons, List.length_nil]
    omega
  refine ⟨g.w1, g.w8, by unfold putR; rw [List.length_set]; exact g.h1, by unfold putR; rw [List.length_set]; exact g.h8, fun z mz => ?_, fun z mz d md => ?_⟩
  · rcases List.mem_or_eq_of_mem_set mz with a | a
    · exact g.row z a
    · rw [a, new]
  · rcases List.mem_or_eq_of_mem_set mz with a | a
    · exact g.sgn z a d md
    · rw [a] at md
      rcases List.mem_append.mp md with y | y
      · rcases List.mem_append.mp y with y | y
        · exact g.sgn _ m d (List.mem_of_mem_take y)
        · rw [List.mem_singleton.mp y]
          exact hc
      · exact g.sgn _ m d (List.mem_of_mem_drop y)
theorem Grid.plain {n m c : Nat} (n1 : 1 ≤ n) (n8 : n ≤ 8) (m1 : 1 ≤ m) (m8 : m ≤ 8) (hc : Good c) : Grid (List.replicate m (List.replicate n c)) n := by
  refine ⟨n1, n8, by rw [List.length_replicate]; exact m1, by rw [List.length_replicate]; exact m8, fun z mz => ?_, fun z mz d md => ?_⟩
  · rw [(List.mem_replicate.mp mz).2, List.length_replicate]
  · rw [(List.mem_replicate.mp mz).2] at md
    rw [(List.mem_replicate.mp md).2]
    exact hc
theorem put_back {R : Rows} {n i j : Nat} {c d : Nat} (g : Grid R n) (hi : i < n) (hj : j < R.length) (hd : (rowAt R j)[i]? = some d) : putR (putR R i j [c]) i j [d] = R := by
  obtain ⟨e, m, l⟩ := g.at hj
  have e1 : rowAt (putR R i j [c]) j = (rowAt R j).take i ++ [c] ++ (rowAt R j).drop (i + 1) := by
    unfold rowAt putR
    rw [List.getD_eq_getElem?_getD, List.getElem?_set_self (by simpa using hj)]
    rfl
  have li : ((rowAt R j).take i).length = i := by rw [List.length_take]; omega
  unfold putR at e1 ⊢
  rw [e1, List.set_set]
  have t : ((rowAt R j).take i ++ [c] ++ (rowAt R j).drop (i + 1)).take i = (rowAt R j).take i := by
    rw [List.append_assoc, List.take_append_of_le_length (by omega), List.take_of_length_le (by omega)]
  have u : ((rowAt R j).take i ++ [c] ++ (rowAt R j).drop (i + 1)).drop (i + 1) = (rowAt R j).drop (i + 1) := by
    have lc : ((rowAt R j).take i ++ [c]).length = i + 1 := by rw [List.length_append, li]; rfl
    rw [← lc, List.drop_left]
  rw [t, u]
  have w : (rowAt R j).take i ++ [d] ++ (rowAt R j).drop (i + 1) = rowAt R j := by
    obtain ⟨h1, h2⟩ := List.getElem?_eq_some_iff.mp hd
    rw [List.append_assoc, List.singleton_append, ← h2, List.getElem_cons_drop, List.take_append_drop]
  rw [w]
  obtain ⟨h1, h2⟩ := List.getElem?_eq_some_iff.mp e
  rw [← h2, List.set_getElem_self]
section
variable {P : Program} {w : World} {K : PySem.W.Frag} {mg : Str → Option Value} {base : Heap} {C CI CO CG : Addr}
theorem gone {z : Prop} {E : XK} {D : Addr} {fs : List (Str × V)} {H : Hp} (n : ¬ z) : z → Lets E D fs H := fun y => absurd y n
/-! ### str -/
theorem nl_S : ("\n" : Str) = S [10] := by decide +kernel
def spStr (C : Addr) : Sp := fun vs H Q _ => ∃ r R n, vs = [.ref r] ∧ PicAt C H r R ∧ Grid R n ∧ Q (.str (S (TL.joinL [10] R))) H
theorem scStr : FnScope ["self"] ["self"] (defScope cPictureStr) := ⟨rfl, rfl, rfl, by decide +kernel, rfl, by decide +kernel, by decide +kernel⟩
theorem sum_le (n : Nat) : ∀ R : Rows, (∀ z ∈ R, z.length ≤ n) → (R.map (·.length)).sum ≤ R.length * n
  | [], _ => by simp
  | z :: R, h => by
    have e := sum_le n R fun y m => h y (List.mem_cons_of_mem _ m)
    have e1 := h z List.mem_cons_self
    simp only [List.map_cons, List.sum_cons, List.length_cons]
    rw [Nat.add_mul]
    omega
theorem strs_rows (R : Rows) : (R.map S).map V.str = rowsV R := by
  rw [List.map_map]
  rfl
theorem join_fit {R : Rows} {n : Nat} (g : Grid R n) : ((R.map S).map (·.length)).sum + (R.map S).length * ("\n" : Str).length ≤ 16777216 := by
  have e2 : ((R.map S).map (·.length)) = R.map (·.length) := lens R
  have e3 := sum_le 8 R fun z m => by rw [g.row z m]; exact g.w8
  have h8 := g.h8
  rw [e2, nl_S, len_S, List.length_map]
  show (R.map (·.length)).sum + R.length * 1 ≤ 16777216
  omega
theorem ok_str {f : Addr} {fd : FuncData} (F : Fun K "__str__" "Picture.__str__" cPictureStr f fd) (T : PCls K C) : FnOk P w K mg base CX0 1 f fd ["self"] (spStr C) := by
  refine F.ok scStr (fun vs H Q E h => ?_) (fun cdv A outer s H vs Q E hr h => ?_)
  · obtain ⟨r, R, n, rfl, _⟩ := h
    rfl
  · obtain ⟨r, R, n, rfl, ⟨dx, l, h1, h2⟩, g, k⟩ := h
    refine ⟨_, pss_one (ps_ret (pe_join pe_str (pe_fld (pv 0) rfl))), ?_⟩
    refine ⟨⟨_, rfl⟩, _, rfl, r, C, dx, _, _, rfl, h1, T.cl, T.nR, rfl, ("\n" : Str), l, R.map S, rfl, rfl, .inl (by rw [strs_rows]; exact SqL.of h2), join_fit g, ?_⟩
    rw [nl_S, join_S [10] R]
    exact k
end
/-! ### str(picture) -/
structure OwnM (K : PySem.W.Frag) (C : Addr) (m : Str) (f : Addr) : Prop where
  at_ : PySem.W.findIn K (.ref C) m = some (some (.ref f))
  fn : PySem.W.isFn K (.ref f) = true
section
variable {X : Cx} {CXf : CXT} {k : Nat} {f C : Addr} {fd : FuncData} {ps : List Str} {sp : Sp} {E : XK} {pins : List (Addr × Obj)} {σ : L2.St} {H : Hp} {s : Shared}
/-- a def called from any place around, with the caller's frames -/
theorem run_at {A : Around} {Q : VK} {us : List Value} {vs : List V} (F : FnOk X.prog X.w X.K X.mg X.base CXf k f fd ps sp) (hr : Room k A) (fr : A.frames = X.A.frames) (hb : Binds X.K fd ps []) (hx : Passes CXf X E) (I : L2.Inv X pins σ H s)
    (r : Vals vs us) (h : sp vs H Q E) : wpAny (model X.prog X.w) A (call (.ref f) us) (EP X pins σ Q) X.xe s := by
  have e0 : Env0 X.prog X.w X.K X.mg X.base A X.stack s H := by
    have e := I.env0
    exact ⟨by rw [fr]; exact e.frames, e.mod, e.bs, e.bsz, e.funs, e.frf, e.hok, e.bare⟩
  have hl := F.len _ _ _ _ h
  refine wpAny_call (codeAny_mono (F.run A X.stack s H ⟨us, []⟩ us vs _ E hr e0 (by
    have := hb s us I.kIn (by rw [List.append_nil, ← r.length]; exact hl)
    simpa using this) r h) fun q s' hq => ?_)
  cases q with
  | error e => exact hx pins σ H s e s' I hq
  | ok fl =>
    cases fl with
    | ret u => exact I.after hq
    | next => exact False.elim hq
    | brk => exact False.elim hq
    | cont => exact False.elim hq
theorem pic_inst {r : Addr} {R : Rows} (I : L2.Inv X pins σ H s) (h : PicAt C H r R) : ∃ ox od, PySem.W.InstAt s.heap r ox C od := by
  obtain ⟨dx, l, h1, _⟩ := h
  obtain ⟨mA, J, _⟩ := ins_get I.hok h1
  obtain ⟨od, J, _⟩ := J.look
  exact ⟨_, _, J⟩
def rStrP (C : Addr) : List V → Hp → VK → Prop := fun xs H Q => ∃ r R n, xs = [.ref r] ∧ PicAt C H r R ∧ Grid R n ∧ Q (.str (S (TL.joinL [10] R))) H
theorem call_strP (O : FnOk X.prog X.w X.K X.mg X.base CX0 k f fd ["self"] (spStr C)) (hr : Room (k + 2) X.A) (b : Binds X.K fd ["self"] []) (m : OwnM X.K C "__str__" f) : CallR X (.type "str") (rStrP C) := by
  intro pins s σ H xs us Q I r h
  obtain ⟨r0, R, n, rfl, hp, g, q⟩ := h
  match r with
  | .cons rx .nil =>
    cases rx
    obtain ⟨ox, od, J⟩ := pic_inst I hp
    refine PySem.W.kso_call (hr.in1.in1.units0) I.kIn J m.at_ m.fn ?_
    refine wpAny_mono (run_at (Q := fun v H' => v = .str (S (TL.joinL [10] R)) ∧ H' = H) (E := E0) (vs := [.ref r0]) O hr.in1.in1 rfl b pass0 I (.cons rfl .nil) ⟨r0, R, n, rfl, hp, g, rfl, rfl⟩) (fun v s' z => ?_) fun _ _ z => z
    obtain ⟨v', H', I', rv, rfl, rfl⟩ := z
    obtain ⟨t, rfl⟩ := rv
    exact ⟨.str _, _, I', ⟨_, rfl⟩, q⟩
end
theorem ixN_nat {n j : Nat} (h : j < n) : ixN n (j : Int) = some j := by
  unfold ixN
  rw [if_pos (by omega), if_pos (by omega)]
  rfl
theorem cut_from (xs : List V) (n : Nat) : cutV xs (some (n : Int)) none = xs.drop n := by
  unfold cutV
  rw [HT.sIx_none, HT.sIx_nat]
  rcases Nat.le_total n xs.length with h | h
  · rw [Nat.min_eq_left h, List.take_of_length_le (by rw [List.length_drop]; omega)]
  · rw [Nat.min_eq_right h, Nat.sub_self, List.take_zero, List.drop_of_length_le h]
def signAt (R : Rows) (x y : Int) : List Nat := if inB R x y = true then [(rowAt R y.toNat).getD x.toNat 0] else [35]
def LowR (z : List Nat) : Prop := ∀ c ∈ z, c < 256 ∧ c ≠ 10
theorem Grid.low {R : Rows} {n : Nat} (g : Grid R n) : Low R := fun r m c mc => good_low (g.sgn r m c mc)
theorem inB_out {R : Rows} {n : Nat} (g : Grid R n) {x y : Int} (h : y < 0 ∨ (R.length : Int) ≤ y ∨ x < 0 ∨ (n : Int) ≤ x) : inB R x y = false := by
  unfold inB
  rw [g.wide]
  by_cases a : 0 ≤ x ∧ x < (n : Int)
  · rw [decide_eq_false (show ¬ (0 ≤ y ∧ y < (R.length : Int)) by omega), Bool.and_false]
  · rw [decide_eq_false a, Bool.false_and]
theorem inB_in {R : Rows} {n : Nat} (g : Grid R n) {x y : Int} (a : 0 ≤ x) (b : x < (n : Int)) (c : 0 ≤ y) (d : y < (R.length : Int)) : inB R x y = true := by
  unfold inB
  rw [g.wide, decide_eq_true (show 0 ≤ x ∧ x < (n : Int) from ⟨a, b⟩), decide_eq_true (show 0 ≤ y ∧ y < (R.length : Int) from ⟨c, d⟩)]
  rfl
theorem rowsV_get {R : Rows} {n j : Nat} (g : Grid R n) (hj : j < R.length) : (rowsV R)[j]? = some (.str (S (rowAt R j))) := by
  unfold rowsV
  rw [List.getElem?_map, (g.at hj).1]
  rfl
theorem rows_ok {R : Rows} {n : Nat} (g : Grid R n) : SeqAt.shaped (.list (R.map dR)) = true ∧ PyData.eqv (.list (R.map dR)) (.list (R.map dR)) = true := ⟨dRs_shaped g.low, by rw [dRs_eqv]; exact decide_eq_true rfl⟩
theorem rows_ne {H : Hp} {b l q : Addr} {R : Rows} (h : BagL H b l) (hq : H q = some (.lst (rowsV R))) : q ≠ b := fun e => by
  obtain ⟨ns, i, p, r, hb, _⟩ := h
  rw [e, hb] at hq
  match R, hq with
  | [_, _, _, _], hq => simp [rowsV] at hq
theorem PicAt.but {C : Addr} {H H' : Hp} {r b l : Addr} {R : Rows} (h : PicAt C H r R) (hb : BagL H b l) (s : SameBut b H H') : PicAt C H' r R := by
  obtain ⟨dx, q, h1, h2⟩ := h
  have nb : r ≠ b := fun e => by
    obtain ⟨xs, e2⟩ := bag_b hb
    rw [e, e2] at h1
    cases h1
  exact ⟨dx, q, s _ _ nb h1, s _ _ (rows_ne hb h2) h2⟩
theorem bag_same {H H' : Hp} {b l : Addr} (h : BagL H b l) (s : Same H H') : BagL H' b l := by
  obtain ⟨ns, i, q, r, e1, e2, e3⟩ := h
  exact ⟨ns, i, q, r, s _ _ e1, s _ _ e2, e3⟩
end Pm
namespace Pm
open PySem PySem.Spec PyProof.Rows L2 PpSet
/-! ### sets of at most 64 pairs -/
/-- a set of pairs of which only this is kept: its rows, and that they can be collected -/
structure Full (P : Program) (w : World) (h : Heap) (a : Addr) (L : List (Addr × List Int)) : Prop where
  at_ : ∃ (es : Array (Int × Value)) (ep : Nat) (t : SetTable) (o : Obj), (h.get? a = some o ∧ o.cls = .type "set" ∧ o.data = .set es ep t) ∧ es.toList.map (·.2) = (L.map fun q => Value.ref q.1) ∧ t.fits es.size = true ∧ Ris t.place.toList ∧ (t.led = true ∨ w.params.followText "set-order" = true)
  nd : (L.map (·.2)).Nodup
  len : L.length ≤ 64
def FullO (P : Program) (w : World) (a : Addr) (L : List (Addr × List Int)) : HO := .ext fun h => Full P w h a L
/-- as long as more can come, else full -/
def SetQ (P : Program) (w : World) (a : Addr) (L : List (Addr × List Int)) : HO := if L.length < 64 then SetTO P w a L else FullO P w a L
theorem setQ_few {P : Program} {w : World} {a : Addr} {L : List (Addr × List Int)} (h : L.length < 64) : SetQ P w a L = SetTO P w a L := if_pos h
theorem full_ok {P : Program} {w : World} {H : Hp} {h : Heap} {a : Addr} {L : List (Addr × List Int)} (R : Full P w h a L) : ObjOk P w H h a (FullO P w a L) := by
  have ⟨es, ep, t, o, ⟨ho, hc⟩, q⟩ := R.at_
  refine ⟨R, ⟨o, ho⟩, fun h1 h2 p k => ?_⟩
  have ⟨es', ep', t', o', ⟨ho', hc'⟩, q'⟩ := Full.at_ p
  exact ⟨⟨es', ep', t', o', ⟨k o' ho', hc'⟩, q'⟩, Full.nd p, Full.len p⟩
theorem full_of {P : Program} {w : World} {h : Heap} {a : Addr} {L : List (Addr × List Int)} (R : SetT0 P w h a L) (tp : ∀ p ∈ L, L2.IsT P w h p.2 p.1) : Full P w h a L := by
  obtain ⟨es, ep, t, R⟩ := R.full tp
  obtain ⟨o, ho, hx, hd⟩ := R.ob
  have ft : t.fits es.size = true := SetTR.fits (s := { heap := h }) R
  refine ⟨⟨es, ep, t, o, ⟨ho, hx.1, hd⟩, ?_, ft, R.tab.ris, R.led.symm⟩, R.nd, Nat.le_of_lt R.few⟩
  rw [R.rows, rowsOf, List.map_map]
  rfl
section
variable {P : Program} {w : World} {A : Around} {E : Value → Shared → Prop} {s : Shared} {a : Addr} {L : List (Addr × List Int)} {es : Array (Int × Value)} {ep : Nat} {t : SetTable}
/-- the last that a table of this size can take without a new table -/
theorem add_last (R : SetTR P w s.heap a L es ep t) {x : Addr} {k : List Int} (hx : L2.IsT P w s.heap k x) (hu : A.units < cLine) (l63 : L.length = 63) {Q : Bool → Shared → Prop}
    (old : k ∈ L.map (·.2) → Q false s)
    (new : k ∉ L.map (·.2) → ∀ h' L', Heap.SameBut a s.heap h' → Full P w h' a L' → L'.Perm ((x, k) :: L) → Q true { s with heap := h' }) :
    wpAny (model P w) A (setAddHashed a (.ref x) (thash P w k)) Q E s := by
  obtain ⟨o, ho, hex, hd⟩ := R.ob
  have room := R.room
  have m127 : t.mask = 127 := by
    rcases R.tab.mok with e | e | e
    · omega
    · omega
    · exact e
  unfold setAddHashed
  refine wpAny_holding ?_
  rw [show (100000 : Nat) = 99999 + 1 from rfl, setAddHashedIn_succ]
  refine wpAny_bind (wpAny_setState_of ho hd R.fits ?_)
  dsimp only
  refine wp_if_neg (by simp [byScan, Value.scannable]) ?_
  try refine wpAny_bind (wpAny_pure ?_)
  refine wpAny_bind (search_at R hx hu (fun hm => ?_) fun K hm hK hb => ?_)
  · dsimp only
    exact wpAny_pure (old hm)
  · dsimp only
    refine wpAny_bind (wpAny_setState_of ho hd R.fits ?_)
    dsimp only
    obtain ⟨q1, q2, q3, q4, q5, q6, q7, q8, q9⟩ := R.tab.put hK hb
    have pl1 : (t.put (way t.mask (thash P w k) K)).1.plain = true := q6.trans R.plain
    generalize et : t.put (way t.mask (thash P w k) K) = pt at q1 q3 q4 q5 q6 q7 q8 q9 pl1 ⊢
    obtain ⟨t1, p⟩ := pt
    dsimp only at q1 q3 q4 q5 q6 q7 q8 q9 pl1 ⊢
    subst q1
    first
      | (refine wpAny_bind ?_; refine wp_if_pos pl1 ?_; refine hashBy_tup hx ?_)
      | refine wp_if_pos pl1 (wpAny_bind (hashBy_tup hx ?_))
    simp only [if_true]
    have rws : (SetTable.insertAt es (SetTable.below t.place (way t.mask (thash P w k) K)) (thash P w k, Value.ref x)).toList = rowsOf P w (L.take (SetTable.below t.place (way t.mask (thash P w k) K)) ++ (x, k) :: L.drop (SetTable.below t.place (way t.mask (thash P w k) K))) := by
      rw [SetTable.toList_insertAt, rows_put, R.rows]
    generalize SetTable.below t.place (way t.mask (thash P w k) K) = p at q2 q3 rws ⊢
    have pm := put_perm L p (x, k)
    have l64 : (L.take p ++ (x, k) :: L.drop p).length = 64 := by rw [pm.length_eq, List.length_cons, l63]
    have hhs : (L.take p ++ (x, k) :: L.drop p).map (fun p => thash P w p.2) = (L.map fun p => thash P w p.2).take p ++ thash P w k :: (L.map fun p => thash P w p.2).drop p := by
      rw [List.map_append, List.map_cons, List.map_take, List.map_drop]
    rw [← hhs] at q3
    have nd1 : ((L.take p ++ (x, k) :: L.drop p).map (·.2)).Nodup := (pm.map (·.2)).nodup_iff.mpr (by
      rw [List.map_cons]
      exact List.nodup_cons.mpr ⟨hm, R.nd⟩)
    have sz : (SetTable.insertAt es p (thash P w k, Value.ref x)).size = 64 := by
      have z := congrArg List.length rws
      unfold rowsOf at z
      rw [Array.length_toList, List.length_map, l64] at z
      exact z
    generalize SetTable.insertAt es p (thash P w k, Value.ref x) = es1 at rws sz ⊢
    generalize L.take p ++ (x, k) :: L.drop p = L1 at pm l64 q3 nd1 rws
    refine wpAny_bind (wpAny_storeSet_of ho hd ?_ (by rw [sz, sizeLine_eq]; omega))
    have sb : Heap.SameBut a s.heap (s.heap.update a (Obj.putSet es1 t1)) := Heap.SameBut.update ..
    have ho1 := store_at (es' := es1) (t' := t1) ho hd
    generalize s.heap.update a (Obj.putSet es1 t1) = h1 at sb ho1 ⊢
    have nf : ¬ t1.tooFull = true := fun z => by
      unfold SetTable.tooFull at z
      rw [decide_eq_true_eq, q9, List.length_map, q4, m127] at z
      omega
    have sz1 : t1.place.size = es1.size := by
      have z := q3.sz
      rw [List.length_map, l64] at z
      rw [z, sz]
    have fit : t1.fits es1.size = true := by
      have z := q9
      rw [List.length_map] at z
      unfold SetTable.fits
      rw [z, Bool.and_eq_true, beq_iff_eq, decide_eq_true_eq, q4, m127]
      exact ⟨sz1, by omega⟩
    have got : Full P w h1 a L1 := ⟨⟨es1, ep + 1, t1, _, ⟨ho1, hex.1, rfl⟩, by rw [rws, rowsOf, List.map_map]; rfl, fit, q3.ris, by rw [q5]; exact R.led.symm⟩, nd1, Nat.le_of_eq l64⟩
    first
      | refine wp_if_neg (by simp [nf]) ?_
      | (refine wpAny_bind ?_; refine wp_if_neg (by simp [nf]) ?_; refine wpAny_pure ?_)
    exact wpAny_pure (new hm h1 L1 sb got pm)
end
section
variable {X : Cx} {pins : List (Addr × Obj)} {σ : L2.St} {H : Hp} {s : Shared}
/-- D.add(t), t a tuple of ints -/
theorem put_tup {E : Value → Shared → Prop} {D t : Addr} {k : List Int} {L : List (Addr × List Int)} {Q : Value → Shared → Prop} (J : Inv X pins σ H s) (hD : H D = some (SetTO X.prog X.w D L))
    (hL : ∀ p ∈ L, SqT X.K H p.1 (p.2.map V.int)) (ht : SqT X.K H t (k.map V.int)) (few : L.length < 64) (hu : X.A.units + 1 < cLine)
    (go : ∀ L' s', (k ∈ L.map (·.2) → L' = L) → (k ∉ L.map (·.2) → L'.Perm ((t, k) :: L)) → Inv X pins σ (upd H D (SetQ X.prog X.w D L')) s' → Q .none s') :
    wpAny (model X.prog X.w) X.A (call (.builtin "set.add") [.ref D, .ref t]) Q E s := by
  have R0 : SetT0 X.prog X.w s.heap D L := (J.hok D _ hD).1
  obtain ⟨es, ep, tb, R⟩ := R0.full fun p hp => J.isT (hL p hp)
  have hk : L2.IsT X.prog X.w s.heap k t := J.isT ht
  have hT : s.TypeIs (.ref D) "set" := by
    obtain ⟨o, ho, hx, _⟩ := R.ob
    exact ⟨o, ho, hx.1⟩
  refine wpAny_call_entry F.slot_set_add hT F.entry_set_add ?_ (F.args_set_add_2 _ _)
  unfold Builtin.«set.add» Builtin.Frozenset.oneOther
  simp only [bind_assoc, List.isEmpty_nil]
  unfold setAdd Builtin.Frozenset.addrOf
  refine wpAny_bind (wpAny_pure ?_)
  try dsimp only
  refine wpAny_bind (wpAny_pure ?_)
  try dsimp only
  refine wpAny_bind (wpAny_holding (wpAny_bind (wpAny_pyHash_tuple hu hk ?_)))
  rcases Nat.lt_or_ge (L.length + 1) 64 with lt | ge
  case inr =>
    refine add_last (s := { s with toks := s.toks + (k.length + 1) }) R hk hu (by omega) (fun hm => ?_) fun hm h' L' sb R2 pm => ?_
    · show wpAny _ _ (ret Value.none) _ _ _
      have there : ∃ u, s.heap.get? D = some u := by
        obtain ⟨o, ho, _⟩ := R.ob
        exact ⟨o, ho⟩
      refine wpAny_pure ⟨_, rfl, go L _ (fun _ => rfl) (fun z => absurd hm z) (J.write (e := D) (t' := s.toks + (k.length + 1)) (by rw [hD]; trivial) (.inl rfl) (fun b u hb q => q) there ?_)⟩
      rw [setQ_few few]
      exact setTO_new R0
    · show wpAny _ _ (ret Value.none) _ _ _
      have there : ∃ u, h'.get? D = some u := by
        obtain ⟨_, _, _, o, ⟨ho, _⟩, _⟩ := R2.at_
        exact ⟨o, ho⟩
      refine wpAny_pure ⟨_, rfl, go L' _ (fun z => absurd z hm) (fun _ => pm) (J.write (e := D) (t' := s.toks + (k.length + 1)) (by rw [hD]; trivial) (.inl rfl) (fun b u hb q => (sb.2 b hb).trans q) there ?_)⟩
      have l64 : ¬ L'.length < 64 := by rw [pm.length_eq, List.length_cons]; omega
      rw [show SetQ X.prog X.w D L' = FullO X.prog X.w D L' from if_neg l64]
      exact full_ok R2
  refine add_at (s := { s with toks := s.toks + (k.length + 1) }) R hk hu lt fun b h' L' es' ep' t' sb R2 c1 c2 => ?_
  show wpAny _ _ (ret Value.none) _ _ _
  have there : ∃ u, h'.get? D = some u := by
    obtain ⟨o, ho, _⟩ := R2.ob
    exact ⟨o, ho⟩
  exact wpAny_pure ⟨_, rfl, go L' _ c1 c2 (J.write (e := D) (t' := s.toks + (k.length + 1)) (by rw [hD]; trivial) (.inl rfl) (fun b u hb q => (sb.2 b hb).trans q) there (by rw [setQ_few R2.few]; exact setTO_new R2.t0))⟩
/-- {elt for target in iter}, elt a tuple of ints: D the new set; L its members, each with its address -/
def tSct (P : Program) (w : World) (K : PySem.W.Frag) (walk : TI) (g : TG) (tt : TT) (te : TE) (vs : List Nat) : TE := fun σ H Q => walk σ H fun J H1 => ∀ D, H1 D = none →
  ∃ W : Nat → Nat → Hp → Prop, (∃ m, W 0 m (upd H1 D (SetTO P w D []))) ∧ ∀ i m G, W i m G →
    (J.stop i G ∧ Q (.ref D) G) ∨ (J.go i G ∧ ∃ Nx : Hp → Prop, (∀ G', Nx G' → ∃ m', m' < m ∧ W (i + 1) m' G') ∧
      ∀ x G1, J.yld i G x G1 → g x (wipe σ vs) G1 fun σ2 G2 => wipe σ2 vs = wipe σ vs ∧ tt σ2 G2 fun b G3 => if b = true then te σ2 G3 fun y G4 =>
        ∃ (t : Addr) (k : List Int) (L : List (Addr × List Int)), y = .ref t ∧ SqT K G4 t (k.map V.int) ∧ G4 D = some (SetTO P w D L) ∧ (∀ p ∈ L, SqT K G4 p.1 (p.2.map V.int)) ∧ L.length < 64 ∧
          ∀ L', (k ∈ L.map (·.2) → L' = L) → (k ∉ L.map (·.2) → L'.Perm ((t, k) :: L)) → Nx (upd G4 D (SetQ P w D L')) else Nx G3)
/-- the set that a comprehension begins with -/
abbrev noSet (w : World) : Obj := { cls := .type "set", dict := none, data := .set #[] 0 (.fresh 0 0 (!w.params.followText "set-order")) }
theorem pe_sct {elt tg iter : Expr} {ifs : List Expr} {scope : Scope} {own : List (PySem.Str × Nat)} {pos : Pos} {walk : TI} {g : TG} {tt : TT} {te : TE} (calm : X.calm = true) (hu : X.A.units + 1 < cLine) (nd : X.N.Nodup) (hi : PI X tg iter walk)
    (ok : BlkOk X.N X.env.scope scope own)
    (hg : ∀ (s0 : Shared) (H0 : Hp) (C : Addr) (cl : List (PySem.Str × Addr)) (fp : List Addr), PG (X.blk s0 H0 scope (compEnvC scope cl C X.env) fp) tg g)
    (ht : ∀ (s0 : Shared) (H0 : Hp) (C : Addr) (cl : List (PySem.Str × Addr)) (fp : List Addr), PTs (X.blk s0 H0 scope (compEnvC scope cl C X.env) fp) ifs tt)
    (he : ∀ (s0 : Shared) (H0 : Hp) (C : Addr) (cl : List (PySem.Str × Addr)) (fp : List Addr), PE (X.blk s0 H0 scope (compEnvC scope cl C X.env) fp) elt te)
    (plain : ∀ x, foldedSetIterable iter X.env x = pure x := by intro _; rfl) :
    PE X (.SetComp elt [⟨tg, iter, ifs, 0⟩] scope pos) (tSct X.prog X.w X.K walk g tt te (own.map (·.2))) := by
  refine ⟨fun pins s σ H Q J0 h => ?_⟩
  rw [eval_SetComp]
  have frees : ∀ y ∈ scope.names, y.2 = .free → ∃ c, X.env.cells.lookup y.1 = some c := fun y hy e => (ok.free y hy e).elim (fun z => J0.ok.has _ (.inl z)) fun z => J0.ok.has _ (.inr z)
  refine wpAny_comprehension_free rfl plain (closure_ok frees) ok.kind (fun y hy e => by rw [ok.uniq y hy, e]) (thn (hi.run pins s σ H _ J0 h) fun xv sa hx => thn hx fun itv sb h2 => ?_)
  obtain ⟨it, fp, tn, J, Ha, e, Ia, T, sta, fa, q⟩ := h2
  subst e
  refine newSet_ok (newEnv_comp ?_)
  generalize eD : sb.heap.objs.size = D
  obtain ⟨W, ⟨m0, w0⟩, turn⟩ := q D (Ia.hok.fresh (Nat.le_of_eq eD))
  generalize es1 : ({ sb with heap := sb.heap.push (noSet X.w) } : Shared) = s1
  have hp1 : s1.heap = sb.heap.push (noSet X.w) := by rw [← es1]
  have I1 : L2.Inv X pins σ (upd Ha D (SetTO X.prog X.w D [])) s1 := by
    rw [← es1]
    refine Ia.laid (t' := sb.toks) (fun b o z => Heap.get?_push_of_some _ z) (Nat.le_of_eq eD) (setTO_new (SetTR.t0 (es := #[]) (ep := 0) (setTR_fresh ?_)))
    rw [← eD]
    exact Heap.get?_push_size _ rfl
  have fpOk : ∀ b ∈ fp, FpOk X pins (upd Ha D (SetTO X.prog X.w D [])) b ∧ b < s1.heap.objs.size := fun b hb => by
    obtain ⟨o, z, _⟩ := T.obj _ _ sta b hb
    have lt := Heap.lt_size z
    refine ⟨⟨?_, (fa b hb).2⟩, by rw [hp1, Heap.size_push]; exact Nat.lt_succ_of_lt lt⟩
    rw [upd_ne (by rw [← eD]; exact Nat.ne_of_lt lt)]
    exact (fa b hb).1
  have st1 : tn 0 s1.heap := T.keep _ _ _ sta fun b _ o z => by
    rw [hp1]
    exact Heap.get?_push_of_some _ z
  have I2 := block_start I1 ok nd fpOk
  have rg := hg s1 (upd Ha D (SetTO X.prog X.w D [])) s1.heap.objs.size (cellsFrom (s1.heap.objs.size + 1) scope.names (cloFrom X.env.cells scope.names [])) fp
  have rt := ht s1 (upd Ha D (SetTO X.prog X.w D [])) s1.heap.objs.size (cellsFrom (s1.heap.objs.size + 1) scope.names (cloFrom X.env.cells scope.names [])) fp
  have re := he s1 (upd Ha D (SetTO X.prog X.w D [])) s1.heap.objs.size (cellsFrom (s1.heap.objs.size + 1) scope.names (cloFrom X.env.cells scope.names [])) fp
  show codeAny _ _ (.compStart (.SetComp elt [⟨tg, iter, ifs, 0⟩] scope pos) 0 (.ref it) (.ref D) (compEnvC scope (cellsFrom (s1.heap.objs.size + 1) scope.names (cloFrom X.env.cells scope.names [])) s1.heap.objs.size X.env))
    (compPost (model X.prog X.w) X.A X.xe none (EP X pins σ Q) (.ref D) s1.heap.objs.size) { s1 with heap := pushCells (s1.heap.push { cls := .type "dict", data := .dict #[] }) scope.names }
  have nofp : ∀ b ∈ fp, (upd Ha D (SetTO X.prog X.w D [])) b = none := fun b hb => (fpOk b hb).1.1
  generalize ece : compEnvC scope (cellsFrom (s1.heap.objs.size + 1) scope.names (cloFrom X.env.cells scope.names [])) s1.heap.objs.size X.env = ce at I2 rg rt re ⊢
  have cL : ce.locals = s1.heap.objs.size := by subst ece; rfl
  generalize eHb : upd Ha D (SetTO X.prog X.w D []) = Hb at I1 I2 rg rt re w0 nofp fpOk
  generalize es2 : ({ s1 with heap := pushCells (s1.heap.push { cls := .type "dict", data := .dict #[] }) scope.names } : Shared) = s2 at I2 ⊢
  have st2 : tn 0 s2.heap := T.keep _ _ _ st1 fun b _ o z => by
    rw [← es2]
    exact pushCells_keeps _ _ _ _ (Heap.get?_push_of_some _ z)
  have fpB : ∀ {σ' : L2.St} {H' : Hp} {s' : Shared}, L2.Inv (X.blk s1 Hb scope ce fp) [] σ' H' s' → (∀ b ∈ fp, H' b = none) → ∀ b ∈ fp, FpOk (X.blk s1 Hb scope ce fp) [] H' b := fun {σ' H' s'} I' hn b hb =>
    ⟨hn b hb, (I'.ok.exf b hb).1, I'.ok.exfs b hb, .inl hb, fun x c z => (I'.ok.exf b hb).2 x c z, fun p hp => absurd (show p ∈ ([] : List (Addr × Obj)) ++ [] from hp) (by simp)⟩
  have loop : codeAny (model X.prog X.w) X.A (.compLoop (.SetComp elt [⟨tg, iter, ifs, 0⟩] scope pos) 0 (.ref it) (.ref D) ce) (compPost (model X.prog X.w) X.A X.xe none (EP X pins σ Q) (.ref D) s1.heap.objs.size) s2 := by
    refine compLoopS_any (fun n z => ∃ i G, L2.Inv (X.blk s1 Hb scope ce fp) [] (wipe σ (own.map (·.2))) G z ∧ tn i z.heap ∧ (∀ b ∈ fp, G b = none) ∧ W i n G) ?_ m0 ⟨0, Hb, I2, st2, nofp, w0⟩
    rintro n s3 ⟨i, G, I3, st3, n3, w3⟩
    rcases turn i n G w3 with ⟨stop, qq⟩ | ⟨go, Nx, hNx, step⟩
    · refine thnF (T.done (X.blk s1 Hb scope ce fp) rfl rfl rfl calm i [] s3 _ G (fun _ _ => False) I3 (fpB I3 n3) st3 stop) fun r s4 ⟨hr, I4⟩ => ?_
      subst hr
      have I5 : L2.Inv X pins σ G s4 := I1.call' (ch := fp) I4.os I4.base I4.hok I4.bare fun b hb => ⟨(fpOk b hb).1.2.2.2.1, (fpOk b hb).1.2.1, (fpOk b hb).1.2.2.2.2.1, (fpOk b hb).1.2.2.2.2.2⟩
      have nC : G s1.heap.objs.size = none := by
        have z : G ce.locals = none := I4.free
        rw [cL] at z
        exact z
      obtain ⟨mm, hn, _⟩ := I4.loc
      have hn' : s4.heap.Ns ce.locals mm := hn
      rw [cL] at hn'
      refine ⟨mm, hn', fun h'' sbt => ?_⟩
      obtain ⟨f0, f1, f2, f3, f4, f5⟩ := I1.fpOk (Nat.le_refl _) nC
      exact ⟨.ref D, G, I5.turned (t' := s4.toks) (fun b o hb z => (sbt.2 b hb).trans z) f0 f1 f3 f4 f5, rfl, qq⟩
    · refine thnF (T.item (X.blk s1 Hb scope ce fp) rfl rfl rfl calm i [] s3 _ G (fun _ _ => False) I3 (fpB I3 n3) st3 go) fun r s4 ⟨u, hr, h4⟩ => ?_
      subst hr
      refine thnF h4 fun _ s5 ⟨x, G1, I5, r5, y5, st5, n5⟩ => ?_
      refine thnF (rg.run _ s5 _ G1 x u _ (I5.pinned (fpB I5 n5) (T.obj _ _ st5)) r5 (step x G1 y5)) fun _ s6 ⟨σ6, G2, I6, hw, q6⟩ => ?_
      refine thnF (rt.run _ s6 σ6 G2 _ I6 q6) fun b s7 ⟨G3, I7, q7⟩ => ?_
      have fin : ∀ {s' : Shared} {G' : Hp}, L2.Inv (X.blk s1 Hb scope ce fp) ([] ++ pinsAt fp s5.heap) σ6 G' s' → Nx G' → ∃ m, m < n ∧ ∃ i G, L2.Inv (X.blk s1 Hb scope ce fp) [] (wipe σ (own.map (·.2))) G s' ∧ tn i s'.heap ∧ (∀ b ∈ fp, G b = none) ∧ W i m G := fun {s' G'} I' nx => by
        obtain ⟨m', hm, w'⟩ := hNx G' nx
        have pn : ∀ b ∈ fp, ∀ o, s5.heap.get? b = some o → s'.heap.get? b = some o ∧ G' b = none := fun b hb o z =>
          let y := I'.pin (b, o) (List.mem_append_right _ (List.mem_append_right _ (mem_pinsAt hb z)))
          ⟨y.1, y.2.1⟩
        refine ⟨m', hm, i + 1, G', (I'.unpinned (pins := [])).weak (by rw [← hw, wipe_length]) (fun j v z => ?_), T.keep _ _ _ st5 fun b hb o z => (pn b hb o z).1, fun b hb => ?_, w'⟩
        · rw [← hw] at z
          exact (wipe_some z).1
        · obtain ⟨o, z, _⟩ := T.obj _ _ st5 b hb
          exact (pn b hb o z).2
      cases b with
      | false =>
        simp only [if_false, Bool.false_eq_true] at q7 ⊢
        exact fin I7 q7
      | true =>
        simp only [if_true] at q7 ⊢
        refine thnF (re.run _ s7 σ6 G3 _ I7 q7) fun z s8 ⟨yv, G4, I8, r8, t, k, L, ey, htk, hD, hL, few, nx⟩ => ?_
        subst ey
        cases (show z = Value.ref t from r8)
        exact put_tup (X := X.blk s1 Hb scope ce fp) I8 hD hL htk few hu fun L' s9 c1 c2 I9 => fin I9 (nx L' c1 c2)
  exact codeAny_compStart_set loop (T.self X.A 0 _ _ _ st2 loop)
end
end Pm
namespace Pm
open PySem PySem.Spec PyProof.Rows L2 PpSet SrtO
/-! ### sorted of a set of pairs -/
def pr (l : List Int) : Int × Int := (l.getD 0 0, l.getD 1 0)
section
variable {P : Program} {w : World} {A : Around} {E : Value → Shared → Prop} {s : Shared}
theorem pair_of {h : Heap} {b : Addr} {k : List Int} (x : L2.IsT P w h k b) (hl : k.length = 2) : Srt.IsPair h (.ref b) (pr k).1 (pr k).2 := by
  obtain ⟨a, xs, e, ⟨o, ho, hc, n, hd⟩, i⟩ := tupInts_of x
  injection e with e
  subst e
  obtain ⟨u, v, rfl⟩ : ∃ u v, k = [u, v] := match k, hl with | [u, v], _ => ⟨u, v, rfl⟩
  generalize exs : xs.toList = l at i
  cases i with
  | cons _ t1 i =>
    cases i with
    | cons _ t2 i =>
      cases i
      have ex : xs = #[Value.int u t1, Value.int v t2] := by
        rw [← Array.toArray_toList (xs := xs), exs]
      subst ex
      exact ⟨_, o, _, _, n, rfl, ho, hc, hd⟩
variable {a : Addr} {L : List (Addr × List Int)}
theorem sorted_setP {Q : Value → Shared → Prop} (R : Full P w s.heap a L) (tp : ∀ p ∈ L, L2.IsT P w s.heap p.2 p.1) (hh : A.handled = none) (two : ∀ p ∈ L, p.2.length = 2)
    (go : ∀ s' p (out : Array Value) (c : Nat) (M : List (Addr × List Int)), (∀ b o, s.heap.get? b = some o → s'.heap.get? b = some o) → s'.gens = s.gens → s'.os = s.os → s.heap.objs.size ≤ p → s'.heap.get? p = some (seqObj "list" out c) →
      out.toList = M.map (fun q => Value.ref q.1) → M.Perm L → M.Pairwise (fun q r => lexB (pr r.2) (pr q.2) = false) → Q (.ref p) s') :
    wpAny (model P w) A (call (.builtin "sorted") [.ref a]) Q E s := by
  obtain ⟨es, ep, t, o, ⟨ho, hcl, hd⟩, rows, ft, ris, led⟩ := R.at_
  have few := R.len
  have sz : es.size = L.length := by
    have z := congrArg List.length rows
    rw [List.length_map, List.length_map, Array.length_toList] at z
    exact z
  refine Calls.call_function_entry kind_sorted plain_sorted entry_sorted (args_sorted1 _) ?_
  unfold Builtin.«sorted»
  refine wpAny_bind (m := checkCount "sorted" 1 1 _) (wpAny_pure (wpAny_bind ?_))
  refine collect_set (A := A.in1) hh ⟨o, ho, hcl, hd⟩ ft (by unfold scanBound; omega) ris led.symm fun s1 vs k1 hz g1 o1 pm => ?_
  rw [rows] at pm
  have lv : vs.length ≤ 64 := by
    rw [pm.length_eq, List.length_map]
    exact few
  refine wpAny_bind (wpAny_newList ?_ (by rw [sizeLine_eq]; omega))
  have hoL : (s1.heap.push (seqObj "list" vs.toArray 0)).get? s1.heap.objs.size = some (seqObj "list" vs.toArray 0) := Heap.get?_push_size _ rfl
  have tk : ∀ q ∈ L, L2.IsT P w (s1.heap.push (seqObj "list" vs.toArray 0)) q.2 q.1 := fun q hq => isT_keep (tp q hq) fun b u e => Heap.get?_push_of_some _ (k1 b u e)
  generalize eh : s1.heap.push (seqObj "list" vs.toArray 0) = h1 at hoL tk
  have fromL : ∀ v ∈ vs, ∃ q ∈ L, v = Value.ref q.1 := fun v hv => by
    obtain ⟨q, hq, e⟩ := List.mem_map.mp (pm.mem_iff.mp hv)
    exact ⟨q, hq, e.symm⟩
  have isP : ∀ v ∈ vs, Srt.IsPair h1 v (pr (TS.intsOf h1 v)).1 (pr (TS.intsOf h1 v)).2 := fun v hv => by
    obtain ⟨q, hq, e⟩ := fromL v hv
    rw [e, (tupInts_of (tk q hq)).ints]
    exact pair_of (tk q hq) (two q hq)
  refine wpAny_bind (wpAny_holding (wpAny_call_entry slot_list_sort ⟨_, hoL, rfl⟩ entry_list_sort (list_sort_ord (s := { s1 with heap := h1 }) (swo_lex fun v => pr (TS.intsOf h1 v)) hoL (by rw [sizeLine_eq]; omega)
    (fun h2 => pairs_sortableO (by omega) isP fun o e => ?_) fun out hs hb => ⟨_, rfl, ?_⟩) (args_list_sort _)))
  · have e' : some o = some (seqObj "list" vs.toArray 0) := e.symm.trans hoL
    cases e'
    intro c
    exact absurd (Value.type.inj c) (by decide)
  · -- the rows behind the values
    have pick : ∀ us : List Value, (∀ v ∈ us, ∃ q ∈ L, v = Value.ref q.1) → ∃ M : List (Addr × List Int), us = M.map (fun q => Value.ref q.1) ∧ ∀ q ∈ M, q ∈ L := by
      intro us
      induction us with
      | nil => exact fun _ => ⟨[], rfl, fun q hq => nomatch hq⟩
      | cons v us ih =>
        intro hv
        obtain ⟨q, hq, e⟩ := hv v List.mem_cons_self
        obtain ⟨M, e1, hM⟩ := ih fun u hu => hv u (List.mem_cons_of_mem _ hu)
        exact ⟨q :: M, by rw [e, e1, List.map_cons], fun r hr => (List.mem_cons.mp hr).elim (fun z => z ▸ hq) (hM r)⟩
    have same : ∀ q ∈ L, ∀ r ∈ L, q.1 = r.1 → q = r := fun q hq r hr e => by
      have a1 := tp q hq
      rw [e] at a1
      exact Prod.ext e (a1.inj (tp r hr))
    obtain ⟨M, eM, hM⟩ := pick out fun v hv => fromL v (hb.perm.mem_iff.mp hv)
    have pmM : (M.map fun q => Value.ref q.1).Perm (L.map fun q => Value.ref q.1) := by
      rw [← eM]
      exact hb.perm.trans pm
    have nL : L.Nodup := nodup_of_map R.nd
    have nR : (L.map fun q => Value.ref q.1).Nodup := List.pairwise_map.mpr (List.Pairwise.imp_of_mem (fun {q r} hq hr hne e => by
      injection e with e
      exact hne (same q hq r hr e)) nL)
    have nM : M.Nodup := nodup_of_map (pmM.nodup_iff.mpr nR)
    have pL : M.Perm L := (List.perm_ext_iff_of_nodup nM nL).mpr fun q => ⟨hM q, fun hq => by
      obtain ⟨r, hr, e⟩ := List.mem_map.mp (pmM.mem_iff.mpr (List.mem_map.mpr ⟨q, hq, rfl⟩))
      injection e with e
      rw [← same r (hM r hr) q hq e]
      exact hr⟩
    have pw : M.Pairwise (fun q r => lexB (pr r.2) (pr q.2) = false) := by
      have z : List.Pairwise (fun x y => lexB (pr (TS.intsOf h1 y)) (pr (TS.intsOf h1 x)) = false) out := hs
      rw [eM] at z
      refine List.Pairwise.imp_of_mem (fun {q r} hq hr c => ?_) (List.pairwise_map.mp z)
      rw [(tupInts_of (tk q (hM q hq))).ints, (tupInts_of (tk r (hM r hr))).ints] at c
      exact c
    obtain ⟨c, hc⟩ := sortedHeap_at (vs := vs) (out := out.toArray) hoL
    refine wpAny_pure ⟨_, rfl, go _ s1.heap.objs.size out.toArray c M (fun b u e => ?_) g1 o1 hz hc (by rw [List.toList_toArray]; exact eM) pL pw⟩
    have q := k1 b u e
    have lt := Heap.lt_size q
    show (sortedHeap h1 s1.heap.objs.size vs out.toArray).get? b = some u
    have sz1 : h1.objs.size = s1.heap.objs.size + 1 := by rw [← eh, size_push']
    rw [sortedHeap_old (Nat.ne_of_lt lt) (by rw [sz1]; exact Nat.lt_succ_of_lt lt), ← eh]
    exact Heap.get?_push_of_some _ q
end
/-- sorted(set) of pairs: a new list, ascending by the first int, then by the second -/
def rSortedSP (K : PySem.W.Frag) (P : Program) (w : World) : List V → Hp → VK → Prop := fun vs H Q => ∃ (a : Addr) (L : List (Addr × List Int)), vs = [V.ref a] ∧ (H a = some (SetTO P w a L) ∨ H a = some (FullO P w a L)) ∧ (∀ p ∈ L, SqT K H p.1 (p.2.map V.int) ∧ p.2.length = 2) ∧
  ∀ (M : List (Addr × List Int)) (p : Addr), M.Perm L → (M.map (·.2)).Nodup → M.Pairwise (fun q r => lexB (pr r.2) (pr q.2) = false) → H p = none → Q (.ref p) (upd H p (.lst (M.map fun q => V.ref q.1)))
theorem cr_sortedSP {X : Cx} (calm : X.calm = true) : CallR X (.builtin "sorted") (rSortedSP X.K X.prog X.w) := by
  intro pins s σ H vs us Q I r h
  obtain ⟨a, L, rfl, ha, hk, q⟩ := h
  have tp : ∀ p ∈ L, L2.IsT X.prog X.w s.heap p.2 p.1 := fun p hp => I.isT (hk p hp).1
  have R : Full X.prog X.w s.heap a L := ha.elim (fun z => full_of (I.hok a _ z).1 tp) fun z => (I.hok a _ z).1
  rw [Vals.ref1 r]
  refine sorted_setP R tp (I.ok.hd calm) (fun p hp => (hk p hp).2) fun s' p out c M kp g o hp hg hout pm pw => ?_
  have lM : (M.map fun q => V.ref q.1).length ≤ sizeLine := by
    have := R.len
    rw [List.length_map, sizeLine_eq, pm.length_eq]
    omega
  have hn : H p = none := I.hok.fresh hp
  have hv : Vals (M.map fun q => V.ref q.1) out.toList := by
    rw [hout]
    exact vals_of_refs M
  have J : L2.Inv X pins σ (upd H p (.lst (M.map fun q => V.ref q.1))) { s with heap := s'.heap, gens := s'.gens, drawn := s'.drawn, toks := s'.toks } :=
    I.call (ch := []) (Un.laid kp hp hn) (I.hok.laid kp hp ⟨lM, out.toList, c, hv, hg⟩) (by rw [g]; exact I.bare) (fun _ z => nomatch z)
  have e : s' = { s with heap := s'.heap, gens := s'.gens, drawn := s'.drawn, toks := s'.toks } := by
    cases s'
    cases s
    cases o
    rfl
  rw [e]
  exact ⟨.ref p, _, J, rfl, q M p pm ((pm.map (·.2)).nodup_iff.mpr R.nd) pw hn⟩
end Pm
namespace Pm
open PySem PySem.Spec PyProof.Rows L2 PpSet
/-! ### dict comprehensions whose keys are tuples -/
abbrev noDict : Obj := { cls := .type "dict", data := .dict #[] }
section
variable {X : Cx} {pins : List (Addr × Obj)} {σ : L2.St} {H : Hp} {s : Shared}
/-- D[t] = v by a comprehension, t a tuple -/
theorem put_dt {E : Value → Shared → Prop} {D t : Addr} {k : List L2.Key} {kvs : List (List L2.Key × V)} {v : V} {r : Value} {Q : Unit → Shared → Prop} (J : Inv X pins σ H s) (hD : H D = some (.dT kvs)) (ht : H t = some (.tup (k.map kV)))
    (few : kvs.length < sizeLine) (hu : X.A.units + 1 < cLine) (rv : RelV v r) (go : ∀ s', Inv X pins σ (upd H D (.dT (putK kvs k v))) s' → Q () s') :
    wpAny (model X.prog X.w) X.A (dictSet D (.ref t) r) Q E s := by
  obtain ⟨z, hd, xs, rel, dd⟩ := dt_of J.hok hD
  have lk : (putK kvs k v).length ≤ sizeLine := by
    have := length_putK kvs k v
    omega
  refine wpAny_dictSet_heap (hsz := by rw [← Paired.length rel]; exact z) (show X.A.units < cLine by omega) (key_of J.hok ht) dd fun h' dd' sb => go _ ?_
  obtain ⟨q, es, ep, hq, h2, h3, h4, _, h5⟩ := dd'
  refine d_write J (by rw [hD]; trivial) sb ⟨q, hq⟩ ⟨lk, hd, _, (rel.put k ht rv).keeps fun c ys ec => ?_, q, es, ep, hq, h2, h3, h4, h5⟩
  rw [upd_ne (ne_of ec hD (fun y => nomatch y))]
  exact ec
/-- {k: v for target in iter}, k a tuple: D the new dict -/
def tDct (walk : TI) (g : TG) (tt : TT) (tk te : TE) (vs : List Nat) : TE := fun σ H Q => walk σ H fun J H1 => ∀ D, H1 D = none →
  ∃ W : Nat → Nat → Hp → Prop, (∃ m, W 0 m (upd H1 D (.dT []))) ∧ ∀ i m G, W i m G →
    (J.stop i G ∧ Q (.ref D) G) ∨ (J.go i G ∧ ∃ Nx : Hp → Prop, (∀ G', Nx G' → ∃ m', m' < m ∧ W (i + 1) m' G') ∧
      ∀ x G1, J.yld i G x G1 → g x (wipe σ vs) G1 fun σ2 G2 => wipe σ2 vs = wipe σ vs ∧ tt σ2 G2 fun b G3 => if b = true then tk σ2 G3 fun y G4 => te σ2 G4 fun v G5 =>
        ∃ (t : Addr) (k : List L2.Key) (kvs : List (List L2.Key × V)), y = .ref t ∧ G5 t = some (.tup (k.map kV)) ∧ G5 D = some (.dT kvs) ∧ kvs.length < sizeLine ∧ Nx (upd G5 D (.dT (putK kvs k v))) else Nx G3)
theorem pe_dct {kx vx tg iter : Expr} {ifs : List Expr} {scope : Scope} {own : List (PySem.Str × Nat)} {pos : Pos} {walk : TI} {g : TG} {tt : TT} {tk te : TE} (calm : X.calm = true) (hu : X.A.units + 1 < cLine) (nd : X.N.Nodup) (hi : PI X tg iter walk)
    (ok : BlkOk X.N X.env.scope scope own)
    (hg : ∀ (s0 : Shared) (H0 : Hp) (C : Addr) (cl : List (PySem.Str × Addr)) (fp : List Addr), PG (X.blk s0 H0 scope (compEnvC scope cl C X.env) fp) tg g)
    (ht : ∀ (s0 : Shared) (H0 : Hp) (C : Addr) (cl : List (PySem.Str × Addr)) (fp : List Addr), PTs (X.blk s0 H0 scope (compEnvC scope cl C X.env) fp) ifs tt)
    (hk : ∀ (s0 : Shared) (H0 : Hp) (C : Addr) (cl : List (PySem.Str × Addr)) (fp : List Addr), PE (X.blk s0 H0 scope (compEnvC scope cl C X.env) fp) kx tk)
    (he : ∀ (s0 : Shared) (H0 : Hp) (C : Addr) (cl : List (PySem.Str × Addr)) (fp : List Addr), PE (X.blk s0 H0 scope (compEnvC scope cl C X.env) fp) vx te)
    (plain : ∀ x, foldedSetIterable iter X.env x = pure x := by intro _; rfl) :
    PE X (.DictComp kx vx [⟨tg, iter, ifs, 0⟩] scope pos) (tDct walk g tt tk te (own.map (·.2))) := by
  refine ⟨fun pins s σ H Q J0 h => ?_⟩
  rw [arm_eval_DictComp]
  have frees : ∀ y ∈ scope.names, y.2 = .free → ∃ c, X.env.cells.lookup y.1 = some c := fun y hy e => (ok.free y hy e).elim (fun z => J0.ok.has _ (.inl z)) fun z => J0.ok.has _ (.inr z)
  refine wpAny_comprehension_free rfl plain (closure_ok frees) ok.kind (fun y hy e => by rw [ok.uniq y hy, e]) (thn (hi.run pins s σ H _ J0 h) fun xv sa hx => thn hx fun itv sb h2 => ?_)
  obtain ⟨it, fp, tn, J, Ha, e, Ia, T, sta, fa, q⟩ := h2
  subst e
  refine wpAny_newObj_type (newEnv_comp ?_)
  generalize eD : sb.heap.objs.size = D
  obtain ⟨W, ⟨m0, w0⟩, turn⟩ := q D (Ia.hok.fresh (Nat.le_of_eq eD))
  generalize es1 : ({ sb with heap := sb.heap.push (noDict) } : Shared) = s1
  have hp1 : s1.heap = sb.heap.push (noDict) := by rw [← es1]
  have I1 : L2.Inv X pins σ (upd Ha D (.dT [])) s1 := by
    rw [← es1]
    refine Ia.laid (t' := sb.toks) (fun b o z => Heap.get?_push_of_some _ z) (Nat.le_of_eq eD) ?_
    rw [← eD]
    exact dt_empty sb.heap Ia.big
  have fpOk : ∀ b ∈ fp, FpOk X pins (upd Ha D (.dT [])) b ∧ b < s1.heap.objs.size := fun b hb => by
    obtain ⟨o, z, _⟩ := T.obj _ _ sta b hb
    have lt := Heap.lt_size z
    refine ⟨⟨?_, (fa b hb).2⟩, by rw [hp1, Heap.size_push]; exact Nat.lt_succ_of_lt lt⟩
    rw [upd_ne (by rw [← eD]; exact Nat.ne_of_lt lt)]
    exact (fa b hb).1
  have st1 : tn 0 s1.heap := T.keep _ _ _ sta fun b _ o z => by
    rw [hp1]
    exact Heap.get?_push_of_some _ z
  have I2 := block_start I1 ok nd fpOk
  have rg := hg s1 (upd Ha D (.dT [])) s1.heap.objs.size (cellsFrom (s1.heap.objs.size + 1) scope.names (cloFrom X.env.cells scope.names [])) fp
  have rt := ht s1 (upd Ha D (.dT [])) s1.heap.objs.size (cellsFrom (s1.heap.objs.size + 1) scope.names (cloFrom X.env.cells scope.names [])) fp
  have rk := hk s1 (upd Ha D (.dT [])) s1.heap.objs.size (cellsFrom (s1.heap.objs.size + 1) scope.names (cloFrom X.env.cells scope.names [])) fp
  have re := he s1 (upd Ha D (.dT [])) s1.heap.objs.size (cellsFrom (s1.heap.objs.size + 1) scope.names (cloFrom X.env.cells scope.names [])) fp
  show codeAny _ _ (.compStart (.DictComp kx vx [⟨tg, iter, ifs, 0⟩] scope pos) 0 (.ref it) (.ref D) (compEnvC scope (cellsFrom (s1.heap.objs.size + 1) scope.names (cloFrom X.env.cells scope.names [])) s1.heap.objs.size X.env))
    (compPost (model X.prog X.w) X.A X.xe none (EP X pins σ Q) (.ref D) s1.heap.objs.size) { s1 with heap := pushCells (s1.heap.push { cls := .type "dict", data := .dict #[] }) scope.names }
  have nofp : ∀ b ∈ fp, (upd Ha D (.dT [])) b = none := fun b hb => (fpOk b hb).1.1
  generalize ece : compEnvC scope (cellsFrom (s1.heap.objs.size + 1) scope.names (cloFrom X.env.cells scope.names [])) s1.heap.objs.size X.env = ce at I2 rg rt rk re ⊢
  have cL : ce.locals = s1.heap.objs.size := by subst ece; rfl
  generalize eHb : upd Ha D (.dT []) = Hb at I1 I2 rg rt rk re w0 nofp fpOk
  generalize es2 : ({ s1 with heap := pushCells (s1.heap.push { cls := .type "dict", data := .dict #[] }) scope.names } : Shared) = s2 at I2 ⊢
  have st2 : tn 0 s2.heap := T.keep _ _ _ st1 fun b _ o z => by
    rw [← es2]
    exact pushCells_keeps _ _ _ _ (Heap.get?_push_of_some _ z)
  have fpB : ∀ {σ' : L2.St} {H' : Hp} {s' : Shared}, L2.Inv (X.blk s1 Hb scope ce fp) [] σ' H' s' → (∀ b ∈ fp, H' b = none) → ∀ b ∈ fp, FpOk (X.blk s1 Hb scope ce fp) [] H' b := fun {σ' H' s'} I' hn b hb =>
    ⟨hn b hb, (I'.ok.exf b hb).1, I'.ok.exfs b hb, .inl hb, fun x c z => (I'.ok.exf b hb).2 x c z, fun p hp => absurd (show p ∈ ([] : List (Addr × Obj)) ++ [] from hp) (by simp)⟩
  have loop : codeAny (model X.prog X.w) X.A (.compLoop (.DictComp kx vx [⟨tg, iter, ifs, 0⟩] scope pos) 0 (.ref it) (.ref D) ce) (compPost (model X.prog X.w) X.A X.xe none (EP X pins σ Q) (.ref D) s1.heap.objs.size) s2 := by
    refine compLoop_anyD (fun n z => ∃ i G, L2.Inv (X.blk s1 Hb scope ce fp) [] (wipe σ (own.map (·.2))) G z ∧ tn i z.heap ∧ (∀ b ∈ fp, G b = none) ∧ W i n G) ?_ m0 ⟨0, Hb, I2, st2, nofp, w0⟩
    rintro n s3 ⟨i, G, I3, st3, n3, w3⟩
    rcases turn i n G w3 with ⟨stop, qq⟩ | ⟨go, Nx, hNx, step⟩
    · refine thnF (T.done (X.blk s1 Hb scope ce fp) rfl rfl rfl calm i [] s3 _ G (fun _ _ => False) I3 (fpB I3 n3) st3 stop) fun r s4 ⟨hr, I4⟩ => ?_
      subst hr
      have I5 : L2.Inv X pins σ G s4 := I1.call' (ch := fp) I4.os I4.base I4.hok I4.bare fun b hb => ⟨(fpOk b hb).1.2.2.2.1, (fpOk b hb).1.2.1, (fpOk b hb).1.2.2.2.2.1, (fpOk b hb).1.2.2.2.2.2⟩
      have nC : G s1.heap.objs.size = none := by
        have z : G ce.locals = none := I4.free
        rw [cL] at z
        exact z
      obtain ⟨mm, hn, _⟩ := I4.loc
      have hn' : s4.heap.Ns ce.locals mm := hn
      rw [cL] at hn'
      refine ⟨mm, hn', fun h'' sbt => ?_⟩
      obtain ⟨f0, f1, f2, f3, f4, f5⟩ := I1.fpOk (Nat.le_refl _) nC
      exact ⟨.ref D, G, I5.turned (t' := s4.toks) (fun b o hb z => (sbt.2 b hb).trans z) f0 f1 f3 f4 f5, rfl, qq⟩
    · refine thnF (T.item (X.blk s1 Hb scope ce fp) rfl rfl rfl calm i [] s3 _ G (fun _ _ => False) I3 (fpB I3 n3) st3 go) fun r s4 ⟨u, hr, h4⟩ => ?_
      subst hr
      refine thnF h4 fun _ s5 ⟨x, G1, I5, r5, y5, st5, n5⟩ => ?_
      refine thnF (rg.run _ s5 _ G1 x u _ (I5.pinned (fpB I5 n5) (T.obj _ _ st5)) r5 (step x G1 y5)) fun _ s6 ⟨σ6, G2, I6, hw, q6⟩ => ?_
      refine thnF (rt.run _ s6 σ6 G2 _ I6 q6) fun b s7 ⟨G3, I7, q7⟩ => ?_
      have fin : ∀ {s' : Shared} {G' : Hp}, L2.Inv (X.blk s1 Hb scope ce fp) ([] ++ pinsAt fp s5.heap) σ6 G' s' → Nx G' → ∃ m, m < n ∧ ∃ i G, L2.Inv (X.blk s1 Hb scope ce fp) [] (wipe σ (own.map (·.2))) G s' ∧ tn i s'.heap ∧ (∀ b ∈ fp, G b = none) ∧ W i m G := fun {s' G'} I' nx => by
        obtain ⟨m', hm, w'⟩ := hNx G' nx
        have pn : ∀ b ∈ fp, ∀ o, s5.heap.get? b = some o → s'.heap.get? b = some o ∧ G' b = none := fun b hb o z =>
          let y := I'.pin (b, o) (List.mem_append_right _ (List.mem_append_right _ (mem_pinsAt hb z)))
          ⟨y.1, y.2.1⟩
        refine ⟨m', hm, i + 1, G', (I'.unpinned (pins := [])).weak (by rw [← hw, wipe_length]) (fun j v z => ?_), T.keep _ _ _ st5 fun b hb o z => (pn b hb o z).1, fun b hb => ?_, w'⟩
        · rw [← hw] at z
          exact (wipe_some z).1
        · obtain ⟨o, z, _⟩ := T.obj _ _ st5 b hb
          exact (pn b hb o z).2
      cases b with
      | false =>
        simp only [if_false, Bool.false_eq_true] at q7 ⊢
        exact fin I7 q7
      | true =>
        simp only [if_true] at q7 ⊢
        refine thnF (rk.run _ s7 σ6 G3 _ I7 q7) fun z s8 ⟨yk, G4, I8, r8, q8⟩ => ?_
        refine thnF (re.run _ s8 σ6 G4 _ I8 q8) fun z2 s9 ⟨yv, G5, I9, r9, t, k, kvs, ey, htk, hD, few, nx⟩ => ?_
        subst ey
        cases (show z = Value.ref t from r8)
        exact put_dt (X := X.blk s1 Hb scope ce fp) I9 hD htk few hu r9 fun s10 J10 => fin J10 nx
  exact codeAny_compStart_dict loop (T.self X.A 0 _ _ _ st2 loop)
end
end Pm
namespace Pm
open PySem L2 SrtO
/-! ### reading order -/
abbrev Cell := Int × Int
/-- c stands before d in reading order -/
def bef (c d : Cell) : Prop := c.2 < d.2 ∨ (c.2 = d.2 ∧ c.1 < d.1)
theorem bef_irr (c : Cell) : ¬ bef c c := fun h => by
  unfold bef at h
  omega
theorem bef_tr {a b c : Cell} (h : bef a b) (k : bef b c) : bef a c := by
  unfold bef at *
  omega
theorem bef_tot {a b : Cell} (h : a ≠ b) : bef a b ∨ bef b a := by
  unfold bef
  obtain ⟨x, y⟩ := a
  obtain ⟨u, v⟩ := b
  by_cases e : y = v
  · by_cases e2 : x = u
    · exact absurd (by rw [e, e2]) h
    · show (y < v ∨ y = v ∧ x < u) ∨ (v < y ∨ v = y ∧ u < x)
      omega
  · show (y < v ∨ y = v ∧ x < u) ∨ (v < y ∨ v = y ∧ u < x)
    omega
/-- M: the cells of cs, each once, in reading order -/
structure Reading (cs M : List Cell) : Prop where
  asc : M.Pairwise bef
  mem : ∀ c, c ∈ M ↔ c ∈ cs
theorem asc_uniq : ∀ {M N : List Cell}, M.Pairwise bef → N.Pairwise bef → (∀ c, c ∈ M ↔ c ∈ N) → M = N
  | [], [], _, _, _ => rfl
  | [], c :: N, _, _, h => absurd ((h c).mpr List.mem_cons_self) (by simp)
  | c :: M, [], _, _, h => absurd ((h c).mp List.mem_cons_self) (by simp)
  | c :: M, d :: N, hM, hN, h => by
    obtain ⟨m1, m2⟩ := List.pairwise_cons.mp hM
    obtain ⟨n1, n2⟩ := List.pairwise_cons.mp hN
    have e : c = d := by
      rcases List.mem_cons.mp ((h c).mp List.mem_cons_self) with z | z
      · exact z
      · rcases List.mem_cons.mp ((h d).mpr List.mem_cons_self) with y | y
        · exact y.symm
        · exact absurd (bef_tr (n1 c z) (m1 d y)) (bef_irr d)
    subst e
    have r : M = N := asc_uniq m2 n2 fun x => by
      constructor
      · intro hx
        rcases List.mem_cons.mp ((h x).mp (List.mem_cons_of_mem _ hx)) with z | z
        · subst z
          exact absurd (m1 x hx) (bef_irr x)
        · exact z
      · intro hx
        rcases List.mem_cons.mp ((h x).mpr (List.mem_cons_of_mem _ hx)) with z | z
        · subst z
          exact absurd (n1 x hx) (bef_irr x)
        · exact z
    rw [r]
theorem Reading.uniq {cs ds M N : List Cell} (h : Reading cs M) (k : Reading ds N) (e : ∀ c, c ∈ cs ↔ c ∈ ds) : M = N := asc_uniq h.asc k.asc fun c => (h.mem c).trans ((e c).trans (k.mem c).symm)
theorem Reading.nodup {cs M : List Cell} (h : Reading cs M) : M.Nodup := List.Pairwise.imp (fun {a b} (hb : bef a b) => show a ≠ b from fun e => bef_irr b (by rw [e] at hb; exact hb)) h.asc
/-- flipped pairs, ascending and different, are cells in reading order -/
theorem flip_asc : ∀ {l : List (Int × Int)}, l.Nodup → l.Pairwise (fun p q => lexB q p = false) → (l.map fun p => ((p.2, p.1) : Cell)).Pairwise bef
  | [], _, _ => List.Pairwise.nil
  | p :: l, hn, hp => by
    obtain ⟨n1, n2⟩ := List.nodup_cons.mp hn
    obtain ⟨p1, p2⟩ := List.pairwise_cons.mp hp
    rw [List.map_cons]
    refine List.pairwise_cons.mpr ⟨fun c hc => ?_, flip_asc n2 p2⟩
    obtain ⟨q, hq, rfl⟩ := List.mem_map.mp hc
    have h1 := lexB_no.mp (p1 q hq)
    have ne : p ≠ q := fun e => n1 (by rw [e]; exact hq)
    obtain ⟨a, b⟩ := p
    obtain ⟨u, v⟩ := q
    show a < u ∨ (a = u ∧ b < v)
    simp only at h1
    by_cases e : a = u
    · by_cases e2 : b = v
      · exact absurd (by rw [e, e2]) ne
      · omega
    · omega
/-! ### dicts of cells -/
def keyC (c : Cell) : List L2.Key := [.inl c.1, .inl c.2]
def memO (M : List Cell) : HO := .dT (M.map fun c => (keyC c, V.bl true))
theorem keyC_inj {c d : Cell} (h : keyC c = keyC d) : c = d := by
  obtain ⟨x, y⟩ := c
  obtain ⟨u, v⟩ := d
  injection h with h1 h2
  injection h2 with h2 _
  injection h1 with h1
  injection h2 with h2
  exact Prod.ext h1 h2
theorem keyC_kV (c : Cell) : (keyC c).map kV = [.int c.1, .int c.2] := rfl
theorem put_new {M : List Cell} {c : Cell} (h : c ∉ M) : putK (M.map fun c => (keyC c, V.bl true)) (keyC c) (V.bl true) = (M ++ [c]).map fun c => (keyC c, V.bl true) := by
  unfold putK
  have e : ((M.map fun c => (keyC c, V.bl true)).any fun kv => decide (kv.1 = keyC c)) = false := by
    rw [List.any_eq_false]
    intro p hp
    obtain ⟨d, hd, rfl⟩ := List.mem_map.mp hp
    intro z
    exact h (by rw [← keyC_inj (of_decide_eq_true z)]; exact hd)
  rw [e]
  simp
theorem val_mem (M : List Cell) (c : Cell) : (valV (M.map fun c => (keyC c, V.bl true)) (keyC c)).isSome = decide (c ∈ M) := by
  unfold valV
  rw [Option.isSome_map]
  by_cases h : c ∈ M
  · rw [decide_eq_true h, List.find?_isSome]
    exact ⟨(keyC c, V.bl true), List.mem_map.mpr ⟨c, h, rfl⟩, decide_eq_true rfl⟩
  · rw [decide_eq_false h]
    have z : ((M.map fun c => (keyC c, V.bl true)).find? fun kv => decide (kv.1 = keyC c)) = none := by
      rw [List.find?_eq_none]
      intro p hp
      obtain ⟨d, hd, rfl⟩ := List.mem_map.mp hp
      intro y
      exact h (by rw [← keyC_inj (of_decide_eq_true y)]; exact hd)
    rw [z]
    rfl
end Pm
namespace Pm
open PySem PySem.Spec PyProof.Rows L2 PpSet
/-! ### comprehensions over a list -/
theorem sct_list {P : Program} {w : World} {K : PySem.W.Frag} {a : Addr} {xs : List V} {g : TG} {tt : TT} {te : TE} {vs : List Nat} {σ : L2.St} {H1 : Hp} {D : Addr} {Qd : Hp → Prop} (Pv : Nat → Hp → Prop)
    (h0 : Pv 0 (upd H1 D (SetTO P w D []))) (hl : ∀ i H, i ≤ xs.length → Pv i H → SqL K H a xs)
    (hs : ∀ i x H, xs[i]? = some x → Pv i H → g x (wipe σ vs) H fun σ2 G2 => wipe σ2 vs = wipe σ vs ∧ tt σ2 G2 fun b G3 => if b = true then te σ2 G3 fun y G4 =>
        ∃ (t : Addr) (k : List Int) (L : List (Addr × List Int)), y = .ref t ∧ SqT K G4 t (k.map V.int) ∧ G4 D = some (SetTO P w D L) ∧ (∀ p ∈ L, SqT K G4 p.1 (p.2.map V.int)) ∧ L.length < 64 ∧
          ∀ L', (k ∈ L.map (·.2) → L' = L) → (k ∉ L.map (·.2) → L'.Perm ((t, k) :: L)) → Pv (i + 1) (upd G4 D (SetQ P w D L')) else Pv (i + 1) G3)
    (hd : ∀ H, Pv xs.length H → Qd H) :
    ∃ W : Nat → Nat → Hp → Prop, (∃ m, W 0 m (upd H1 D (SetTO P w D []))) ∧ ∀ i m G, W i m G →
      ((Itl K a).stop i G ∧ Qd G) ∨ ((Itl K a).go i G ∧ ∃ Nx : Hp → Prop, (∀ G', Nx G' → ∃ m', m' < m ∧ W (i + 1) m' G') ∧
        ∀ x G1, (Itl K a).yld i G x G1 → g x (wipe σ vs) G1 fun σ2 G2 => wipe σ2 vs = wipe σ vs ∧ tt σ2 G2 fun b G3 => if b = true then te σ2 G3 fun y G4 =>
          ∃ (t : Addr) (k : List Int) (L : List (Addr × List Int)), y = .ref t ∧ SqT K G4 t (k.map V.int) ∧ G4 D = some (SetTO P w D L) ∧ (∀ p ∈ L, SqT K G4 p.1 (p.2.map V.int)) ∧ L.length < 64 ∧
            ∀ L', (k ∈ L.map (·.2) → L' = L) → (k ∉ L.map (·.2) → L'.Perm ((t, k) :: L)) → Nx (upd G4 D (SetQ P w D L')) else Nx G3) := by
  refine ⟨fun i m G => m = xs.length - i ∧ i ≤ xs.length ∧ Pv i G, ⟨xs.length, Nat.sub_zero _ |>.symm, Nat.zero_le _, h0⟩, ?_⟩
  rintro i m G ⟨rfl, hi, p⟩
  have q := hl i G hi p
  rcases Nat.lt_or_ge i xs.length with lt | ge
  · refine .inr ⟨⟨xs, xs[i], q, List.getElem?_eq_getElem lt⟩, Pv (i + 1), fun G' p' => ⟨xs.length - (i + 1), by omega, rfl, lt, p'⟩, fun x G1 y => ?_⟩
    obtain ⟨rfl, y⟩ := y
    exact hs i x _ (y xs q) p
  · obtain rfl : i = xs.length := by omega
    exact .inl ⟨⟨xs, q, Nat.le_refl _⟩, hd G p⟩
theorem dct_list {K : PySem.W.Frag} {a : Addr} {xs : List V} {g : TG} {tt : TT} {tk te : TE} {vs : List Nat} {σ : L2.St} {H1 : Hp} {D : Addr} {Qd : Hp → Prop} (Pv : Nat → Hp → Prop)
    (h0 : Pv 0 (upd H1 D (.dT []))) (hl : ∀ i H, i ≤ xs.length → Pv i H → SqL K H a xs)
    (hs : ∀ i x H, xs[i]? = some x → Pv i H → g x (wipe σ vs) H fun σ2 G2 => wipe σ2 vs = wipe σ vs ∧ tt σ2 G2 fun b G3 => if b = true then tk σ2 G3 fun y G4 => te σ2 G4 fun v G5 =>
        ∃ (t : Addr) (k : List L2.Key) (kvs : List (List L2.Key × V)), y = .ref t ∧ G5 t = some (.tup (k.map kV)) ∧ G5 D = some (.dT kvs) ∧ kvs.length < sizeLine ∧ Pv (i + 1) (upd G5 D (.dT (putK kvs k v))) else Pv (i + 1) G3)
    (hd : ∀ H, Pv xs.length H → Qd H) :
    ∃ W : Nat → Nat → Hp → Prop, (∃ m, W 0 m (upd H1 D (.dT []))) ∧ ∀ i m G, W i m G →
      ((Itl K a).stop i G ∧ Qd G) ∨ ((Itl K a).go i G ∧ ∃ Nx : Hp → Prop, (∀ G', Nx G' → ∃ m', m' < m ∧ W (i + 1) m' G') ∧
        ∀ x G1, (Itl K a).yld i G x G1 → g x (wipe σ vs) G1 fun σ2 G2 => wipe σ2 vs = wipe σ vs ∧ tt σ2 G2 fun b G3 => if b = true then tk σ2 G3 fun y G4 => te σ2 G4 fun v G5 =>
          ∃ (t : Addr) (k : List L2.Key) (kvs : List (List L2.Key × V)), y = .ref t ∧ G5 t = some (.tup (k.map kV)) ∧ G5 D = some (.dT kvs) ∧ kvs.length < sizeLine ∧ Nx (upd G5 D (.dT (putK kvs k v))) else Nx G3) := by
  refine ⟨fun i m G => m = xs.length - i ∧ i ≤ xs.length ∧ Pv i G, ⟨xs.length, Nat.sub_zero _ |>.symm, Nat.zero_le _, h0⟩, ?_⟩
  rintro i m G ⟨rfl, hi, p⟩
  have q := hl i G hi p
  rcases Nat.lt_or_ge i xs.length with lt | ge
  · refine .inr ⟨⟨xs, xs[i], q, List.getElem?_eq_getElem lt⟩, Pv (i + 1), fun G' p' => ⟨xs.length - (i + 1), by omega, rfl, lt, p'⟩, fun x G1 y => ?_⟩
    obtain ⟨rfl, y⟩ := y
    exact hs i x _ (y xs q) p
  · obtain rfl : i = xs.length := by omega
    exact .inl ⟨⟨xs, q, Nat.le_refl _⟩, hd G p⟩
/-! ### cells in a list, a region -/
/-- a list of cells at a: each with its address -/
abbrev CL := List (Addr × Cell)
def refs (ks : CL) : List V := ks.map fun p => V.ref p.1
def cellsOf (ks : CL) : List Cell := ks.map (·.2)
def CellO (c : Cell) : HO := .tup [.int c.1, .int c.2]
def Tups (H : Hp) (ks : CL) : Prop := ∀ p ∈ ks, H p.1 = some (CellO p.2)
theorem Tups.same {H H' : Hp} {ks : CL} (t : Tups H ks) (s : Same H H') : Tups H' ks := fun p hp => s _ _ (t p hp)
/-- the region at r has the cells M -/
def RegAt (C : Addr) (H : Hp) (r : Addr) (M : List Cell) : Prop := ∃ dx d, H r = some (.ins C dx [("_members", .ref d)]) ∧ H d = some (memO M) ∧ M.Pairwise bef ∧ M.length ≤ 64
def spRInit (K : PySem.W.Frag) (C : Addr) : Sp := fun vs H Q _ => ∃ (r dx a : Addr) (ks : CL), vs = [.ref r, .ref a] ∧ H r = some (.ins C dx []) ∧ SqL K H a (refs ks) ∧ Tups H ks ∧ ks.length ≤ 64 ∧
  ∀ H' M, Reading (cellsOf ks) M → RegAt C H' r M → SameBut r H H' → Q .non H'
abbrev nRInit : List Str := ["self", "cells", "flipped", "y", "x"]
theorem scRInit : FnScope nRInit ["self", "cells"] (defScope cRegionInit) := ⟨rfl, rfl, rfl, by decide +kernel, rfl, by decide +kernel, by decide +kernel⟩
theorem setQ_or {P : Program} {w : World} {H : Hp} {a : Addr} {L : List (Addr × List Int)} (h : H a = some (SetQ P w a L)) : H a = some (SetTO P w a L) ∨ H a = some (FullO P w a L) := by
  unfold SetQ at h
  split at h
  · exact .inl h
  · exact .inr h
theorem refs_at {ks : CL} {i : Nat} {x : V} (h : (refs ks)[i]? = some x) : ∃ t c, ks[i]? = some (t, c) ∧ x = .ref t := by
  unfold refs at h
  rw [List.getElem?_map] at h
  cases e : ks[i]? with
  | none =>
    rw [e] at h
    cases h
  | some p =>
    rw [e] at h
    cases h
    exact ⟨p.1, p.2, rfl, rfl⟩
theorem pr_two {l : List Int} (h : l.length = 2) : l = [(pr l).1, (pr l).2] := match l, h with | [_, _], _ => rfl
theorem pr_inj {l m : List Int} (hl : l.length = 2) (hm : m.length = 2) (e : pr l = pr m) : l = m := by
  rw [pr_two hl, pr_two hm, e]
structure RTxt (K : PySem.W.Frag) (mg : Str → Option Value) (C : Addr) : Prop where
  cl : Cls K C
  nM : NoAttr K C "_members"
  mgC : mg "Region" = some (.ref C)
  srt : mg "sorted" = none
  lst : mg "list" = none
section
variable {P : Program} {w : World} {K : PySem.W.Frag} {mg : Str → Option Value} {base : Heap}
theorem ok_rinit {f C : Addr} {fd : FuncData} (F : Fun K "__init__" "Region.__init__" cRegionInit f fd) (T : RTxt K mg C) : FnOk P w K mg base CX0 1 f fd ["self", "cells"] (spRInit K C) := by
  refine F.ok scRInit (fun vs H Q E h => ?_) (fun cdv A outer s H vs Q E hr h => ?_)
  · obtain ⟨r, dx, a, ks, rfl, _⟩ := h
    rfl
  · obtain ⟨r, dx, a, ks, rfl, hr0, ha, ht, few, k⟩ := h
    have hu : A.units + 1 + 3 < cLine := by
      have := hr.un
      have : A.units + 3 + 16 * 0 + 200 < cLine := this
      omega
    refine ⟨_, pss_cons (ps_set (i := 2) scRInit.nd rfl (.inl rfl) (pe_callB (cr_sortedSP rfl) (by rfl) T.srt (by decide +kernel) (pa_cons
        (pe_sct (own := [("x", 4), ("y", 3)]) (g := gTup K 2 (gCons (gName 4) (gCons (gName 3) gNil))) (tt := tYes) rfl (hu_of hr) scRInit.nd (pi_list (pv 1)) (blkOk_by (own := [("x", 4), ("y", 3)]) (N := nRInit) (sc := defScope cRegionInit) (by decide +kernel)) (fun _ _ _ _ _ => pg_tup rfl (pgs_cons (pg_name (i := 4) scRInit.nd rfl (.inl rfl)) (pgs_cons (pg_name (i := 3) scRInit.nd rfl (.inl rfl)) pgs_nil)))
          (fun _ _ _ _ _ => pts_nil) (fun _ _ _ _ _ => pe_tup (pa_cons (pv 3) (pa_cons (pv 4) pa_nil)))) pa_nil)))
      (pss_one (ps_fld (pv 0) (pe_dct (own := [("y", 3), ("x", 4)]) (g := gTup K 2 (gCons (gName 3) (gCons (gName 4) gNil))) (tt := tYes) rfl (hu_of hr) scRInit.nd (pi_list (pv 2)) (blkOk_by (own := [("y", 3), ("x", 4)]) (N := nRInit) (sc := defScope cRegionInit) (by decide +kernel)) (fun _ _ _ _ _ => pg_tup rfl (pgs_cons (pg_name (i := 3) scRInit.nd rfl (.inl rfl)) (pgs_cons (pg_name (i := 4) scRInit.nd rfl (.inl rfl)) pgs_nil)))
          (fun _ _ _ _ _ => pts_nil) (fun _ _ _ _ _ => pe_tup (pa_cons (pv 4) (pa_cons (pv 3) pa_nil))) (fun _ _ _ _ _ => pe_bl)) rfl)), ?_⟩
    -- the set
    refine ⟨.ref a, rfl, a, rfl, ⟨_, ha⟩, fun D nD => sct_list (K := K) (a := a) (xs := refs ks) (fun i G => ∃ L : List (Addr × List Int), Same H G ∧ G D = some (SetQ P w D L) ∧ (∀ p ∈ L, G p.1 = some (.tup (p.2.map V.int)) ∧ p.2.length = 2) ∧
      (∀ k : List Int, k ∈ L.map (fun p => p.2) ↔ ∃ c ∈ (cellsOf ks).take i, k = [c.2, c.1]) ∧ L.length ≤ i) ⟨[], same_upd nD, upd_same, (fun p hp => nomatch hp), (fun k => ⟨fun z => (nomatch z), fun ⟨c, hc, _⟩ => (nomatch hc)⟩), Nat.zero_le _⟩ (fun i G _ ⟨L, sm, _⟩ => sm.seq ha) ?_ ?_⟩
    · rintro i x G hx ⟨L, sm, hD, hL, hk, hl⟩
      obtain ⟨t, c, hi, rfl⟩ := refs_at hx
      have htc : G t = some (CellO c) := sm _ _ (ht _ (List.mem_of_getElem? hi))
      have hi2 : i < ks.length := (List.getElem?_eq_some_iff.mp hi).1
      have few' : L.length < 64 := by omega
      refine ⟨t, [.int c.1, .int c.2], rfl, SqT.of htc, rfl, _, _, rfl, _, _, rfl, rfl, rfl, ?_⟩
      refine tyes (iteT ⟨_, rfl, _, rfl, (by show 2 ≤ sizeLine; decide), fun T' nT => ?_⟩)
      have sT : Same G (upd G T' (.tup [.int c.2, .int c.1])) := same_upd nT
      refine ⟨T', [c.2, c.1], L, rfl, SqT.of upd_same, by rw [← setQ_few few']; exact sT _ _ hD, fun p hp => SqT.of (sT _ _ (hL p hp).1), by omega, fun L' c1 c2 => ?_⟩
      have nDT : D ≠ T' := ne_of_none hD nT
      have sD : ∀ b o, b ≠ D → G b = some o → (upd (upd G T' (.tup [.int c.2, .int c.1])) D (SetQ P w D L')) b = some o := fun b o hb e => by
        rw [upd_ne hb]
        exact sT _ _ e
      have nd : ∀ p ∈ L, p.1 ≠ D := fun p hp e => by
        have z := (hL p hp).1
        rw [e, hD, setQ_few few'] at z
        cases z
      have takes : ∀ k : List Int, (∃ d ∈ (cellsOf ks).take (i + 1), k = [d.2, d.1]) ↔ (k = [c.2, c.1] ∨ ∃ d ∈ (cellsOf ks).take i, k = [d.2, d.1]) := fun k => by
        have e : (cellsOf ks)[i]? = some c := by
          unfold cellsOf
          rw [List.getElem?_map, hi]
          rfl
        rw [List.take_add_one, e]
        constructor
        · rintro ⟨d, hd, ek⟩
          rcases List.mem_append.mp hd with z | z
          · exact .inr ⟨d, z, ek⟩
          · have : d = c := by simpa using z
            rw [this] at ek
            exact .inl ek
        · rintro (ek | ⟨d, hd, ek⟩)
          · exact ⟨c, List.mem_append_right _ (by simp), ek⟩
          · exact ⟨d, List.mem_append_left _ hd, ek⟩
      by_cases hm : [c.2, c.1] ∈ L.map (·.2)
      · have eL := c1 hm
        subst eL
        refine ⟨L', fun b o e => ?_, upd_same, fun p hp => ⟨?_, (hL p hp).2⟩, fun k => ?_, by omega⟩
        · exact sD b o (fun z => by rw [z, nD] at e; cases e) (sm _ _ e)
        · rw [upd_ne (nd p hp)]
          exact sT _ _ (hL p hp).1
        · rw [takes, hk k]
          exact ⟨.inr, fun z => z.elim (fun z => by rw [z]; exact (hk _).mp hm) id⟩
      · have pm := c2 hm
        refine ⟨L', fun b o e => ?_, upd_same, fun p hp => ?_, fun k => ?_, by rw [pm.length_eq, List.length_cons]; omega⟩
        · exact sD b o (fun z => by rw [z, nD] at e; cases e) (sm _ _ e)
        · rcases List.mem_cons.mp (pm.mem_iff.mp hp) with z | z
          · subst z
            refine ⟨?_, rfl⟩
            rw [upd_ne nDT.symm]
            exact upd_same
          · refine ⟨?_, (hL p z).2⟩
            rw [upd_ne (nd p z)]
            exact sT _ _ (hL p z).1
        · rw [takes, ← hk k, (pm.map (·.2)).mem_iff, List.map_cons, List.mem_cons]
    · -- sorted
      rintro G ⟨L, sm, hD, hL, hk, hl⟩
      refine ⟨D, L, rfl, setQ_or hD, fun p hp => ⟨SqT.of (hL p hp).1, (hL p hp).2⟩, fun M0 q pm nd asc nq => ?_⟩
      have sq : Same G (upd G q (.lst (M0.map fun p => V.ref p.1))) := same_upd nq
      have hM0 : ∀ p ∈ M0, G p.1 = some (.tup (p.2.map V.int)) ∧ p.2.length = 2 := fun p hp => hL p (pm.mem_iff.mp hp)
      have ndP : (M0.map fun p => pr p.2).Nodup := by
        refine List.pairwise_map.mpr (List.Pairwise.imp_of_mem (fun {p r} hp hr hne => ?_) (List.pairwise_map.mp nd))
        obtain ⟨_, l1⟩ := hM0 p hp
        obtain ⟨_, l2⟩ := hM0 r hr
        exact fun e => hne (pr_inj l1 l2 e)
      generalize eM : (M0.map fun p => pr p.2).map (fun z => ((z.2, z.1) : Cell)) = M
      have ascM : M.Pairwise bef := by
        rw [← eM]
        exact flip_asc ndP (List.pairwise_map.mpr asc)
      have lenM : M.length = M0.length := by rw [← eM, List.length_map, List.length_map]
      have lenL : M0.length ≤ 64 := by
        have l2 : (refs ks).length = ks.length := List.length_map _
        rw [pm.length_eq]
        omega
      have ndM : M.Nodup := List.Pairwise.imp (fun {x y} (hb : bef x y) => show x ≠ y from fun e => bef_irr y (by rw [e] at hb; exact hb)) ascM
      have memM : ∀ c, c ∈ M ↔ c ∈ cellsOf ks := fun c => by
        have lks : (cellsOf ks).take (refs ks).length = cellsOf ks := List.take_of_length_le (by
          unfold cellsOf refs
          rw [List.length_map, List.length_map]
          exact Nat.le_refl _)
        have h1 := hk [c.2, c.1]
        rw [lks] at h1
        rw [← eM]
        constructor
        · intro hc
          obtain ⟨z, hz, rfl⟩ := List.mem_map.mp hc
          obtain ⟨p, hp, rfl⟩ := List.mem_map.mp hz
          obtain ⟨_, l1⟩ := hM0 p hp
          have e1 : p.2 = [(pr p.2).1, (pr p.2).2] := pr_two l1
          obtain ⟨d, hd, e2⟩ := h1.mp (List.mem_map.mpr ⟨p, pm.mem_iff.mp hp, e1⟩)
          injection e2 with e3 e4
          injection e4 with e4 _
          have : ((pr p.2).2, (pr p.2).1) = d := Prod.ext e4 e3
          rw [this]
          exact hd
        · intro hc
          obtain ⟨p, hp, e1⟩ := List.mem_map.mp (h1.mpr ⟨c, hc, rfl⟩)
          refine List.mem_map.mpr ⟨(c.2, c.1), List.mem_map.mpr ⟨p, pm.mem_iff.mpr hp, ?_⟩, rfl⟩
          rw [e1]
          rfl
      -- the dict
      refine ⟨.ref q, rfl, q, rfl, ⟨_, SqL.of upd_same⟩, fun d nd2 => dct_list (K := K) (a := q) (xs := M0.map fun p => V.ref p.1) (fun i G2 => Same (upd G q (.lst (M0.map fun p => V.ref p.1))) G2 ∧ G2 d = some (memO (M.take i)))
        ⟨same_upd nd2, upd_same⟩ (fun i G2 _ ⟨s2, _⟩ => SqL.of (s2 _ _ upd_same)) ?_ ?_⟩
      · rintro i x G2 hx ⟨s2, hd⟩
        have hp := hx
        rw [List.getElem?_map] at hp
        cases ep : M0[i]? with
        | none =>
          rw [ep] at hp
          cases hp
        | some p =>
          rw [ep] at hp
          cases hp
          obtain ⟨h1, l1⟩ := hM0 p (List.mem_of_getElem? ep)
          have e1 : p.2 = [(pr p.2).1, (pr p.2).2] := pr_two l1
          have g1 : G2 p.1 = some (.tup [.int (pr p.2).1, .int (pr p.2).2]) := by
            have z := s2 _ _ (sq _ _ h1)
            rw [e1] at z
            exact z
          have eMi : M[i]? = some ((pr p.2).2, (pr p.2).1) := by
            rw [← eM, List.getElem?_map, List.getElem?_map, ep]
            rfl
          refine ⟨p.1, [.int (pr p.2).1, .int (pr p.2).2], rfl, SqT.of g1, rfl, _, _, rfl, _, _, rfl, rfl, rfl, ?_⟩
          refine tyes (iteT ⟨_, rfl, _, rfl, (by show 2 ≤ sizeLine; decide), fun T' nT => ?_⟩)
          have nin : ((pr p.2).2, (pr p.2).1) ∉ M.take i := fun z => by
            have e2 : M = M.take i ++ M.drop i := (List.take_append_drop i M).symm
            have e3 : M.drop i = ((pr p.2).2, (pr p.2).1) :: M.drop (i + 1) := by
              have lt : i < M.length := (List.getElem?_eq_some_iff.mp eMi).1
              rw [List.drop_eq_getElem_cons lt]
              rw [List.getElem?_eq_getElem lt] at eMi
              rw [Option.some.inj eMi]
            rw [e2, e3] at ndM
            exact (List.nodup_append.mp ndM).2.2 _ z _ List.mem_cons_self rfl
          refine ⟨T', keyC ((pr p.2).2, (pr p.2).1), _, rfl, upd_same, (same_upd nT) _ _ hd, ?_, fun b o e => ?_, ?_⟩
          · rw [List.length_map, sizeLine_eq, List.length_take]
            omega
          · have nbd : b ≠ d := ne_of_none e nd2
            rw [upd_ne nbd]
            exact (same_upd nT) _ _ (s2 _ _ e)
          · rw [put_new nin, List.take_add_one, eMi, upd_same]
            rfl
      · rintro G2 ⟨s2, hd⟩
        have hdM : G2 d = some (memO M) := by
          rw [hd, List.take_of_length_le]
          rw [List.length_map, lenM]
          exact Nat.le_refl _
        have hr2 : G2 r = some (.ins C dx []) := s2 _ _ (sq _ _ (sm _ _ hr0))
        have ndr : d ≠ r := ne_of hdM hr2 (by intro z; cases z)
        refine ⟨_, rfl, r, C, dx, [], rfl, hr2, T.cl, T.nM, (by show 0 < 1000; decide), ?_⟩
        refine k _ M ⟨ascM, memM⟩ ⟨dx, d, upd_same, ?_, ascM, by omega⟩ fun b o hb e => ?_
        · rw [upd_ne ndr]
          exact hdM
        · rw [upd_ne hb]
          exact s2 _ _ (sq _ _ (sm _ _ e))
end
end Pm
namespace Pm
open PySem PySem.Spec PyProof.Rows L2 ClX
/-- what the text says further of the class -/
structure RCTxt (K : PySem.W.Frag) (mg : Str → Option Value) (C : Addr) : Prop where
  t : RTxt K mg C
  isi : mg "isinstance" = none
  ca : PySem.W.findIn K (.ref C) "__class__" = some (some (.builtin "object.__class__"))
  cn : PySem.W.specialIn K (.builtin "object.__class__") "__get__" = some (some (.builtin "getset_descriptor.__get__"))
  ct : PySem.W.takesIn K (.builtin "object.__class__") = some true
  cm : PySem.W.mroIn K C (.type "object") = some true
  kk : PySem.W.kitOne K (.ref C) (.ref C) = some true
theorem RCTxt.ty {K : PySem.W.Frag} {mg : Str → Option Value} {C : Addr} (T : RCTxt K mg C) {H : Hp} {r : Addr} {M : List Cell} (h : RegAt C H r M) : TyX K H (.ref r) (.ref C) := by
  obtain ⟨dx, d, hr, _⟩ := h
  exact .base (.ins hr T.t.cl T.ca T.cn T.ct T.cm)
theorem RegAt.same {C : Addr} {H H' : Hp} {r : Addr} {M : List Cell} (h : RegAt C H r M) (s : Same H H') : RegAt C H' r M := by
  obtain ⟨dx, d, hr, hd, x⟩ := h
  exact ⟨dx, d, s _ _ hr, s _ _ hd, x⟩
theorem keys_cl {H : Hp} : ∀ {M : List Cell} {bs : List Addr}, IsKeys H (M.map fun c => (keyC c, V.bl true)) bs → ∃ ks : CL, refs ks = bs.map V.ref ∧ cellsOf ks = M ∧ Tups H ks
  | [], [], _ => ⟨[], rfl, rfl, fun p hp => nomatch hp⟩
  | c :: M, b :: bs, h => by
    cases h with
    | cons h1 h2 =>
      obtain ⟨ks, e1, e2, t⟩ := keys_cl (M := M) (bs := bs) h2
      refine ⟨(b, c) :: ks, ?_, ?_, fun p hp => ?_⟩
      · show V.ref b :: refs ks = V.ref b :: bs.map V.ref
        rw [e1]
      · show c :: cellsOf ks = c :: M
        rw [e2]
      · rcases List.mem_cons.mp hp with z | z
        · rw [z]
          exact h1
        · exact t p z
section
variable {P : Program} {w : World} {K : PySem.W.Frag} {mg : Str → Option Value} {base : Heap}
/-! ### cells() -/
def spRCs (C : Addr) : Sp := fun vs H Q _ => ∃ r M, vs = [.ref r] ∧ RegAt C H r M ∧ ∀ p ks H', Same H H' → H p = none → H' p = some (.lst (refs ks)) → Tups H' ks → cellsOf ks = M → Q (.ref p) H'
theorem scRCs : FnScope ["self"] ["self"] (defScope cRegionCells) := ⟨rfl, rfl, rfl, by decide +kernel, rfl, by decide +kernel, by decide +kernel⟩
theorem ok_rcells {f C : Addr} {fd : FuncData} (F : Fun K "cells" "Region.cells" cRegionCells f fd) (T : RCTxt K mg C) : FnOk P w K mg base CX0 1 f fd ["self"] (spRCs C) := by
  refine F.ok scRCs (fun vs H Q E h => ?_) (fun cdv A outer s H vs Q E hr h => ?_)
  · obtain ⟨r, M, rfl, _⟩ := h
    rfl
  · obtain ⟨r, M, rfl, ⟨dx, d, hr0, hd, asc, few⟩, k⟩ := h
    refine ⟨_, pss_one (ps_ret (pe_callTy (call_list_dT rfl) (by rfl) T.t.lst (by decide +kernel) (pa_cons (pe_fld (pv 0) rfl) pa_nil))), ?_⟩
    refine ⟨_, rfl, r, C, dx, _, _, rfl, hr0, T.t.cl, T.t.nM, rfl, d, _, rfl, .inl hd, fun p bs np hk => ?_⟩
    obtain ⟨ks, e1, e2, t⟩ := keys_cl hk
    have sp := same_upd (o := .lst (bs.map V.ref)) np
    exact k p ks _ sp np (by rw [upd_same, e1]) (t.same sp) e2
end
def dC (c : Cell) : PyData := .tuple [.int c.1, .int c.2]
theorem dC_eqv (c d : Cell) : PyData.eqv (dC c) (dC d) = decide (c = d) := by
  obtain ⟨x, y⟩ := c
  obtain ⟨u, v⟩ := d
  simp [dC, PyData.eqv, PyData.eqvAll]
  rfl
theorem dC_shaped (c : Cell) : SeqAt.shaped (dC c) = true := by
  simp [dC, SeqAt.shaped, PyData.canLay0, PyData.canLayAll0, PyData.depth, PyData.depthAll]
theorem dCs_lay : ∀ M : List Cell, PyData.canLayAll0 (M.map dC) = true
  | [] => rfl
  | c :: M => by simp [PyData.canLayAll0, dC, PyData.canLay0, dCs_lay M]
theorem dCs_depth : ∀ M : List Cell, PyData.depthAll (M.map dC) ≤ 1
  | [] => by simp [PyData.depthAll]
  | c :: M => by
    have := dCs_depth M
    simp [PyData.depthAll, dC, PyData.depth]
    omega
theorem dCs_shaped (M : List Cell) : SeqAt.shaped (.list (M.map dC)) = true := by
  have := dCs_depth M
  simp [SeqAt.shaped, PyData.canLay0, dCs_lay M, PyData.depth]
  omega
theorem dCs_eqv : ∀ M N : List Cell, PyData.eqv (.list (M.map dC)) (.list (N.map dC)) = decide (M = N) := by
  have all : ∀ M N : List Cell, PyData.eqvAll (M.map dC) (N.map dC) = decide (M = N) := by
    intro M
    induction M with
    | nil =>
      intro N
      cases N <;> simp [PyData.eqvAll]
    | cons c M ih =>
      intro N
      cases N with
      | nil => simp [PyData.eqvAll]
      | cons d N =>
        rw [List.map_cons, List.map_cons]
        show (PyData.eqv (dC c) (dC d) && PyData.eqvAll (M.map dC) (N.map dC)) = _
        rw [dC_eqv, ih]
        simp
  intro M N
  simp [PyData.eqv, all]
theorem dp_cell {K : PySem.W.Frag} {H : Hp} {t : Addr} {c : Cell} (h : H t = some (CellO c)) : Dp K H (.ref t) (dC c) := .tup (SqT.of h) (.cons (.int _) (.cons (.int _) .nil))
theorem dp_cells {K : PySem.W.Frag} {H : Hp} : ∀ {ks : CL}, Tups H ks → DpAll K H (refs ks) ((cellsOf ks).map dC)
  | [], _ => .nil
  | p :: ks, t => .cons (dp_cell (t p List.mem_cons_self)) (dp_cells fun q hq => t q (List.mem_cons_of_mem _ hq))
theorem dp_cl {K : PySem.W.Frag} {H : Hp} {a : Addr} {ks : CL} (h : SqL K H a (refs ks)) (t : Tups H ks) : Dp K H (.ref a) (.list ((cellsOf ks).map dC)) := .lst h (dp_cells t)
structure BTxt (K : PySem.W.Frag) (mg : Str → Option Value) : Prop where
  isi : mg "isinstance" = none
  bool : mg "bool" = none
  tup : mg "tuple" = none
  int : mg "int" = none
  lst : mg "list" = none
  len : mg "len" = none
section
variable {P : Program} {w : World} {K : PySem.W.Frag} {mg : Str → Option Value} {base : Heap}
def spIsInt : Sp := fun vs H Q _ => ∃ n, vs = [.int n] ∧ Q (.bl true) H
theorem scIsInt : FnScope ["_law_value"] ["_law_value"] (defScope lIsInt) := ⟨rfl, rfl, rfl, by decide +kernel, rfl, by decide +kernel, by decide +kernel⟩
theorem ok_isint {f : Addr} {fd : FuncData} (F : Fun K "_law_is_int" "_law_is_int" lIsInt f fd) (T : BTxt K mg) : FnOk P w K mg base CX0 1 f fd ["_law_value"] spIsInt := by
  refine F.ok scIsInt (fun vs H Q E h => ?_) (fun cdv A outer s H vs Q E hr h => ?_)
  · obtain ⟨n, rfl, _⟩ := h
    rfl
  · obtain ⟨n, rfl, q⟩ := h
    refine ⟨_, pss_one (ps_ret (pe_and (pe_callB call_isi (by rfl) T.isi (by decide +kernel) (pa_cons (pv 0) (pa_cons (pe_bltn (v := .ty "int") (by rfl) T.int (by decide +kernel) rfl) pa_nil)))
      (pe_one (pe_not (pe_callB call_isi (by rfl) T.isi (by decide +kernel) (pa_cons (pv 0) (pa_cons (pe_bltn (v := .ty "bool") (by rfl) T.bool (by decide +kernel) rfl) pa_nil))))))), ?_⟩
    refine ⟨_, rfl, .int n, .ty "int", .type "int", .type "int", true, rfl, .ty _, .base (.int n), kit_ty (by decide +kernel), true, rfl, ?_⟩
    exact ⟨_, rfl, .int n, .ty "bool", .type "int", .type "bool", false, rfl, .ty _, .base (.int n), kit_ty (by decide +kernel), false, rfl, q⟩
def spIsCell : Sp := fun vs H Q _ => ∃ t c, vs = [.ref t] ∧ H t = some (CellO c) ∧ Q (.bl true) H
theorem scIsCell : FnScope ["_law_value"] ["_law_value"] (defScope lIsCell) := ⟨rfl, rfl, rfl, by decide +kernel, rfl, by decide +kernel, by decide +kernel⟩
theorem ok_iscell {f g : Addr} {fd gd : FuncData} (F : Fun K "_law_is_cell" "_law_is_cell" lIsCell f fd) (G : Fun K "_law_is_int" "_law_is_int" lIsInt g gd) (bG : Binds K gd ["_law_value"] []) (gG : mg "_law_is_int" = some (.ref g)) (T : BTxt K mg) :
    FnOk P w K mg base CX0 2 f fd ["_law_value"] spIsCell := by
  have OG : FnOk P w K mg base CX0 1 g gd ["_law_value"] spIsInt := ok_isint G T
  refine F.ok scIsCell (fun vs H Q E h => ?_) (fun cdv A outer s H vs Q E hr h => ?_)
  · obtain ⟨t, c, rfl, _⟩ := h
    rfl
  · obtain ⟨t, c, rfl, ht, q⟩ := h
    refine ⟨_, pss_one (ps_ret (pe_and (pe_callB call_isi (by rfl) T.isi (by decide +kernel) (pa_cons (pv 0) (pa_cons (pe_bltn (v := .ty "tuple") (by rfl) T.tup (by decide +kernel) rfl) pa_nil)))
      (pe_and (pe_cmpR op_eq (pe_callB call_len_seq (by rfl) T.len PySem.boot_len (pa_cons (pv 0) pa_nil)) pe_int (nomark _))
      (pe_and (pe_call OG hr (by rfl) gG G.kp bG .nil pass0 (pa_cons (pe_ix ix_tup (pv 0) pe_int (fun _ _ => rfl)) pa_nil))
      (pe_one (pe_call OG hr (by rfl) gG G.kp bG .nil pass0 (pa_cons (pe_ix ix_tup (pv 0) pe_int (fun _ _ => rfl)) pa_nil))))))), ?_⟩
    refine ⟨_, rfl, .ref t, .ty "tuple", .type "tuple", .type "tuple", true, rfl, .ty _, .base (.tup ht), kit_ty (by decide +kernel), true, rfl, ?_⟩
    refine ⟨_, rfl, t, _, rfl, .inr (SqT.of ht), rfl, true, rfl, ?_⟩
    refine ⟨_, rfl, t, _, 0, _, rfl, rfl, SqT.of ht, rfl, _, rfl, true, rfl, ?_⟩
    exact ⟨_, rfl, t, _, 1, _, rfl, rfl, SqT.of ht, rfl, _, rfl, q⟩
def spIsCells : Sp := fun vs H Q _ => ∃ a ks, vs = [.ref a] ∧ H a = some (.lst (refs ks)) ∧ Tups H ks ∧ Q (.bl true) H
theorem scIsCells : FnScope ["_law_value", "_law_cell"] ["_law_value"] (defScope lIsCells) := ⟨rfl, rfl, rfl, by decide +kernel, rfl, by decide +kernel, by decide +kernel⟩
theorem ok_iscells {f g : Addr} {fd gd : FuncData} (F : Fun K "_law_is_cells" "_law_is_cells" lIsCells f fd) (G : Fun K "_law_is_cell" "_law_is_cell" lIsCell g gd) (OG : FnOk P w K mg base CX0 2 g gd ["_law_value"] spIsCell) (bG : Binds K gd ["_law_value"] [])
    (gG : mg "_law_is_cell" = some (.ref g)) (T : BTxt K mg) : FnOk P w K mg base CX0 3 f fd ["_law_value"] spIsCells := by
  refine F.ok scIsCells (fun vs H Q E h => ?_) (fun cdv A outer s H vs Q E hr h => ?_)
  · obtain ⟨a, ks, rfl, _⟩ := h
    rfl
  · obtain ⟨a, ks, rfl, ha, ht, q⟩ := h
    refine ⟨_, pss_cons (ps_if (pt_not (pt_val (pe_callB call_isi (by rfl) T.isi (by decide +kernel) (pa_cons (pv 0) (pa_cons (pe_bltn (v := .ty "list") (by rfl) T.lst (by decide +kernel) rfl) pa_nil))))) (pss_one (ps_ret pe_bl)) pss_nil)
      (pss_cons (ps_for PassesOwn.never rfl (pi_list (pv 0)) (pg_name (i := 1) scIsCells.nd rfl (.inl rfl))
        (pss_one (ps_if (pt_not (pt_val (pe_call OG hr (by rfl) gG G.kp bG .nil pass0 (pa_cons (pv 1) pa_nil)))) (pss_one (ps_ret pe_bl)) pss_nil)))
      (pss_one (ps_ret pe_bl))), ?_⟩
    refine ⟨_, rfl, .ref a, .ty "list", .type "list", .type "list", true, rfl, .ty _, .base (.lst ha), kit_ty (by decide +kernel), true, rfl, iteF ?_⟩
    refine ⟨_, rfl, a, rfl, ⟨_, SqL.of ha⟩, for_list (K := K) (a := a) (xs := refs ks) (fun i σ G => ∃ y, σ = [some (.ref a), y] ∧ G = H) ⟨_, rfl, rfl⟩ (fun i σ G _ ⟨_, _, e⟩ => by rw [e]; exact SqL.of ha) ?_ ?_⟩
    · rintro i x σ G hx ⟨y, rfl, rfl⟩
      obtain ⟨t, c, hi, rfl⟩ := refs_at hx
      exact ⟨_, rfl, t, c, rfl, ht _ (List.mem_of_getElem? hi), true, rfl, iteF ⟨_, rfl, rfl⟩⟩
    · rintro σ G ⟨y, rfl, rfl⟩
      exact q
/-! ### a region is as due -/
def spRegIs (K : PySem.W.Frag) (C : Addr) : Sp := fun vs H Q _ => ∃ r a M ks, vs = [.ref r, .ref a] ∧ RegAt C H r M ∧ SqL K H a (refs ks) ∧ Tups H ks ∧ cellsOf ks = M ∧ ∀ H', Same H H' → Q (.bl true) H'
theorem scRegIs : FnScope ["_law_region", "_law_due", "_law_told"] ["_law_region", "_law_due"] (defScope lRegionIs) := ⟨rfl, rfl, rfl, by decide +kernel, rfl, by decide +kernel, by decide +kernel⟩
theorem ok_regis {f g c C : Addr} {fd gd cd : FuncData} (F : Fun K "_law_region_is" "_law_region_is" lRegionIs f fd) (OG : FnOk P w K mg base CX0 3 g gd ["_law_value"] spIsCells) (kG : PySem.W.keepIn K (.ref g) = true) (bG : Binds K gd ["_law_value"] [])
    (gG : mg "_law_is_cells" = some (.ref g)) (OC : FnOk P w K mg base CX0 1 c cd ["self"] (spRCs C)) (mC : Meth K C "cells" c) (bC : Binds K cd ["self"] []) (T : RCTxt K mg C) : FnOk P w K mg base CX0 4 f fd ["_law_region", "_law_due"] (spRegIs K C) := by
  refine F.ok scRegIs (fun vs H Q E h => ?_) (fun cdv A outer s H vs Q E hr h => ?_)
  · obtain ⟨r, a, M, ks, rfl, _⟩ := h
    rfl
  · obtain ⟨r, a, M, ks, rfl, hM, ha, ht, eM, k⟩ := h
    have hr1 : Room 1 _ := hr.mono (by decide)
    refine ⟨_, pss_cons (ps_if (pt_not (pt_val (pe_callB call_isi (by rfl) T.isi (by decide +kernel) (pa_cons (pv 0) (pa_cons (pe_glob (v := .ref C) (by rfl) T.t.mgC rfl) pa_nil))))) (pss_one (ps_ret pe_bl)) pss_nil)
      (pss_cons (ps_set (i := 2) scRegIs.nd rfl (.inl rfl) (pe_meth0 (pv 0) T.t.cl mC OC hr1 bC .nil pass0))
      (pss_one (ps_ret (pe_and (pe_call OG hr (by rfl) gG kG bG .nil pass0 (pa_cons (pv 2) pa_nil)) (pe_one (pe_cmpR (op_eqD hr.units) (pv 2) (pv 1) (nomark _))))))), ?_⟩
    refine ⟨_, rfl, .ref r, .ref C, .ref C, .ref C, true, rfl, .own C, T.ty hM, T.kk, true, rfl, iteF ?_⟩
    obtain ⟨dx, d, hr0, _⟩ := id hM
    refine ⟨_, rfl, r, dx, _, rfl, hr0, rfl, r, M, rfl, hM, fun p ms H1 s1 np hp hms em => ?_⟩
    refine ⟨_, rfl, p, ms, rfl, hp, hms, true, rfl, ?_⟩
    refine ⟨_, rfl, _, rfl, _, _, dp_cl (SqL.of hp) hms, dp_cl (s1.seq ha) (ht.same s1), dCs_shaped _, dCs_shaped _, ?_⟩
    rw [em, eM, dCs_eqv, decide_eq_true rfl]
    exact k H1 s1
end
end Pm
namespace Pm
open PySem PySem.Spec PyProof.Rows L2 SX
/-! ### o[i], o of a class with an own __getitem__ -/
section
variable {X : Cx} {C f : Addr} {fd : FuncData} {k : Nat} {ps : List Str} {sp : Sp} {a b : Expr} {ta tb : TE} {pos : Pos}
def rItem (C : Addr) (sp : Sp) : R2 := fun x y H Q => ∃ r dx fs, x = .ref r ∧ H r = some (.ins C dx fs) ∧ sp [x, y] H Q E0
theorem pe_item (F : FnOk X.prog X.w X.K X.mg X.base CX0 k f fd ps sp) (hr : Room (k + 1) X.A) (hb : Binds X.K fd ps []) (m : OwnM X.K C "__getitem__" f) (fi : PySem.W.fnIn X.K f = true) (pa : PE X a ta) (pb : PE X b tb)
    (hs : ∀ o i, subscripted b true o i = runValue (.builtin "lifetime.subscript" ⟨[o, i], []⟩) := by intro _ _; rfl) : PE X (.Subscript a b pos) (tOp (rItem C sp) ta tb) := by
  refine ⟨fun pins s σ H Q I h => ?_⟩
  refine Subscript_ (binT pa pb I h fun v u s2 x y H2 I2 rx ry q => ?_)
  obtain ⟨r, dx, fs, rfl, hr0, q⟩ := q
  obtain rfl : v = Value.ref r := rx
  obtain ⟨mA, J, _⟩ := ins_get I2.hok hr0
  obtain ⟨od, J, _⟩ := J.look
  obtain ⟨mm, hF⟩ := I2.fr
  exact PySem.W.sub_K hF I2.ok.mod.kin J m.at_ fi m.fn (run_at (vs := [.ref r, y]) F hr.in1 rfl hb pass0 I2 (.cons rfl (.cons ry .nil)) q) (hs _ _)
end
/-! ### all cells of a grid -/
def rowC (n j : Nat) : List Cell := (List.range n).map fun (i : Nat) => (((i : Nat) : Int), (j : Int))
def allC (n : Nat) : Nat → List Cell
  | 0 => []
  | j + 1 => allC n j ++ rowC n j
theorem rowC_succ (n j : Nat) : rowC (n + 1) j = rowC n j ++ [((n : Int), (j : Int))] := by
  unfold rowC
  rw [List.range_succ, List.map_append]
  rfl
theorem rowC_len (n j : Nat) : (rowC n j).length = n := by
  unfold rowC
  rw [List.length_map, List.length_range]
theorem allC_len (n : Nat) : ∀ m, (allC n m).length = m * n
  | 0 => by simp [allC]
  | m + 1 => by
    show (allC n m ++ rowC n m).length = _
    rw [List.length_append, allC_len n m, rowC_len, Nat.add_mul]
    omega
theorem rowC_mem {n j : Nat} {c : Cell} : c ∈ rowC n j ↔ ∃ i : Nat, i < n ∧ c = ((i : Int), (j : Int)) := by
  unfold rowC
  rw [List.mem_map]
  constructor
  · rintro ⟨i, hi, rfl⟩
    exact ⟨i, List.mem_range.mp hi, rfl⟩
  · rintro ⟨i, hi, rfl⟩
    exact ⟨i, List.mem_range.mpr hi, rfl⟩
theorem allC_mem {n : Nat} {c : Cell} : ∀ {m : Nat}, c ∈ allC n m ↔ ∃ i j : Nat, i < n ∧ j < m ∧ c = ((i : Int), (j : Int))
  | 0 => ⟨fun h => (nomatch h), fun ⟨_, _, _, h, _⟩ => absurd h (Nat.not_lt_zero _)⟩
  | m + 1 => by
    show c ∈ allC n m ++ rowC n m ↔ _
    rw [List.mem_append, allC_mem, rowC_mem]
    constructor
    · rintro (⟨i, j, a, b, e⟩ | ⟨i, a, e⟩)
      · exact ⟨i, j, a, Nat.lt_succ_of_lt b, e⟩
      · exact ⟨i, m, a, Nat.lt_succ_self _, e⟩
    · rintro ⟨i, j, a, b, e⟩
      rcases Nat.lt_or_ge j m with c | c
      · exact .inl ⟨i, j, a, c, e⟩
      · exact .inr ⟨i, a, by rw [e, show j = m by omega]⟩
theorem rowC_asc (j : Nat) : ∀ n, (rowC n j).Pairwise bef
  | 0 => (.nil : ([] : List Cell).Pairwise bef)
  | n + 1 => by
    rw [rowC_succ]
    refine List.pairwise_append.mpr ⟨rowC_asc j n, List.pairwise_singleton _ _, fun a ha b hb => ?_⟩
    obtain ⟨i, hi, rfl⟩ := rowC_mem.mp ha
    rw [List.mem_singleton.mp hb]
    exact .inr ⟨rfl, by show (i : Int) < n; omega⟩
theorem allC_asc (n : Nat) : ∀ m, (allC n m).Pairwise bef
  | 0 => (.nil : ([] : List Cell).Pairwise bef)
  | m + 1 => by
    show (allC n m ++ rowC n m).Pairwise bef
    refine List.pairwise_append.mpr ⟨allC_asc n m, rowC_asc m n, fun a ha b hb => ?_⟩
    obtain ⟨i, j, _, hj, rfl⟩ := allC_mem.mp ha
    obtain ⟨i2, _, rfl⟩ := rowC_mem.mp hb
    exact .inl (by show (j : Int) < m; omega)
section
variable {P : Program} {w : World} {K : PySem.W.Frag} {mg : Str → Option Value} {base : Heap} {C CI CO CG : Addr}
def spEvery (C : Addr) : Sp := fun vs H Q _ => ∃ r R n, vs = [.ref r] ∧ PicAt C H r R ∧ Grid R n ∧ ∀ p ks H', Same H H' → H p = none → H' p = some (.lst (refs ks)) → Tups H' ks → cellsOf ks = allC n R.length → Q (.ref p) H'
abbrev nEvery : List Str := ["self", "y", "x"]
theorem scEvery : FnScope nEvery ["self"] (defScope cPictureEveryCell) := ⟨rfl, rfl, rfl, by decide +kernel, rfl, by decide +kernel, by decide +kernel⟩
theorem ok_every {f : Addr} {fd : FuncData} (F : Fun K "every_cell" "Picture.every_cell" cPictureEveryCell f fd) (L : LTxt K mg) (T : PCls K C) : FnOk P w K mg base CX0 1 f fd ["self"] (spEvery C) := by
  refine F.ok scEvery (fun vs H Q E h => ?_) (fun cdv A outer s H vs Q E hr h => ?_)
  · obtain ⟨r, R, n, rfl, _⟩ := h
    rfl
  · obtain ⟨r, R, n, rfl, ⟨dx, l, h1, h2⟩, g, k⟩ := h
    refine ⟨_, pss_one (ps_ret (pe_lc2 (own := [("y", 1), ("x", 2)]) (vs1 := [2]) (g := gName 1) (g1 := gName 2) (tt := tYes) (tt1 := tYes) (wi1 := iRng1 (tCons (tFld K (tVar 0) "width") tNil)) rfl scEvery.nd (pi_range1 (by rfl) L.rng (pa_cons (pe_fld (pv 0) rfl) pa_nil)) (blkOk_by (own := [("y", 1), ("x", 2)]) (N := nEvery) (sc := defScope cPictureEveryCell) (by decide +kernel)) (by decide)
      (fun _ _ _ _ _ => pg_name (i := 1) scEvery.nd rfl (.inl rfl)) (fun _ _ _ _ _ => pts_nil) (fun _ _ _ _ _ => pi_range1 (by rfl) L.rng (pa_cons (pe_fld (pv 0) rfl) pa_nil)) (fun _ _ _ _ _ => pg_name (i := 2) scEvery.nd rfl (.inl rfl)) (fun _ _ _ _ _ => pts_nil) (fun _ _ _ _ _ => pe_tup (pa_cons (pv 2) (pa_cons (pv 1) pa_nil))))), ?_⟩
    have w8 := g.w8
    have h8 := g.h8
    have ew := g.wide
    refine ⟨_, rfl, r, C, dx, _, _, rfl, h1, T.cl, T.nH, rfl, (R.length : Int), rfl, by omega, by omega, fun D nD => ?_⟩
    let Pv : Nat → Nat → Hp → Prop := fun j i G => Same H G ∧ ∃ ks, G D = some (.lst (refs ks)) ∧ Tups G ks ∧ cellsOf ks = allC n j ++ rowC i j
    refine ⟨fun j m G => m = R.length - j ∧ j ≤ R.length ∧ Pv j 0 G, ⟨R.length, by simp, Nat.zero_le _, same_upd nD, [], upd_same, (fun p hp => nomatch hp), rfl⟩, ?_⟩
    rintro j m G ⟨rfl, hj, p⟩
    by_cases lt : j < R.length
    · refine .inr ⟨by show j < ((R.length : Int)).toNat; omega, Pv (j + 1) 0, fun G' p' => ⟨R.length - (j + 1), by omega, rfl, lt, p'⟩, fun x G' y => ?_⟩
      obtain ⟨rfl, rfl⟩ := y
      refine ⟨rfl, tyes (iteT ?_)⟩
      have pj := p
      obtain ⟨sG, _⟩ := pj
      refine ⟨_, rfl, r, C, dx, _, _, rfl, sG _ _ h1, T.cl, T.nW, rfl, wideOf R, rfl, by omega, by omega, ?_⟩
      refine ⟨fun i m G => m = n - i ∧ i ≤ n ∧ Pv j i G, ⟨n, by simp, Nat.zero_le _, p⟩, ?_⟩
      rintro i m G ⟨rfl, hi, p⟩
      by_cases lti : i < n
      · refine .inr ⟨by show i < (wideOf R).toNat; omega, Pv j (i + 1), fun G' p' => ⟨n - (i + 1), by omega, rfl, lti, p'⟩, fun x G' y => ?_⟩
        obtain ⟨rfl, rfl⟩ := y
        obtain ⟨sG, ks, hD, hk, ek⟩ := p
        refine ⟨rfl, tyes (iteT ⟨_, rfl, _, rfl, small_line (by show 2 ≤ 1000; decide), fun t nt => ?_⟩)⟩
        have st := same_upd (o := CellO ((i : Int), (j : Int))) nt
        have lk : ks.length = j * n + i := by
          have z := congrArg List.length ek
          rw [List.length_append, allC_len, rowC_len] at z
          unfold cellsOf at z
          rw [List.length_map] at z
          exact z
        have few : ks.length < 1000 := by
          have : j * n ≤ 8 * 8 := Nat.mul_le_mul (by omega) w8
          omega
        have nDt : t ≠ D := fun e => by
          rw [e, hD] at nt
          cases nt
        refine ⟨refs ks, ?_, ?_, ?_, ks ++ [(t, ((i : Int), (j : Int)))], ?_, ?_, ?_⟩
        · have z := st _ _ hD
          rw [show (0 : Int) + (i : Int) = (i : Int) by omega, show (0 : Int) + (j : Int) = (j : Int) by omega]
          exact z
        · unfold refs
          rw [List.length_map]
          exact Nat.lt_of_le_of_lt (Nat.le_of_lt few) (small1000 (Nat.le_refl _))
        · exact fun b o e => by
            have nbD : b ≠ D := fun z => by rw [z, nD] at e; cases e
            rw [upd_ne nbD, show (0 : Int) + (i : Int) = (i : Int) by omega, show (0 : Int) + (j : Int) = (j : Int) by omega]
            exact st _ _ (sG _ _ e)
        · rw [upd_same]
          unfold refs
          rw [List.map_append]
          rfl
        · intro q hq
          have nq : q.1 ≠ D := fun z => by
            rcases List.mem_append.mp hq with y | y
            · have := hk q y
              rw [z, hD] at this
              cases this
            · rw [List.mem_singleton.mp y] at z
              exact nDt z
          rw [upd_ne nq, show (0 : Int) + (i : Int) = (i : Int) by omega, show (0 : Int) + (j : Int) = (j : Int) by omega]
          rcases List.mem_append.mp hq with y | y
          · exact st _ _ (hk q y)
          · rw [List.mem_singleton.mp y]
            exact upd_same
        · unfold cellsOf at ek ⊢
          rw [List.map_append, ek, rowC_succ, List.append_assoc]
          rfl
      · have e : i = n := by omega
        subst e
        refine .inl ⟨by show (wideOf R).toNat ≤ i; omega, ?_⟩
        obtain ⟨sG, ks, hD, hk, ek⟩ := p
        exact ⟨sG, ks, hD, hk, by rw [ek]; exact (List.append_nil _).symm⟩
    · have e : j = R.length := by omega
      subst e
      refine .inl ⟨by show ((R.length : Int)).toNat ≤ R.length; omega, ?_⟩
      obtain ⟨sG, ks, hD, hk, ek⟩ := p
      exact k D ks G sG nD hD hk (by rw [ek]; exact List.append_nil _)
/-! ### picture[x, y] -/
def spItem (C : Addr) : Sp := fun vs H Q _ => ∃ r R n t x y, vs = [.ref r, .ref t] ∧ PicAt C H r R ∧ Grid R n ∧ H t = some (CellO (x, y)) ∧ Q (.str (S (signAt R x y))) H
abbrev nItem : List Str := ["self", "at", "x", "y"]
theorem scItem : FnScope nItem ["self", "at"] (defScope cPictureGetitem) := ⟨rfl, rfl, rfl, by decide +kernel, rfl, by decide +kernel, by decide +kernel⟩
theorem ok_item {f fC : Addr} {fd dC' : FuncData} {ue : Value} (F : Fun K "__getitem__" "Picture.__getitem__" cPictureGetitem f fd) (T : PCls K C) (OC : FnOk P w K mg base CX0 1 fC dC' ["self", "x", "y"] (spContains C)) (mC : Meth K C "contains" fC) (bC : Binds K dC' ["self", "x", "y"] [])
    (cE : Con K C "EDGE" (.str "#") ue) : FnOk P w K mg base CX0 2 f fd ["self", "at"] (spItem C) := by
  refine F.ok scItem (fun vs H Q E h => ?_) (fun cdv A outer s H vs Q E hr h => ?_)
  · obtain ⟨r, R, n, t, x, y, rfl, _⟩ := h
    rfl
  · obtain ⟨r, R, n, t, x, y, rfl, hp, g, ht, k⟩ := h
    refine ⟨_, pss_cons (ps_asg (pv 1) (pg_tup rfl (pgs_cons (pg_name (i := 2) scItem.nd rfl (.inl rfl)) (pgs_cons (pg_name (i := 3) scItem.nd rfl (.inl rfl)) pgs_nil))))
      (pss_cons (ps_if (pt_not (pt_val (pe_meth (pv 0) T.cl mC OC hr bC .nil pass0 (pa_cons (pv 2) (pa_cons (pv 3) pa_nil))))) (pss_one (ps_ret (pe_con (pv 0) rfl))) pss_nil)
      (pss_one (ps_ret (pe_ix ix_str (pe_ix ix_list (pe_fld (pv 0) rfl) (pv 3) (fun _ _ => rfl)) (pv 2) (fun _ _ => rfl))))), ?_⟩
    have hp0 := hp
    obtain ⟨dx, l, h1, h2⟩ := hp
    refine ⟨_, rfl, t, [.int x, .int y], rfl, SqT.of ht, rfl, _, _, rfl, _, _, rfl, rfl, ?_⟩
    refine ⟨_, rfl, r, dx, _, rfl, h1, rfl, _, rfl, _, rfl, r, R, x, y, rfl, hp0, _, rfl, ?_⟩
    by_cases io : inB R x y = true
    · refine iteFe (by rw [io]; rfl) ?_
      obtain ⟨i, j, rfl, rfl, hi, hj⟩ := g.inside io
      obtain ⟨e1, m1, l1⟩ := g.at hj
      have w8 := g.w8
      have ge : (rowAt R j)[i]? = some ((rowAt R j).getD i 0) := by
        rw [List.getD_eq_getElem?_getD, List.getElem?_eq_getElem (by omega)]
        rfl
      unfold signAt at k
      rw [if_pos io] at k
      exact ⟨_, rfl, r, C, dx, _, _, rfl, h1, T.cl, T.nR, rfl, _, rfl, l, _, (j : Int), _, rfl, rfl, SqL.of h2, atI_nat (rowsV_get g hj), _, rfl, _, _, _, rfl, rfl, by rw [len_S, l1]; exact small_line (by omega), atI_nat ge, k⟩
    · unfold signAt at k
      rw [if_neg io] at k
      have io : inB R x y = false := by simpa using io
      refine iteTe (by rw [io]; rfl) ⟨_, rfl, r, C, dx, _, _, _, rfl, h1, T.cl, cE, rfl, ?_⟩
      rw [show ("#" : Str) = S [35] by decide +kernel]
      exact k
/-! ### first - second -/
def differ (R R2 : Rows) : List Cell := (allC (wideOf R).toNat R.length).filter fun c => decide (signAt R c.1 c.2 ≠ signAt R2 c.1 c.2)
end
end Pm
namespace Pm
open PySem PySem.Spec PyProof.Rows L2 SX
/-! ### != where the class has an own == and no own != -/
theorem on_plain : plainId "object.__ne__" = true := by decide +kernel
theorem on_bind (self : Value) : bindSpecial (.builtin "object.__ne__") self = pure (.builtin "object.__ne__", [self]) := rfl
section
variable {prog : Program} {w : World} {A : Around} {E : Value → Shared → Prop} {s : Shared} {K : PySem.W.Frag} {x C f : Addr} {ox : Obj} {od : Option Obj} {b tb : Value}
theorem ne_own {Q : Value → Shared → Prop} (hu : A.units + 1 < cLine) (X : K.In s.heap) (I : PySem.W.InstAt s.heap x ox C od) (hb : PySem.W.Looks (model prog w) s.heap (typeOf b) tb) (hn : PySem.W.notFirst K C tb = true)
    (sub : PySem.W.subIn K (.ref C) (.type "object") = some true) (ne : PySem.W.findIn K (.ref C) "__ne__" = some (some (.builtin "object.__ne__"))) (hs : PySem.W.findIn K (.ref C) "__eq__" = some (some (.ref f))) (hf : PySem.W.isFn K (.ref f) = true)
    (h : wpAny (model prog w) A.in1 (call (.ref f) [.ref x, b]) (fun v s' => ∃ c, v = .bool c ∧ Q (.bool (!c)) s') E s) : wpAny (model prog w) A (richCompare .NotEq (.ref x) b) Q E s := by
  have inst : PySem.W.Looks (model prog w) s.heap (isInstance (.ref x) (.type "object")) true := I.type.andThen (PySem.W.looks_subIn X sub)
  have body : wpAny (model prog w) A.in1 (Builtin.«object.__ne__» ⟨[.ref x, b], []⟩) (fun fin s' => ∃ v, fin = .done (.ret v) ∧ ∃ c, v = .bool c ∧ Q v s') E s := by
    unfold Builtin.«object.__ne__»
    refine wpAny_bind (m := slotArgs "__ne__" 1 _) (wpAny_pure ?_)
    refine wpAny_bind (wpAny_cRoomFor hu ?_)
    refine wpAny_bind (PySem.W.ifBound_K X I hs hf (wpAny_mono h (fun v s' hv => ?_) fun _ _ e => e))
    obtain ⟨c, rfl, q⟩ := hv
    refine wpAny_bind (wpAny_truthy_bool ?_)
    exact wpAny_pure ⟨_, rfl, _, rfl, q⟩
  have one : wpAny (model prog w) A (tryCompare (.ref x) "__ne__" b) (fun r s' => ∃ v, r = some v ∧ Q v s') E s := by
    unfold tryCompare
    simp only [callSpecialIfBound?, bindSpecialIfBound?]
    have fin : wpAny (model prog w) A (call (.builtin "object.__ne__") ([.ref x] ++ [b])) (fun v s' => ∃ c, v = .bool c ∧ Q v s') E s := by
      refine wpAny_call (codeAny_call_builtin on_plain F.cmpEntry_ne (PySem.W.check_slot F.cmpKind_ne F.cmpSplit_ne inst (F.cmpArgs_ne _ _) (wpAny_mono body (fun fin s' z => ?_) fun _ _ e => e)))
      obtain ⟨v, rfl, c, rfl, q⟩ := z
      exact ⟨c, rfl, q⟩
    refine wpAny_bind (wpAny_holding (wpAny_bind (wpAny_bind (wpAny_bind (I.type.here ((PySem.W.looks_findIn X ne).here ?_))))))
    refine wpAny_bind (wpAny_askSetting (wpAny_ite ?_))
    have go : wpAny (model prog w) A (call (.builtin "object.__ne__") ([.ref x] ++ [b]) >>= fun v => pure (some v)) (fun r s' => wpAny (model prog w) A (match r with
      | some .notImplemented | none => pure none
      | some v => pure (some v)) (fun r s' => ∃ v, r = some v ∧ Q v s') E s') E s := by
      refine wpAny_bind (wpAny_mono fin (fun v s' z => ?_) fun _ _ e => e)
      obtain ⟨c, rfl, q⟩ := z
      exact wpAny_pure (wpAny_pure ⟨_, rfl, q⟩)
    split
    · rw [on_bind]
      exact wpAny_bind (wpAny_pure (wpAny_pure go))
    · rw [on_bind]
      exact wpAny_tryCatch (wpAny_bind (wpAny_pure (wpAny_pure go)))
  unfold richCompare
  simp only [oneThing_ref]
  refine wpAny_holding (wpAny_bind (wpAny_cRoomFor (by omega) ?_))
  refine wpAny_bind (I.type.here (wpAny_bind (hb.here ?_)))
  have fin : wpAny (model prog w) A (tryCompare (.ref x) (cmpInfo .NotEq).2.1 b) (fun r s' => ∃ v, r = some v ∧ Q v s') E s := one
  split
  · rename_i q
    have e : PySem.W.subIn K tb (.ref C) = some false := by
      rcases Bool.or_eq_true_iff.mp hn with e | e
      · rw [beq_iff_eq.mp e] at q
        simp at q
      · exact beq_iff_eq.mp e
    refine wpAny_bind ((PySem.W.looks_subIn X e).here ?_)
    simp only [if_false, Bool.false_eq_true]
    refine wpAny_bind (wpAny_mono fin (fun r s' z => ?_) fun _ _ e => e)
    obtain ⟨v, rfl, hq⟩ := z
    exact wpAny_pure hq
  · refine wpAny_bind (wpAny_pure ?_)
    simp only [if_false, Bool.false_eq_true]
    refine wpAny_bind (wpAny_mono fin (fun r s' z => ?_) fun _ _ e => e)
    obtain ⟨v, rfl, hq⟩ := z
    exact wpAny_pure hq
end
structure OwnN (K : PySem.W.Frag) (C : Addr) : Prop where
  sub : PySem.W.subIn K (.ref C) (.type "object") = some true
  ne : PySem.W.findIn K (.ref C) "__ne__" = some (some (.builtin "object.__ne__"))
end Pm
namespace Pm
open PySem PySem.Spec PyProof.Rows L2 SX
/-! ### X(), X an own exception class -/
theorem pmk_own0 {X : Cx} {C : Addr} {bmB : List Value} {B newId initId : String} {x : Str} {p pos : Pos} (F : ExcBaseFacts B newId initId bmB) (q : PySem.W.excIn X.K C bmB newId = true) (gC : X.mg x = some (.ref C)) (kC : PySem.W.keepIn X.K (.ref C) = true) (r : Raises X (.ref C)) (hg : Gl X x)
    (dbg : (x == ("__debug__" : Str)) = false := by decide) : PMk X (.Call (.Name x p) [] [] pos) (fun _ H Q => Q (.ref C) none H) := by
  intro pins s σ H Q I h
  refine wpAny_Call_Name_kw (ld_glob I hg gC ?_ dbg)
  refine PySem.W.callWith_K0 I.kIn kC ?_
  obtain ⟨bm, N, nm, qn, bs, hdct, sn, sub, ab, col, dd, k0, k1, k2, k3, k5, mN, lkC, lkN, noI, tl⟩ := exc_obj I.kIn q
  exact wpAny_call_exc_subT F tl lkC lkN noI (fun h' e made => mk_of I made r h (I.hok.gone made.new)) (Nat.zero_le _)
/-! ### some of the cells of a list -/
theorem filt {K : PySem.W.Frag} {H1 : Hp} {a : Addr} {ks : CL} {i : Nat} {σ : L2.St} {σx : V → L2.St} {tt : TT} {p : Cell → Bool} {Q : VK} (hgn : ∀ x G (R : L2.St → Hp → Prop), R (σx x) G → gName i x (wipe σ [i]) G R) (hw : ∀ x, wipe (σx x) [i] = wipe σ [i]) (hv : ∀ x G (R : VK), R x G → tVar i (σx x) G R)
    (ha : H1 a = some (.lst (refs ks))) (ht : Tups H1 ks) (few : ks.length ≤ 900) (test : ∀ t c G (R : Bool → Hp → Prop), Same H1 G → G t = some (CellO c) → c ∈ cellsOf ks → R (p c) G → tt (σx (.ref t)) G R)
    (k : ∀ D ms G, Same H1 G → H1 D = none → G D = some (.lst (refs ms)) → Tups G ms → cellsOf ms = (cellsOf ks).filter p → Q (.ref D) G) : tLc (fun _ H R => R (Itl K a) H) (gName i) tt (tVar i) [i] σ H1 Q := by
  intro D nD
  have len : (refs ks).length = (cellsOf ks).length := by
    unfold refs cellsOf
    rw [List.length_map, List.length_map]
  have lenk : (cellsOf ks).length = ks.length := List.length_map _
  refine lc_list (K := K) (a := a) (xs := refs ks) (fun j G => Same H1 G ∧ ∃ ms, G D = some (.lst (refs ms)) ∧ Tups G ms ∧ cellsOf ms = ((cellsOf ks).take j).filter p) ⟨same_upd nD, [], upd_same, (fun q hq => nomatch hq), rfl⟩ (fun j G _ ⟨sm, _⟩ => SqL.of (sm _ _ ha)) ?_ ?_
  · rintro j x G hx ⟨sm, ms, hD, hm, em⟩
    obtain ⟨t, c, hi, rfl⟩ := refs_at hx
    have mem := List.mem_of_getElem? hi
    have htc : G t = some (CellO c) := sm _ _ (ht _ mem)
    have cj : (cellsOf ks)[j]? = some c := by
      unfold cellsOf
      rw [List.getElem?_map, hi]
      rfl
    have tk : ((cellsOf ks).take (j + 1)).filter p = ((cellsOf ks).take j).filter p ++ (if p c = true then [c] else []) := by
      rw [List.take_add_one, cj, List.filter_append]
      congr 1
      by_cases pc : p c = true
      · rw [if_pos pc]
        simp [pc]
      · rw [if_neg pc]
        simp [pc]
    have fewm : ms.length ≤ 900 := by
      have z := congrArg List.length em
      have y := List.length_filter_le p ((cellsOf ks).take j)
      rw [List.length_take] at y
      rw [show (cellsOf ms).length = ms.length from List.length_map _] at z
      omega
    refine hgn _ _ _ ⟨hw _, test t c G _ sm htc (List.mem_of_getElem? cj) ?_⟩
    by_cases pc : p c = true
    · rw [if_pos pc] at tk
      refine iteTe pc (hv _ _ _ ⟨refs ms, hD, ?_, fun b o e => ?_, ms ++ [(t, c)], ?_, ?_, ?_⟩)
      · unfold refs
        rw [List.length_map]
        exact small1000 (by omega)
      · rw [upd_ne (ne_of_none e nD)]
        exact sm _ _ e
      · rw [upd_same]
        unfold refs
        rw [List.map_append]
        rfl
      · intro q hq
        rcases List.mem_append.mp hq with y | y
        · have z := hm q y
          rw [upd_ne (ne_of z hD (by intro q; cases q))]
          exact z
        · rw [List.mem_singleton.mp y, upd_ne (ne_of htc hD (by intro q; cases q))]
          exact htc
      · rw [tk, ← em]
        unfold cellsOf
        rw [List.map_append]
        rfl
    · rw [if_neg pc, List.append_nil] at tk
      exact iteFe (by simpa using pc) ⟨sm, ms, hD, hm, by rw [tk]; exact em⟩
  · rintro G ⟨sm, ms, hD, hm, em⟩
    rw [List.take_of_length_le (by omega)] at em
    exact k D ms G sm nD hD hm em
/-! ### a new region -/
section
variable {P : Program} {w : World} {K : PySem.W.Frag} {mg : Str → Option Value} {base : Heap} {C CI CO CG CR CU : Addr}
theorem make_reg {CR : Addr} {H : Hp} {a : Addr} {ks : CL} {Q : VK} (ha : H a = some (.lst (refs ks))) (ht : Tups H ks) (few : ks.length ≤ 64) (k : ∀ z L H', Same H H' → H z = none → Reading (cellsOf ks) L → RegAt CR H' z L → Q (.ref z) H') :
    ∀ x dx, H x = none → H dx = none → dx ≠ x → spRInit K CR (.ref x :: ([.ref a] ++ [])) (upd (upd H dx (.own x)) x (.ins CR dx [])) (fun v H2 => v = .non ∧ Q (.ref x) H2) E0 := by
  intro x dx nx ndx nex
  have s2 := made_same (C := CR) nx ndx
  exact ⟨x, dx, a, ks, rfl, upd_same, SqL.of (s2 _ _ ha), ht.same s2, few, fun H4 M rd ra sb4 => ⟨rfl, k x M H4 (made_but nx ndx sb4) nx rd ra⟩⟩
theorem reading_asc {M L : List Cell} (h : Reading M L) (asc : M.Pairwise bef) : L = M := asc_uniq h.asc asc h.mem
/-! ### first - second -/
def spDiff (C CR CU : Addr) : Sp := fun vs H Q E => ∃ r q R R2 n n2, vs = [.ref r, .ref q] ∧ PicAt C H r R ∧ PicAt C H q R2 ∧ Grid R n ∧ Grid R2 n2 ∧ (¬ (n = n2 ∧ R.length = R2.length) → E (.ref CU) none H) ∧
  (n = n2 → R.length = R2.length → ∀ z H', Same H H' → H z = none → RegAt CR H' z (differ R R2) → Q (.ref z) H')
abbrev nDiff : List Str := ["self", "other", "cell"]
theorem scDiff : FnScope nDiff ["self", "other"] (defScope cPictureSub) := ⟨rfl, rfl, rfl, by decide +kernel, rfl, by decide +kernel, by decide +kernel⟩
theorem ok_diff {f fE fG fI : Addr} {fd dE dG dI : FuncData} (F : Fun K "__sub__" "Picture.__sub__" cPictureSub f fd) (T : PCls K C) (OE : FnOk P w K mg base CX0 1 fE dE ["self"] (spEvery C)) (mE : Meth K C "every_cell" fE) (bE : Binds K dE ["self"] [])
    (OG : FnOk P w K mg base CX0 2 fG dG ["self", "at"] (spItem C)) (mG : OwnM K C "__getitem__" fG) (fi : PySem.W.fnIn K fG = true) (bG : Binds K dG ["self", "at"] [])
    (OI : FnOk P w K mg base CX0 1 fI dI ["self", "cells"] (spRInit K CR)) (M : Mk K CR fI) (bI : Binds K dI ["self", "cells"] []) (gR : mg "Region" = some (.ref CR))
    (xU : PySem.W.excIn K CU [.type "ValueError", .type "Exception", .type "BaseException", .type "object"] "ValueError.__new__" = true) (gU : mg "UnequalSize" = some (.ref CU)) (kU : PySem.W.keepIn K (.ref CU) = true) (s1 : PySem.W.subIn K (.ref CU) (.type "BaseException") = some true) (s2 : PySem.W.typeIn K (.ref CU) = some (.type "type")) :
    FnOk P w K mg base (L2.CX P w) 4 f fd ["self", "other"] (spDiff C CR CU) := by
  refine F.okX scDiff (fun vs H Q E h => ?_) (fun cdv A outer s H vs Q E hr h => ?_)
  · obtain ⟨r, q, R, R2, n, n2, rfl, _⟩ := h
    rfl
  · obtain ⟨r, q, R, R2, n, n2, rfl, hp, hq, g, g2, bad, good⟩ := h
    have hr1 : Room 1 _ := hr.mono (by decide)
    have hr2 : Room 2 _ := hr.mono (by decide)
    refine ⟨_, pss_cons (ps_if (PW.pt (pw_or (pt_cmpR op_ne (pe_fld (pv 0) rfl) (pe_fld (pv 1) rfl) (nomark _)) (pw_or1 (pt_cmpR op_ne (pe_fld (pv 0) rfl) (pe_fld (pv 1) rfl) (nomark _))))) (pss_one (ps_raise rfl (takes_of rfl rfl rfl rfl) (pmk_own0 PySem.F.excBase_ValueError xU gU kU (raises_own s1 s2) (by rfl)))) pss_nil)
      (pss_one (ps_ret (pe_make M OI hr2 (by rfl) gR bI .nil pass0 (pa_cons (pe_lc (own := [("cell", 2)]) (g := gName 2) (tt := tTest (tOp rNe (tOp (rItem C (spItem C)) (tVar 0) (tVar 2)) (tOp (rItem C (spItem C)) (tVar 1) (tVar 2)))) (te := tVar 2) rfl scDiff.nd (pi_list (pe_meth0 (pv 0) T.cl mE OE hr1 bE .nil pass0))
        (blkOk_by (own := [("cell", 2)]) (N := nDiff) (sc := defScope cPictureSub) (by decide +kernel)) (fun _ _ _ _ _ => pg_name (i := 2) scDiff.nd rfl (Or.inl rfl)) (fun _ _ _ _ _ => pts_one (pt_cmpR op_ne (pe_item OG hr bG mG fi (pv 0) (pv 2)) (pe_item OG hr bG mG fi (pv 1) (pv 2)) (nomark _)))
        (fun _ _ _ _ _ => pv 2)) pa_nil)))), ?_⟩
    have ew := g.wide
    have ew2 := g2.wide
    have hp0 := hp
    have hq0 := hq
    obtain ⟨dx, l, h1, h2⟩ := hp
    obtain ⟨dy, l2, h3, h4⟩ := hq
    refine ⟨_, rfl, r, C, dx, _, _, rfl, h1, T.cl, T.nW, rfl, _, rfl, q, C, dy, _, _, rfl, h3, T.cl, T.nW, rfl, rfl, _, rfl, ?_⟩
    by_cases en : n = n2
    · refine iteFe (by rw [ew, ew2, en]; simp) ?_
      refine ⟨_, rfl, r, C, dx, _, _, rfl, h1, T.cl, T.nH, rfl, _, rfl, q, C, dy, _, _, rfl, h3, T.cl, T.nH, rfl, rfl, _, rfl, ?_⟩
      by_cases el : R.length = R2.length
      · refine iteFe (by rw [el]; simp) ?_
        refine ⟨_, rfl, r, dx, _, rfl, h1, rfl, r, R, n, rfl, hp0, g, fun p ks H1 sm1 np hpk hks eks => ?_⟩
        have lks : ks.length ≤ 64 := by
          have z := congrArg List.length eks
          rw [allC_len, show (cellsOf ks).length = ks.length from List.length_map _] at z
          have := Nat.mul_le_mul g.h8 g.w8
          omega
        refine ⟨p, rfl, ⟨_, SqL.of hpk⟩, ?_⟩
        refine filt (K := K) (tt := tTest (tOp rNe (tOp (rItem C (spItem C)) (tVar 0) (tVar 2)) (tOp (rItem C (spItem C)) (tVar 1) (tVar 2)))) (Q := fun v H1 => ∀ x dx, H1 x = none → H1 dx = none → dx ≠ x → spRInit K CR (.ref x :: ([v] ++ [])) (upd (upd H1 dx (.own x)) x (.ins CR dx [])) (fun v H2 => v = .non ∧ Q (.ref x) H2) E0) (i := 2) (σ := [some (.ref r), some (.ref q), none]) (σx := fun x => [some (.ref r), some (.ref q), some x]) (p := fun c => decide (signAt R c.1 c.2 ≠ signAt R2 c.1 c.2)) (fun x G R h => h) (fun x => rfl) (fun x G R h => ⟨_, rfl, h⟩) hpk hks (by omega) (fun t c G Rr sm htc hc hR => ?_) fun D ms G sm nD hD hm em => ?_
        · have sG := sm1.trans sm
          have eb : (!decide (V.str (S (signAt R c.1 c.2)) = V.str (S (signAt R2 c.1 c.2)))) = decide (signAt R c.1 c.2 ≠ signAt R2 c.1 c.2) := by
            by_cases z : signAt R c.1 c.2 = signAt R2 c.1 c.2
            · simp [z]
            · have z2 : ¬ S (signAt R c.1 c.2) = S (signAt R2 c.1 c.2) := fun y => z (S_inj y)
              simp [z, z2]
          refine ⟨_, rfl, _, rfl, r, dx, _, rfl, sG _ _ h1, r, R, n, t, c.1, c.2, rfl, hp0.same sG, g, htc, _, rfl, _, rfl, q, dy, _, rfl, sG _ _ h3, q, R2, n2, t, c.1, c.2, rfl, hq0.same sG, g2, htc, rfl, _, rfl, ?_⟩
          rw [eb]
          exact hR
        · have sG := sm1.trans sm
          have lms : ms.length ≤ 64 := by
            have z := congrArg List.length em
            have y := List.length_filter_le (fun c => decide (signAt R c.1 c.2 ≠ signAt R2 c.1 c.2)) (cellsOf ks)
            rw [show (cellsOf ms).length = ms.length from List.length_map _] at z
            rw [show (cellsOf ks).length = ks.length from List.length_map _] at y
            omega
          refine make_reg hD hm lms fun z L H' s2' nz rd ra => good en el z H' (sG.trans s2') (back sG nz) ?_
          have eL : L = differ R R2 := by
            rw [em, eks] at rd
            unfold differ
            rw [ew, Int.toNat_natCast]
            exact reading_asc rd ((allC_asc n R.length).sublist List.filter_sublist)
          rw [← eL]
          exact ra
      · refine iteTe (by simp only [V.int.injEq]; rw [decide_eq_false (by omega)]; rfl) (bad fun z => el z.2)
    · refine iteTe (by rw [ew, ew2]; simp only [V.int.injEq]; rw [decide_eq_false (by omega)]; rfl) (bad fun z => en z.1)
end
end Pm
namespace Pm
open PySem PySem.Spec PyProof.Rows L2 SX
/-! ### stones, holes -/
def stonesOf (R : Rows) (n : Nat) : List Cell := (allC n R.length).filter fun c => decide (signAt R c.1 c.2 ≠ [46])
def holesOf (R : Rows) (n : Nat) : List Cell := (allC n R.length).filter fun c => decide (signAt R c.1 c.2 = [46])
theorem str_ne (z : List Nat) : (!decide (V.str (S z) = V.str ("." : Str))) = decide (z ≠ [46]) := by
  rw [dot_S]
  by_cases e : z = [46]
  · simp [e]
  · have e2 : ¬ S z = S [46] := fun y => e (S_inj y)
    simp [e, e2]
theorem str_eq (z : List Nat) : decide (V.str (S z) = V.str ("." : Str)) = decide (z = [46]) := by
  rw [dot_S]
  by_cases e : z = [46]
  · simp [e]
  · have e2 : ¬ S z = S [46] := fun y => e (S_inj y)
    simp [e, e2]
/-! ### their number -/
theorem range_filter (p : Nat → Bool) : ∀ r : List Nat, ((List.range r.length).filter fun i => p (r.getD i 0)).length = (r.filter p).length := by
  intro r
  have e : r = (List.range r.length).map fun i => r.getD i 0 := by
    refine List.ext_getElem (by simp) fun i h1 h2 => ?_
    simp [List.getD_eq_getElem?_getD, h1]
  have e2 : (r.filter p).length = (((List.range r.length).map fun i => r.getD i 0).filter p).length := by rw [← e]
  rw [e2, List.filter_map, List.length_map]
  rfl
theorem row_stones {R : Rows} {n j : Nat} (g : Grid R n) (hj : j < R.length) : ((rowC n j).filter fun c => decide (signAt R c.1 c.2 ≠ [46])).length = ((rowAt R j).filter fun c => c != 46).length := by
  obtain ⟨e1, m1, l1⟩ := g.at hj
  unfold rowC
  have z := range_filter (fun c => c != 46) (rowAt R j)
  rw [l1] at z
  rw [List.filter_map, List.length_map, ← z]
  congr 1
  refine List.filter_congr fun i hi => ?_
  have hi := List.mem_range.mp hi
  show decide (signAt R ((i : Nat) : Int) ((j : Nat) : Int) ≠ [46]) = _
  have es : signAt R ((i : Nat) : Int) ((j : Nat) : Int) = [(rowAt R j).getD i 0] := by
    unfold signAt
    rw [if_pos (inB_in g (by omega) (by omega) (by omega) (by omega))]
    rfl
  generalize signAt R ((i : Nat) : Int) ((j : Nat) : Int) = sg at es
  subst es
  generalize (rowAt R j).getD i 0 = d
  by_cases z : d = 46
  · simp [z]
  · simp [z]
def signsOf (R : Rows) : List Nat := R.flatMap fun r => r.filter fun c => c != 46
theorem signs_count {R : Rows} {n : Nat} (g : Grid R n) : ∀ m, m ≤ R.length → ((allC n m).filter fun c => decide (signAt R c.1 c.2 ≠ [46])).length = (signsOf (R.take m)).length
  | 0, _ => rfl
  | m + 1, h => by
    have ih := signs_count g m (by omega)
    obtain ⟨e1, _, _⟩ := g.at (show m < R.length by omega)
    have e2 : R.take (m + 1) = R.take m ++ [rowAt R m] := by
      rw [List.take_add_one, e1]
      rfl
    show ((allC n m ++ rowC n m).filter _).length = _
    rw [List.filter_append, List.length_append, ih, row_stones g (by omega), e2]
    unfold signsOf
    rw [List.flatMap_append, List.length_append]
    simp
theorem stones_count {R : Rows} {n : Nat} (g : Grid R n) : (signsOf R).length = (stonesOf R n).length := by
  have e := signs_count g R.length (Nat.le_refl _)
  rw [List.take_of_length_le (Nat.le_refl _)] at e
  exact e.symm
theorem stones_le {R : Rows} {n : Nat} (g : Grid R n) : (stonesOf R n).length ≤ 64 := by
  have y := List.length_filter_le (fun c => decide (signAt R c.1 c.2 ≠ [46])) (allC n R.length)
  rw [allC_len] at y
  have := Nat.mul_le_mul g.h8 g.w8
  exact Nat.le_trans y this
section
variable {P : Program} {w : World} {K : PySem.W.Frag} {mg : Str → Option Value} {base : Heap} {C CI CO CG CR CU : Addr}
def spSome (C CR : Addr) (f : Rows → Nat → List Cell) : Sp := fun vs H Q _ => ∃ r R n, vs = [.ref r] ∧ PicAt C H r R ∧ Grid R n ∧ ∀ z H', Same H H' → H z = none → RegAt CR H' z (f R n) → Q (.ref z) H'
abbrev nSome : List Str := ["self", "cell"]
theorem scStones : FnScope nSome ["self"] (defScope cPictureStones) := ⟨rfl, rfl, rfl, by decide +kernel, rfl, by decide +kernel, by decide +kernel⟩
theorem scHoles : FnScope nSome ["self"] (defScope cPictureHoles) := ⟨rfl, rfl, rfl, by decide +kernel, rfl, by decide +kernel, by decide +kernel⟩
theorem ok_stones {f fE fG fI : Addr} {fd dE dG dI : FuncData} {uh : Value} (F : Fun K "stones" "Picture.stones" cPictureStones f fd) (T : PCls K C) (OE : FnOk P w K mg base CX0 1 fE dE ["self"] (spEvery C)) (mE : Meth K C "every_cell" fE) (bE : Binds K dE ["self"] [])
    (OG : FnOk P w K mg base CX0 2 fG dG ["self", "at"] (spItem C)) (mG : OwnM K C "__getitem__" fG) (fi : PySem.W.fnIn K fG = true) (bG : Binds K dG ["self", "at"] []) (cH : Con K C "HOLE" (.str ".") uh)
    (OI : FnOk P w K mg base CX0 1 fI dI ["self", "cells"] (spRInit K CR)) (M : Mk K CR fI) (bI : Binds K dI ["self", "cells"] []) (gR : mg "Region" = some (.ref CR)) : FnOk P w K mg base CX0 4 f fd ["self"] (spSome C CR stonesOf) := by
  refine F.ok scStones (fun vs H Q E h => ?_) (fun cdv A outer s H vs Q E hr h => ?_)
  · obtain ⟨r, R, n, rfl, _⟩ := h
    rfl
  · obtain ⟨r, R, n, rfl, hp, g, k⟩ := h
    have hr1 : Room 1 _ := hr.mono (by decide)
    have hr2 : Room 2 _ := hr.mono (by decide)
    refine ⟨_, pss_one (ps_ret (pe_make M OI hr2 (by rfl) gR bI .nil pass0 (pa_cons (pe_lc (own := [("cell", 1)]) (g := gName 1) (tt := tTest (tOp rNe (tOp (rItem C (spItem C)) (tVar 0) (tVar 1)) (tCon K (tVar 0) "HOLE"))) (te := tVar 1) rfl scStones.nd (pi_list (pe_meth0 (pv 0) T.cl mE OE hr1 bE .nil pass0))
        (blkOk_by (own := [("cell", 1)]) (N := nSome) (sc := defScope cPictureStones) (by decide +kernel)) (fun _ _ _ _ _ => pg_name (i := 1) scStones.nd rfl (Or.inl rfl)) (fun _ _ _ _ _ => pts_one (pt_cmpR op_ne (pe_item OG hr bG mG fi (pv 0) (pv 1)) (pe_con (pv 0) rfl) (nomark _)))
        (fun _ _ _ _ _ => pv 1)) pa_nil))), ?_⟩
    have hp0 := hp
    obtain ⟨dx, l, h1, h2⟩ := hp
    refine ⟨_, rfl, r, dx, _, rfl, h1, rfl, r, R, n, rfl, hp0, g, fun p ks H1 sm1 np hpk hks eks => ?_⟩
    have lks : ks.length ≤ 64 := by
      have z := congrArg List.length eks
      rw [allC_len, show (cellsOf ks).length = ks.length from List.length_map _] at z
      have := Nat.mul_le_mul g.h8 g.w8
      omega
    refine ⟨p, rfl, ⟨_, SqL.of hpk⟩, ?_⟩
    refine filt (K := K) (tt := tTest (tOp rNe (tOp (rItem C (spItem C)) (tVar 0) (tVar 1)) (tCon K (tVar 0) "HOLE"))) (Q := fun v H1 => ∀ x dx, H1 x = none → H1 dx = none → dx ≠ x → spRInit K CR (.ref x :: ([v] ++ [])) (upd (upd H1 dx (.own x)) x (.ins CR dx [])) (fun v H2 => v = .non ∧ Q (.ref x) H2) E0) (i := 1) (σ := [some (.ref r), none]) (σx := fun x => [some (.ref r), some x]) (p := fun c => decide (signAt R c.1 c.2 ≠ [46]))
      (fun x G R h => h) (fun x => rfl) (fun x G R h => ⟨_, rfl, h⟩) hpk hks (by omega) (fun t c G Rr sm htc hc hR => ?_) fun D ms G sm nD hD hm em => ?_
    · have sG := sm1.trans sm
      refine ⟨_, rfl, _, rfl, r, dx, _, rfl, sG _ _ h1, r, R, n, t, c.1, c.2, rfl, hp0.same sG, g, htc, _, rfl, r, C, dx, _, _, _, rfl, sG _ _ h1, T.cl, cH, rfl, rfl, _, rfl, ?_⟩
      rw [str_ne]
      exact hR
    · have sG := sm1.trans sm
      have lms : ms.length ≤ 64 := by
        have z := congrArg List.length em
        have y := List.length_filter_le (fun c => decide (signAt R c.1 c.2 ≠ [46])) (cellsOf ks)
        rw [show (cellsOf ms).length = ms.length from List.length_map _] at z
        rw [show (cellsOf ks).length = ks.length from List.length_map _] at y
        omega
      refine make_reg hD hm lms fun z L H' s2' nz rd ra => k z H' (sG.trans s2') (back sG nz) ?_
      have eL : L = stonesOf R n := by
        rw [em, eks] at rd
        exact reading_asc rd ((allC_asc n R.length).sublist List.filter_sublist)
      rw [← eL]
      exact ra
theorem ok_holes {f fE fG fI : Addr} {fd dE dG dI : FuncData} {uh : Value} (F : Fun K "holes" "Picture.holes" cPictureHoles f fd) (T : PCls K C) (OE : FnOk P w K mg base CX0 1 fE dE ["self"] (spEvery C)) (mE : Meth K C "every_cell" fE) (bE : Binds K dE ["self"] [])
    (OG : FnOk P w K mg base CX0 2 fG dG ["self", "at"] (spItem C)) (mG : OwnM K C "__getitem__" fG) (fi : PySem.W.fnIn K fG = true) (bG : Binds K dG ["self", "at"] []) (cH : Con K C "HOLE" (.str ".") uh)
    (OI : FnOk P w K mg base CX0 1 fI dI ["self", "cells"] (spRInit K CR)) (M : Mk K CR fI) (bI : Binds K dI ["self", "cells"] []) (gR : mg "Region" = some (.ref CR)) : FnOk P w K mg base CX0 4 f fd ["self"] (spSome C CR holesOf) := by
  refine F.ok scHoles (fun vs H Q E h => ?_) (fun cdv A outer s H vs Q E hr h => ?_)
  · obtain ⟨r, R, n, rfl, _⟩ := h
    rfl
  · obtain ⟨r, R, n, rfl, hp, g, k⟩ := h
    have hr1 : Room 1 _ := hr.mono (by decide)
    have hr2 : Room 2 _ := hr.mono (by decide)
    refine ⟨_, pss_one (ps_ret (pe_make M OI hr2 (by rfl) gR bI .nil pass0 (pa_cons (pe_lc (own := [("cell", 1)]) (g := gName 1) (tt := tTest (tOp rEq (tOp (rItem C (spItem C)) (tVar 0) (tVar 1)) (tCon K (tVar 0) "HOLE"))) (te := tVar 1) rfl scHoles.nd (pi_list (pe_meth0 (pv 0) T.cl mE OE hr1 bE .nil pass0))
        (blkOk_by (own := [("cell", 1)]) (N := nSome) (sc := defScope cPictureHoles) (by decide +kernel)) (fun _ _ _ _ _ => pg_name (i := 1) scHoles.nd rfl (Or.inl rfl)) (fun _ _ _ _ _ => pts_one (pt_cmpR op_eq (pe_item OG hr bG mG fi (pv 0) (pv 1)) (pe_con (pv 0) rfl) (nomark _)))
        (fun _ _ _ _ _ => pv 1)) pa_nil))), ?_⟩
    have hp0 := hp
    obtain ⟨dx, l, h1, h2⟩ := hp
    refine ⟨_, rfl, r, dx, _, rfl, h1, rfl, r, R, n, rfl, hp0, g, fun p ks H1 sm1 np hpk hks eks => ?_⟩
    have lks : ks.length ≤ 64 := by
      have z := congrArg List.length eks
      rw [allC_len, show (cellsOf ks).length = ks.length from List.length_map _] at z
      have := Nat.mul_le_mul g.h8 g.w8
      omega
    refine ⟨p, rfl, ⟨_, SqL.of hpk⟩, ?_⟩
    refine filt (K := K) (tt := tTest (tOp rEq (tOp (rItem C (spItem C)) (tVar 0) (tVar 1)) (tCon K (tVar 0) "HOLE"))) (Q := fun v H1 => ∀ x dx, H1 x = none → H1 dx = none → dx ≠ x → spRInit K CR (.ref x :: ([v] ++ [])) (upd (upd H1 dx (.own x)) x (.ins CR dx [])) (fun v H2 => v = .non ∧ Q (.ref x) H2) E0) (i := 1) (σ := [some (.ref r), none]) (σx := fun x => [some (.ref r), some x]) (p := fun c => decide (signAt R c.1 c.2 = [46]))
      (fun x G R h => h) (fun x => rfl) (fun x G R h => ⟨_, rfl, h⟩) hpk hks (by omega) (fun t c G Rr sm htc hc hR => ?_) fun D ms G sm nD hD hm em => ?_
    · have sG := sm1.trans sm
      refine ⟨_, rfl, _, rfl, r, dx, _, rfl, sG _ _ h1, r, R, n, t, c.1, c.2, rfl, hp0.same sG, g, htc, _, rfl, r, C, dx, _, _, _, rfl, sG _ _ h1, T.cl, cH, rfl, rfl, _, rfl, ?_⟩
      rw [str_eq]
      exact hR
    · have sG := sm1.trans sm
      have lms : ms.length ≤ 64 := by
        have z := congrArg List.length em
        have y := List.length_filter_le (fun c => decide (signAt R c.1 c.2 = [46])) (cellsOf ks)
        rw [show (cellsOf ms).length = ms.length from List.length_map _] at z
        rw [show (cellsOf ks).length = ks.length from List.length_map _] at y
        omega
      refine make_reg hD hm lms fun z L H' s2' nz rd ra => k z H' (sG.trans s2') (back sG nz) ?_
      have eL : L = holesOf R n := by
        rw [em, eks] at rd
        exact reading_asc rd ((allC_asc n R.length).sublist List.filter_sublist)
      rw [← eL]
      exact ra
/-! ### len(picture) -/
def spLenP (C : Addr) : Sp := fun vs H Q _ => ∃ r R n, vs = [.ref r] ∧ PicAt C H r R ∧ Grid R n ∧ ∀ H', Same H H' → Q (.int ((stonesOf R n).length : Int)) H'
abbrev nLenP : List Str := ["self", "row", "sign"]
theorem scLenP : FnScope nLenP ["self"] (defScope cPictureLen) := ⟨rfl, rfl, rfl, by decide +kernel, rfl, by decide +kernel, by decide +kernel⟩
theorem ok_lenp {f : Addr} {fd : FuncData} {uh : Value} (F : Fun K "__len__" "Picture.__len__" cPictureLen f fd) (L : LTxt K mg) (T : PCls K C) (cH : Con K C "HOLE" (.str ".") uh) : FnOk P w K mg base CX0 1 f fd ["self"] (spLenP C) := by
  refine F.ok scLenP (fun vs H Q E h => ?_) (fun cdv A outer s H vs Q E hr h => ?_)
  · obtain ⟨r, R, n, rfl, _⟩ := h
    rfl
  · obtain ⟨r, R, n, rfl, ⟨dx, l, h1, h2⟩, g, k⟩ := h
    refine ⟨_, pss_one (ps_ret (pe_callB call_len_seq (by rfl) L.len PySem.boot_len (pa_cons (pe_lc2 (own := [("row", 1), ("sign", 2)]) (vs1 := [2]) (g := gName 1) (g1 := gName 2) (tt := tYes) (tt1 := tTest (tOp rNe (tVar 2) (tCon K (tVar 0) "HOLE"))) (wi1 := iStr (tVar 1)) (te := tVar 2) rfl scLenP.nd (pi_list (pe_fld (pv 0) rfl)) (blkOk_by (own := [("row", 1), ("sign", 2)]) (N := nLenP) (sc := defScope cPictureLen) (by decide +kernel)) (by decide)
      (fun _ _ _ _ _ => pg_name (i := 1) scLenP.nd rfl (.inl rfl)) (fun _ _ _ _ _ => pts_nil) (fun _ _ _ _ _ => pi_str (pv 1)) (fun _ _ _ _ _ => pg_name (i := 2) scLenP.nd rfl (.inl rfl)) (fun _ _ _ _ _ => pts_one (pt_cmpR op_ne (pv 2) (pe_con (pv 0) rfl) (nomark _))) (fun _ _ _ _ _ => pv 2)) pa_nil))), ?_⟩
    have w8 := g.w8
    have h8 := g.h8
    refine ⟨_, rfl, r, C, dx, _, _, rfl, h1, T.cl, T.nR, rfl, l, rfl, ⟨_, SqL.of h2⟩, fun D nD => ?_⟩
    let strL : List Nat → List V := fun z => z.map fun c => V.str (S [c])
    refine ⟨fun j m G => m = R.length - j ∧ j ≤ R.length ∧ Same H G ∧ G D = some (.lst (strL (signsOf (R.take j)))), ⟨R.length, by simp, Nat.zero_le _, same_upd nD, upd_same⟩, ?_⟩
    rintro j m G ⟨rfl, hj, sG, hD⟩
    have hl : G l = some (.lst (rowsV R)) := sG _ _ h2
    by_cases lt : j < R.length
    · obtain ⟨e1, m1, l1⟩ := g.at lt
      have ev := rowsV_get g lt
      refine .inr ⟨⟨rowsV R, _, SqL.of hl, ev⟩, fun G => Same H G ∧ G D = some (.lst (strL (signsOf (R.take (j + 1))))), fun G' p' => ⟨R.length - (j + 1), by omega, rfl, lt, p'⟩, fun x G' y => ?_⟩
      obtain ⟨rfl, y⟩ := y
      have z := y _ (SqL.of hl)
      rw [ev] at z
      obtain rfl := Option.some.inj z
      clear y z
      have next : signsOf (R.take (j + 1)) = signsOf (R.take j) ++ (rowAt R j).filter fun c => c != 46 := by
        have e2 : R.take (j + 1) = R.take j ++ [rowAt R j] := by
          rw [List.take_add_one, e1]
          rfl
        rw [e2]
        unfold signsOf
        rw [List.flatMap_append]
        simp
      have few : (signsOf (R.take j)).length ≤ 64 := by
        rw [← signs_count g j hj]
        have y := List.length_filter_le (fun c => decide (signAt R c.1 c.2 ≠ [46])) (allC n j)
        rw [allC_len] at y
        have := Nat.mul_le_mul (show j ≤ 8 by omega) w8
        exact Nat.le_trans y this
      have sz : (S (rowAt R j)).cps.size = n := by
        have z := len_S (rowAt R j)
        rw [l1] at z
        exact z
      refine ⟨rfl, tyes (iteT ⟨_, rfl, S (rowAt R j), rfl, ?_⟩)⟩
      refine ⟨fun i k G => k = n - i ∧ i ≤ n ∧ Same H G ∧ G D = some (.lst (strL (signsOf (R.take j) ++ ((rowAt R j).take i).filter fun c => c != 46))), ⟨n, by simp, Nat.zero_le _, sG, by rw [List.take_zero, List.filter_nil, List.append_nil]; exact hD⟩, ?_⟩
      rintro i m G1 ⟨rfl, hi, sG1, hD1⟩
      by_cases lti : i < n
      · refine .inr ⟨by show i < (S (rowAt R j)).cps.size; omega, fun G => Same H G ∧ G D = some (.lst (strL (signsOf (R.take j) ++ ((rowAt R j).take (i + 1)).filter fun c => c != 46))), fun G' p' => ⟨n - (i + 1), by omega, rfl, lti, p'⟩, fun x G' y => ?_⟩
        obtain ⟨rfl, c, hc, rfl⟩ := y
        have hc : (rowAt R j)[i]? = some c := by
          rw [← hc]
          show _ = ((rowAt R j).toArray)[i]?
          simp
        have tk : ((rowAt R j).take (i + 1)).filter (fun c => c != 46) = ((rowAt R j).take i).filter (fun c => c != 46) ++ (if c = 46 then [] else [c]) := by
          rw [List.take_add_one, hc, List.filter_append]
          congr 1
          by_cases z : c = 46 <;> simp [z]
        have few2 : (((rowAt R j).take i).filter fun c => c != 46).length ≤ 8 := by
          have y := List.length_filter_le (fun c => c != 46) ((rowAt R j).take i)
          rw [List.length_take] at y
          omega
        have eb : (!decide (V.str (S [c]) = V.str ("." : Str))) = decide ([c] ≠ [46]) := str_ne [c]
        refine ⟨rfl, _, rfl, _, rfl, r, C, dx, _, _, _, rfl, sG1 _ _ h1, T.cl, cH, rfl, rfl, _, rfl, ?_⟩
        by_cases z : c = 46
        · subst z
          refine iteFe (eb.trans (by decide)) ⟨sG1, ?_⟩
          rw [tk, if_pos rfl, List.append_nil]
          exact hD1
        · refine iteTe (eb.trans (decide_eq_true (fun y => z (by simpa using y)))) ⟨_, rfl, _, hD1, ?_, fun b o e => ?_, ?_⟩
          · rw [List.length_map, List.length_append]
            exact small1000 (by omega)
          · rw [upd_ne (ne_of_none e nD)]
            exact sG1 _ _ e
          · rw [upd_same, tk, if_neg z, ← List.append_assoc]
            show _ = some (HO.lst ((_ ++ [c]).map _))
            rw [List.map_append]
            rfl
      · have e : i = n := by omega
        subst e
        refine .inl ⟨by show (S (rowAt R j)).cps.size ≤ i; omega, sG1, ?_⟩
        rw [next]
        have tl : (rowAt R j).take i = rowAt R j := List.take_of_length_le (by omega)
        rw [tl] at hD1
        exact hD1
    · have e : j = R.length := by omega
      subst e
      rw [List.take_of_length_le (Nat.le_refl _)] at hD
      refine .inl ⟨⟨rowsV R, SqL.of hl, by rw [rowsV_len]; exact Nat.le_refl _⟩, D, _, rfl, .inl (SqL.of hD), ?_⟩
      have z := k G sG
      rw [← stones_count g] at z
      rw [show (strL (signsOf R)).length = (signsOf R).length from List.length_map _]
      exact z
end
end Pm
namespace Pm
open PySem PySem.Spec PyProof.Rows L2 SX
/-! ### first == second -/
/-- what the text says further of the class of pictures -/
structure PKit (K : PySem.W.Frag) (mg : Str → Option Value) (C : Addr) : Prop where
  gC : mg "Picture" = some (.ref C)
  ca : PySem.W.findIn K (.ref C) "__class__" = some (some (.builtin "object.__class__"))
  cn : PySem.W.specialIn K (.builtin "object.__class__") "__get__" = some (some (.builtin "getset_descriptor.__get__"))
  ct : PySem.W.takesIn K (.builtin "object.__class__") = some true
  cm : PySem.W.mroIn K C (.type "object") = some true
  kk : PySem.W.kitOne K (.ref C) (.ref C) = some true
section
variable {P : Program} {w : World} {K : PySem.W.Frag} {mg : Str → Option Value} {base : Heap} {C : Addr}
theorem PKit.ty (Y : PKit K mg C) (T : PCls K C) {H : Hp} {r : Addr} {R : Rows} (h : PicAt C H r R) : TyX K H (.ref r) (.ref C) := by
  obtain ⟨dx, d, hr, _⟩ := h
  exact .base (.ins hr T.cl Y.ca Y.cn Y.ct Y.cm)
def spPEq (C : Addr) : Sp := fun vs H Q _ => ∃ r q R R2, vs = [.ref r, .ref q] ∧ PicAt C H r R ∧ PicAt C H q R2 ∧ Low R ∧ Low R2 ∧ Q (.bl (decide (R = R2))) H
theorem scPEq : FnScope ["self", "other"] ["self", "other"] (defScope cPictureEq) := ⟨rfl, rfl, rfl, by decide +kernel, rfl, by decide +kernel, by decide +kernel⟩
theorem ok_peq {f : Addr} {fd : FuncData} (F : Fun K "__eq__" "Picture.__eq__" cPictureEq f fd) (L : LTxt K mg) (T : PCls K C) (Y : PKit K mg C) : FnOk P w K mg base CX0 1 f fd ["self", "other"] (spPEq C) := by
  refine F.ok scPEq (fun vs H Q E h => ?_) (fun cdv A outer s H vs Q E hr h => ?_)
  · obtain ⟨r, q, R, R2, rfl, _⟩ := h
    rfl
  · obtain ⟨r, q, R, R2, rfl, hp, hq, lo, lo2, k⟩ := h
    refine ⟨_, pss_one (ps_ret (pe_and (pe_callB call_isi (by rfl) L.isi (by decide +kernel) (pa_cons (pv 1) (pa_cons (pe_glob (v := .ref C) (by rfl) Y.gC rfl) pa_nil)))
      (pe_one (pe_cmpR (op_eqD hr.units) (pe_fld (pv 0) rfl) (pe_fld (pv 1) rfl) (nomark _))))), ?_⟩
    refine ⟨_, rfl, .ref q, .ref C, .ref C, .ref C, true, rfl, .own C, Y.ty T hq, Y.kk, true, rfl, ?_⟩
    obtain ⟨dx, l, h1, h2⟩ := hp
    obtain ⟨dy, l2, h3, h4⟩ := hq
    refine ⟨_, rfl, r, C, dx, _, _, rfl, h1, T.cl, T.nR, rfl, _, rfl, q, C, dy, _, _, rfl, h3, T.cl, T.nR, rfl, _, _, dp_list h2, dp_list h4, dRs_shaped lo, dRs_shaped lo2, ?_⟩
    rw [dRs_eqv]
    exact k
theorem okw_peq {f : Addr} {fd : FuncData} (F : Fun K "__eq__" "Picture.__eq__" cPictureEq f fd) (L : LTxt K mg) (T : PCls K C) (Y : PKit K mg C) : FnW P w K mg base CX0 1 f fd ["self", "other"] (spPEq C) := by
  refine fnW_of F scPEq (fun vs H Q E h => ?_) (fun cdv A outer s H vs Q E p hr h => ?_)
  · obtain ⟨r, q, R, R2, rfl, _⟩ := h
    rfl
  · obtain ⟨r, q, R, R2, rfl, hp, hq, lo, lo2, k⟩ := h
    have un : (A.deeper (envOfC ("Picture.__eq__" : Str) (defScope cPictureEq) s.heap.objs.size f cdv)).units + 64 < cLine := by
      have := hr.un
      omega
    refine ⟨_, pss_one (ps_ret (pe_and (pe_callB call_isi (by rfl) L.isi (by decide +kernel) (pa_cons (pv 1) (pa_cons (pe_glob (v := .ref C) (by rfl) Y.gC rfl) pa_nil)))
      (pe_one (pe_cmpR (op_eqD un) (pe_fld (pv 0) rfl) (pe_fld (pv 1) rfl) (nomark _))))), ?_⟩
    refine ⟨_, rfl, .ref q, .ref C, .ref C, .ref C, true, rfl, .own C, Y.ty T hq, Y.kk, true, rfl, ?_⟩
    obtain ⟨dx, l, h1, h2⟩ := hp
    obtain ⟨dy, l2, h3, h4⟩ := hq
    refine ⟨_, rfl, r, C, dx, _, _, rfl, h1, T.cl, T.nR, rfl, _, rfl, q, C, dy, _, _, rfl, h3, T.cl, T.nR, rfl, _, _, dp_list h2, dp_list h4, dRs_shaped lo, dRs_shaped lo2, ?_⟩
    rw [dRs_eqv]
    exact k
end
section
variable {X : Cx} {C f : Addr} {fd : FuncData} {k : Nat}
def rPEq (C : Addr) (neg : Bool) : R2 := fun x y H Q => ∃ r q R R2, x = .ref r ∧ y = .ref q ∧ PicAt C H r R ∧ PicAt C H q R2 ∧ Low R ∧ Low R2 ∧ Q (.bl (neg != decide (R = R2))) H
theorem op_peq (O : FnOk X.prog X.w X.K X.mg X.base CX0 k f fd ["self", "other"] (spPEq C)) (hr : Room k X.A) (b : Binds X.K fd ["self", "other"] []) (m : OwnM X.K C "__eq__" f) : OpR X (compareOp .Eq) (rPEq C false) := by
  intro pins s σ H x y v u Q I rx ry h
  obtain ⟨r, q, R, R2, rfl, rfl, hp, hq, lo, lo2, go⟩ := h
  obtain rfl : v = Value.ref r := rx
  obtain rfl : u = Value.ref q := ry
  obtain ⟨ox, od, J⟩ := pic_inst I hp
  obtain ⟨ox', od', J'⟩ := pic_inst I hq
  obtain ⟨mm, hF⟩ := I.fr
  have hu := hr.un
  show wpAny _ _ (richCompare .Eq _ _) _ _ _
  refine PySem.W.cmp_K (op := .Eq) (by omega) hF I.ok.mod.kin J J'.type (by simp [PySem.W.notFirst]) m.at_ m.fn ?_
  refine wpAny_mono (run_at (Q := fun v H' => v = .bl (decide (R = R2)) ∧ H' = H) (E := E0) (vs := [.ref r, .ref q]) O hr rfl b pass0 I (.cons rfl (.cons rfl .nil)) ⟨r, q, R, R2, rfl, hp, hq, lo, lo2, rfl, rfl⟩) (fun v s' z => ?_) fun _ _ z => z
  obtain ⟨v', H', I', rv, rfl, rfl⟩ := z
  cases rv
  refine ⟨.bl (decide (R = R2)), H', I', rfl, ?_⟩
  rw [show decide (R = R2) = (false != decide (R = R2)) by simp]
  exact go
theorem op_pne (O : FnOk X.prog X.w X.K X.mg X.base CX0 k f fd ["self", "other"] (spPEq C)) (hr : Room (k + 1) X.A) (b : Binds X.K fd ["self", "other"] []) (N0 : OwnN X.K C) (m : OwnM X.K C "__eq__" f) : OpR X (compareOp .NotEq) (rPEq C true) := by
  intro pins s σ H x y v u Q I rx ry h
  obtain ⟨r, q, R, R2, rfl, rfl, hp, hq, lo, lo2, go⟩ := h
  obtain rfl : v = Value.ref r := rx
  obtain rfl : u = Value.ref q := ry
  obtain ⟨ox, od, J⟩ := pic_inst I hp
  obtain ⟨ox', od', J'⟩ := pic_inst I hq
  have hu := hr.un
  refine ne_own (tb := .ref C) (by omega) I.kIn J J'.type (by simp [PySem.W.notFirst]) N0.sub N0.ne m.at_ m.fn ?_
  refine wpAny_mono (run_at (Q := fun v H' => v = .bl (decide (R = R2)) ∧ H' = H) (E := E0) (vs := [.ref r, .ref q]) O hr.in1 rfl b pass0 I (.cons rfl (.cons rfl .nil)) ⟨r, q, R, R2, rfl, hp, hq, lo, lo2, rfl, rfl⟩) (fun v s' z => ?_) fun _ _ z => z
  obtain ⟨v', H', I', rv, rfl, rfl⟩ := z
  cases rv
  refine ⟨decide (R = R2), rfl, .bl (!decide (R = R2)), H', I', rfl, ?_⟩
  rw [show (!decide (R = R2)) = (true != decide (R = R2)) by simp]
  exact go
/-- where something is pinned -/
theorem run_w {p : Addr × Obj} {ps : List Str} {sp : Sp} {pins : List (Addr × Obj)} {σ : L2.St} {H : Hp} {s : Shared} {Q : VK} {us : List Value} {vs : List V} (F : FnW X.prog X.w X.K X.mg X.base CX0 k f fd ps sp) (hr : L2H.RoomH k X.A) (hp : p ∈ X.pn) (hb : Binds X.K fd ps []) (I : L2.Inv X pins σ H s)
    (rv : Vals vs us) (asked : sp vs H Q E0) : wpAny (model X.prog X.w) X.A (call (.ref f) us) (EP X pins σ Q) X.xe s := by
  have len : us.length = ps.length := rv.length.symm.trans (F.len _ _ _ _ asked)
  have bind := hb s us I.kIn (by rw [List.append_nil]; exact len)
  rw [List.append_nil] at bind
  obtain ⟨p1, p2, p3, p4, p5⟩ := I.pin p (List.mem_append_left _ hp)
  have pin : L2H.PinOk X.stack H s p := ⟨p1, p2, fun hm => (List.mem_cons.mp (I.stkSub p.1 hm)).elim p3 p4, p5⟩
  refine wpAny_call (codeAny_mono (F.run X.A X.stack s H ⟨us, []⟩ us vs Q E0 p hr pin I.env0 bind rv asked) fun r s2 z => ?_)
  cases r with
  | error er => exact z.elim
  | ok fl =>
    cases fl with
    | ret u => exact I.after z
    | next => exact z.elim
    | brk => exact z.elim
    | cont => exact z.elim
theorem op_peqW {p : Addr × Obj} (O : FnW X.prog X.w X.K X.mg X.base CX0 k f fd ["self", "other"] (spPEq C)) (hr : L2H.RoomH k X.A) (hpn : p ∈ X.pn) (b : Binds X.K fd ["self", "other"] []) (m : OwnM X.K C "__eq__" f) : OpR X (compareOp .Eq) (rPEq C false) := by
  intro pins s σ H x y v u Q I rx ry h
  obtain ⟨r, q, R, R2, rfl, rfl, hp, hq, lo, lo2, go⟩ := h
  obtain rfl : v = Value.ref r := rx
  obtain rfl : u = Value.ref q := ry
  obtain ⟨ox, od, J⟩ := pic_inst I hp
  obtain ⟨ox', od', J'⟩ := pic_inst I hq
  obtain ⟨mm, hF⟩ := I.fr
  have hu := hr.un
  show wpAny _ _ (richCompare .Eq _ _) _ _ _
  refine PySem.W.cmp_K (op := .Eq) (by omega) hF I.ok.mod.kin J J'.type (by simp [PySem.W.notFirst]) m.at_ m.fn ?_
  refine wpAny_mono (run_w (Q := fun v H' => v = .bl (decide (R = R2)) ∧ H' = H) (vs := [.ref r, .ref q]) O hr hpn b I (.cons rfl (.cons rfl .nil)) ⟨r, q, R, R2, rfl, hp, hq, lo, lo2, rfl, rfl⟩) (fun v s' z => ?_) fun _ _ z => z
  obtain ⟨v', H', I', rv, rfl, rfl⟩ := z
  cases rv
  refine ⟨.bl (decide (R = R2)), H', I', rfl, ?_⟩
  rw [show decide (R = R2) = (false != decide (R = R2)) by simp]
  exact go
end
/-! ### first - second, its error wished for at the caller's slots -/
section
variable {X : Cx} {CXf : CXT} {C CR CU f : Addr} {fd : FuncData} {k : Nat} {E : L2.St → XK} {a b : Expr} {ta tb : TE} {pos : Pos}
def tDiff (C CR CU : Addr) (E : L2.St → XK) (ta tb : TE) : TE := fun σ H Q => ta σ H fun x H1 => tb σ H1 fun y H2 => spDiff C CR CU [x, y] H2 Q (E σ)
theorem pe_diff (F : FnOk X.prog X.w X.K X.mg X.base CXf k f fd ["self", "other"] (spDiff C CR CU)) (hr : Room k X.A) (hb : Binds X.K fd ["self", "other"] []) (hx : ∀ σ, PassesAt CXf X σ (E σ)) (sf : PySem.W.selfFirst X.K C = true) (m : OwnM X.K C "__sub__" f) (pa : PE X a ta) (pb : PE X b tb) :
    PE X (.BinOp a .Sub b pos) (tDiff C CR CU E ta tb) := by
  refine ⟨fun pins s σ H Q I h => ?_⟩
  refine wpAny_BinOp (binT pa pb I h fun v u s2 x y H2 I2 rx ry q => ?_)
  obtain ⟨r, q', R, R2, n, n2, e, hp, hq, g, g2, bad, good⟩ := q
  injection e with e1 e
  injection e with e2 _
  subst e1 e2
  obtain rfl : v = Value.ref r := rx
  obtain rfl : u = Value.ref q' := ry
  obtain ⟨ox, od, J⟩ := pic_inst I2 hp
  obtain ⟨ox', od', J'⟩ := pic_inst I2 hq
  obtain ⟨mm, hF⟩ := I2.fr
  refine PySem.W.binop_K (op := .Sub) hF I2.ok.mod.kin J J'.type sf m.at_ m.fn ?_
  refine wpAny_mono (run_fnS (Q := fun v H' => ∃ z, v = .ref z ∧ Q v H') (us := [.ref r, .ref q']) (vs := [.ref r, .ref q']) F hr hb (hx σ) I2 (.cons rfl (.cons rfl .nil)) ⟨r, q', R, R2, n, n2, rfl, hp, hq, g, g2, bad, fun e1 e2 z H' s' nz ra => ⟨z, rfl, good e1 e2 z H' s' nz ra⟩⟩) (fun v s' z => ?_) fun _ _ z => z
  obtain ⟨v', H', I', rv, z, rfl, hz⟩ := z
  obtain rfl : v = Value.ref z := rv
  exact ⟨.ref z, H', I', rfl, hz⟩
end
/-! ### isinstance(e, c), e an error without fields of its own -/
def rIsX0 (K : PySem.W.Frag) (a : Addr) (cls : Value) (d : Option Addr) : List V → Hp → VK → Prop := fun xs H Q => ∃ (D : Addr) (c : V) (cv : Value) (b : Bool),
  xs = [.ref a, c] ∧ cls = .ref D ∧ d = none ∧ ErrC K D ∧ (∀ u, RelV c u → u = cv) ∧ PySem.W.kitOne K (.ref D) cv = some b ∧ Q (.bl b) H
theorem call_isX0 {X : Cx} {a : Addr} {cls : Value} {d : Option Addr} {oe : Obj} {pn : List (Addr × Obj)} (hz : Zc cls d oe) (hf : ∃ vs, oe.data = .fields vs) : CallR (X.suite a ((a, oe) :: pn)) (.builtin "isinstance") (rIsX0 X.K a cls d) := by
  intro pins s σ H xs us Q I r h
  obtain ⟨D, c, cv, b, rfl, rfl, rfl, C, hcv, e, q⟩ := h
  match r with
  | .cons rx (.cons rt .nil) =>
    cases rx
    cases hcv _ rt
    obtain ⟨at_, _⟩ := I.pin (a, oe) (List.mem_append_left _ List.mem_cons_self)
    obtain ⟨vs, hd⟩ := hf
    have J : PySem.W.InstAt s.heap a oe D none := ⟨at_, hz.1, by unfold PySem.W.notCls; rw [hd] <;> rfl, by rw [hz.2]; trivial⟩
    exact PySem.W.kia_one (PySem.W.kitx_exc C.cl C.hg C.hk C.hs C.ha C.hn C.ht C.hm) I.kIn J e (fun z => nomatch z) fun tk => ⟨.bl b, H, I.kept (t' := tk) fun _ _ z => z, rfl, q⟩
end Pm
namespace Pm
open PySem PySem.Spec PyProof.Rows L2 SX
section
variable {P : Program} {w : World} {K : PySem.W.Frag} {mg : Str → Option Value} {base : Heap} {C CI CO CG : Addr}
/-! ### _law_cells -/
def spCellsOf : Sp := fun vs H Q _ => ∃ a R n, vs = [.ref a] ∧ H a = some (.lst (rowsV R)) ∧ Grid R n ∧ ∀ p ks H', Same H H' → H p = none → H' p = some (.lst (refs ks)) → Tups H' ks → cellsOf ks = allC n R.length → Q (.ref p) H'
abbrev nCellsOf : List Str := ["_law_rows", "_law_cells_here", "_law_cy", "_law_cx"]
theorem scCellsOf : FnScope nCellsOf ["_law_rows"] (defScope lCells) := ⟨rfl, rfl, rfl, by decide +kernel, rfl, by decide +kernel, by decide +kernel⟩
theorem ok_cellsof {f : Addr} {fd : FuncData} (F : Fun K "_law_cells" "_law_cells" lCells f fd) (L : LTxt K mg) : FnOk P w K mg base CX0 1 f fd ["_law_rows"] spCellsOf := by
  refine F.ok scCellsOf (fun vs H Q E h => ?_) (fun cdv A outer s H vs Q E hr h => ?_)
  · obtain ⟨a, R, n, rfl, _⟩ := h
    rfl
  · obtain ⟨a, R, n, rfl, ha, g, k⟩ := h
    refine ⟨_, pss_cons (ps_set (i := 1) scCellsOf.nd rfl (.inl rfl) (pe_lst pa_nil))
      (pss_cons (ps_for PassesOwn.never rfl (pi_range1 (by rfl) L.rng (pa_cons (pe_callB call_len_seq (by rfl) L.len PySem.boot_len (pa_cons (pv 0) pa_nil)) pa_nil)) (pg_name (i := 2) scCellsOf.nd rfl (.inl rfl))
        (pss_one (ps_for PassesOwn.never rfl (pi_range1 (by rfl) L.rng (pa_cons (pe_callB call_len_str (by rfl) L.len PySem.boot_len (pa_cons (pe_ix ix_list (pv 0) pe_int (fun _ _ => rfl)) pa_nil)) pa_nil)) (pg_name (i := 3) scCellsOf.nd rfl (.inl rfl))
          (pss_one (ps_expr (pe_bm PySem.F.plainAttrs_list PySem.F.slot_list_append PySem.F.type_list_append mt_append (pv 1) (pa_cons (pe_tup (pa_cons (pv 3) (pa_cons (pv 2) pa_nil))) pa_nil)))))))
      (pss_one (ps_ret (pv 1)))), ?_⟩
    have w8 := g.w8
    have h8 := g.h8
    have h1 := g.h1
    have r0 : atI (rowsV R) 0 = some (.str (S (rowAt R 0))) := atI_nat (j := 0) (rowsV_get g (by omega))
    have l0 : (rowAt R 0).length = n := (g.at (show 0 < R.length by omega)).2.2
    refine ⟨small_line (by show 0 ≤ 1000; decide), fun D nD => ?_⟩
    have sD := same_upd (o := .lst []) nD
    let Pv : Nat → Nat → L2.St → Hp → Prop := fun j i σ G => ∃ y x, σ = [some (.ref a), some (.ref D), y, x] ∧ Same H G ∧ ∃ ks, G D = some (.lst (refs ks)) ∧ Tups G ks ∧ cellsOf ks = allC n j ++ rowC i j
    refine ⟨_, rfl, a, _, rfl, .inl (SqL.of (sD _ _ ha)), _, rfl, by rw [rowsV_len]; omega, by rw [rowsV_len]; omega, ?_⟩
    rw [rowsV_len, Int.toNat_natCast]
    refine for_range (lo := 0) (n := R.length) (fun j σ G => Pv j 0 σ G) ⟨_, _, rfl, sD, [], upd_same, (fun q hq => nomatch hq), rfl⟩ ?_ ?_
    · rintro j σ G hj ⟨y, x, rfl, sG, ks, hD, hk, ek⟩
      refine ⟨_, rfl, a, _, 0, _, rfl, rfl, SqL.of (sG _ _ ha), r0, _, rfl, by rw [len_S, l0]; exact small_line (by omega), _, rfl, by rw [len_S, l0]; omega, by rw [len_S, l0]; omega, ?_⟩
      rw [len_S, l0, Int.toNat_natCast]
      refine for_range (lo := 0) (n := n) (fun i σ G => ∃ x, σ = [some (.ref a), some (.ref D), some (.int (0 + (j : Int))), x] ∧ Same H G ∧ ∃ ks, G D = some (.lst (refs ks)) ∧ Tups G ks ∧ cellsOf ks = allC n j ++ rowC i j) ⟨_, rfl, sG, ks, hD, hk, ek⟩ ?_ ?_
      · rintro i σ G hi ⟨x, rfl, sG, ks, hD, hk, ek⟩
        have lk : ks.length = j * n + i := by
          have z := congrArg List.length ek
          rw [List.length_append, allC_len, rowC_len, show (cellsOf ks).length = ks.length from List.length_map _] at z
          exact z
        have few : ks.length < 900 := by
          have : j * n ≤ 8 * 8 := Nat.mul_le_mul (by omega) w8
          omega
        refine ⟨_, rfl, .inl ⟨rfl, _, SqL.of hD⟩, _, rfl, _, rfl, small_line (by show 2 ≤ 1000; decide), fun t nt => ?_⟩
        have st := same_upd (o := CellO ((i : Int), (j : Int))) nt
        have nDt : t ≠ D := fun e => by
          rw [e, hD] at nt
          cases nt
        have e0 : (0 : Int) + (i : Int) = (i : Int) := by omega
        have e1 : (0 : Int) + (j : Int) = (j : Int) := by omega
        rw [e0, e1]
        refine ⟨D, _, _, rfl, rfl, st _ _ hD, by unfold refs; rw [List.length_map]; exact small1000 (by omega), _, rfl, fun b o e => ?_, ks ++ [(t, ((i : Int), (j : Int)))], ?_, ?_, ?_⟩
        · rw [upd_ne (fun z => by rw [z, nD] at e; cases e)]
          exact st _ _ (sG _ _ e)
        · rw [upd_same]
          unfold refs
          rw [List.map_append]
          rfl
        · intro q hq
          rcases List.mem_append.mp hq with y | y
          · have z := hk q y
            rw [upd_ne (ne_of z hD (by intro q; cases q))]
            exact st _ _ z
          · rw [List.mem_singleton.mp y, upd_ne nDt]
            exact upd_same
        · unfold cellsOf at ek ⊢
          rw [List.map_append, ek, rowC_succ, List.append_assoc]
          rfl
      · rintro σ G ⟨x, rfl, sG, ks, hD, hk, ek⟩
        exact ⟨_, _, rfl, sG, ks, hD, hk, by rw [ek]; exact (List.append_nil _).symm⟩
    · rintro σ G ⟨y, x, rfl, sG, ks, hD, hk, ek⟩
      exact ⟨_, rfl, k D ks G sG nD hD hk (by rw [ek]; exact List.append_nil _)⟩
end
end Pm
namespace Pm
open PySem PySem.Spec PyProof.Rows L2 SX
section
variable {P : Program} {w : World} {K : PySem.W.Frag} {mg : Str → Option Value} {base : Heap} {C CI CO CG : Addr}
def parts (t : List Nat) : Rows := TL.spl [10] 0 [] t
def spRead (C CI : Addr) : Sp := fun vs H Q E => ∃ t, vs = [.ref C, .str (S t)] ∧ t.length ≤ 1000 ∧ (parts t).length ≤ 1000 ∧ (∀ z ∈ parts t, z.length ≤ 1000) ∧
  (0 < lineOf (parts t) → Lets E CI [("line", .int (lineOf (parts t)))] H) ∧ (lineOf (parts t) = 0 → ∀ r H', PicAt C H' r (parts t) → Same H H' → Q (.ref r) H')
theorem scRead : FnScope ["cls", "text"] ["cls", "text"] (defScope cPictureRead) := ⟨rfl, rfl, rfl, by decide +kernel, rfl, by decide +kernel, by decide +kernel⟩
theorem ok_read {f g : Addr} {fd gd : FuncData} (F : Fun K "read" "Picture.read" cPictureRead f fd) (O : FnOk P w K mg base (L2.CX P w) 5 g gd ["self", "rows"] (spInit C CI)) (M : Mk K C g) (bO : Binds K gd ["self", "rows"] []) : FnOk P w K mg base (L2.CX P w) 7 f fd ["cls", "text"] (spRead C CI) := by
  refine F.okX scRead (fun vs H Q E h => ?_) (fun cdv A outer s H vs Q E hr h => ?_)
  · obtain ⟨t, rfl, _⟩ := h
    rfl
  · obtain ⟨t, rfl, few, fewp, each, bad, good⟩ := h
    refine ⟨_, pss_one (ps_ret (pe_makeV (i := 0) (E := fun _ => E) M O hr rfl (.inl rfl) bO (fun σ pins H s e s' I c => passes_call (takes_of rfl rfl rfl rfl) (fun _ _ _ _ z => z) pins σ H s e s' I c) (pa_cons (pe_split (pv 1) pe_str) pa_nil))), ?_⟩
    have e1 : (Txt.split (S t) (S [10])).map V.str = rowsV (parts t) := by
      rw [split_S (by simp) (by decide), List.map_map]
      rfl
    refine ⟨rfl, _, rfl, ⟨_, rfl⟩, S t, ("\n" : Str), rfl, rfl, by decide +kernel, by rw [len_S]; exact Nat.le_trans (Nat.add_le_add_right few 2) (by decide), fun p np => ?_⟩
    rw [nl_S, e1]
    intro x dx nx nd ne
    have s1 := same_upd (o := .lst (rowsV (parts t))) np
    refine ⟨x, dx, p, parts t, rfl, upd_same, made_same nx nd _ _ upd_same, fewp, each, fun z => lets_made (bad z) (s1.trans (made_same nx nd)), fun z H' hp sb => ⟨rfl, good z x H' hp (s1.trans (made_but nx nd sb))⟩⟩
end
end Pm
namespace Pm
open PySem PySem.Spec PyProof.Rows L2 SX
section
variable {P : Program} {w : World} {K : PySem.W.Frag} {mg : Str → Option Value} {base : Heap} {C CI CO CG : Addr}
def spSign : Sp := fun vs H Q _ => ∃ a R n x y, vs = [.ref a, .int x, .int y] ∧ H a = some (.lst (rowsV R)) ∧ Grid R n ∧ Q (.str (S (signAt R x y))) H
theorem scSign : FnScope ["_law_rows", "_law_cx", "_law_cy"] ["_law_rows", "_law_cx", "_law_cy"] (defScope lSign) := ⟨rfl, rfl, rfl, by decide +kernel, rfl, by decide +kernel, by decide +kernel⟩
theorem ok_sign {f : Addr} {fd : FuncData} (F : Fun K "_law_sign" "_law_sign" lSign f fd) (L : LTxt K mg) : FnOk P w K mg base CX0 1 f fd ["_law_rows", "_law_cx", "_law_cy"] spSign := by
  refine F.ok scSign (fun vs H Q E h => ?_) (fun cdv A outer s H vs Q E hr h => ?_)
  · obtain ⟨a, R, n, x, y, rfl, _⟩ := h
    rfl
  · obtain ⟨a, R, n, x, y, rfl, ha, g, k⟩ := h
    refine ⟨_, pss_cons (ps_if (PW.pt (pw_or (pt_cmpR op_lt (pv 2) pe_int (nomark _)) (pw_or (pt_cmpR op_ge (pv 2) (pe_callB call_len_seq (by rfl) L.len PySem.boot_len (pa_cons (pv 0) pa_nil)) (nomark _)) (pw_or (pt_cmpR op_lt (pv 1) pe_int (nomark _)) (pw_or1 (pt_cmpR op_ge (pv 1) (pe_callB call_len_str (by rfl) L.len PySem.boot_len (pa_cons (pe_ix ix_list (pv 0) pe_int (fun _ _ => rfl)) pa_nil)) (nomark _))))))) (pss_one (ps_ret pe_str)) pss_nil)
      (pss_one (ps_ret (pe_ix ix_str (pe_ix ix_list (pv 0) (pv 2) (fun _ _ => rfl)) (pv 1) (fun _ _ => rfl)))), ?_⟩
    have out : (y < 0 ∨ (R.length : Int) ≤ y ∨ x < 0 ∨ (n : Int) ≤ x) → Q (.str ("#" : Str)) H := fun o => by
      unfold signAt at k
      rw [if_neg (by rw [inB_out g o]; decide)] at k
      rw [show ("#" : Str) = S [35] by decide +kernel]
      exact k
    have h1 := g.h1
    have r0 := rowsV_get g (show 0 < R.length by omega)
    have l0 := (g.at (show 0 < R.length by omega)).2.2
    have w8 := g.w8
    refine ⟨_, rfl, _, _, rfl, rfl, _, rfl, ?_⟩
    by_cases c1 : y < 0
    · exact iteTe (decide_eq_true c1) (iteT (out (.inl c1)))
    refine iteFe (decide_eq_false c1) ⟨_, rfl, _, rfl, a, _, rfl, .inl (SqL.of ha), _, _, rfl, rfl, _, rfl, ?_⟩
    rw [rowsV_len]
    by_cases c2 : (R.length : Int) ≤ y
    · exact iteTe (decide_eq_true c2) (iteT (out (.inr (.inl c2))))
    refine iteFe (decide_eq_false c2) ⟨_, rfl, _, _, rfl, rfl, _, rfl, ?_⟩
    by_cases c3 : x < 0
    · exact iteTe (decide_eq_true c3) (iteT (out (.inr (.inr (.inl c3)))))
    refine iteFe (decide_eq_false c3) ⟨_, rfl, _, rfl, a, _, 0, _, rfl, rfl, SqL.of ha, atI_nat (j := 0) r0, _, rfl, by rw [len_S, l0]; exact small_line (by omega), _, _, rfl, rfl, _, rfl, ?_⟩
    rw [len_S, l0]
    by_cases c4 : (n : Int) ≤ x
    · exact iteTe (decide_eq_true c4) (out (.inr (.inr (.inr c4))))
    refine iteFe (decide_eq_false c4) ?_
    have io := inB_in g (x := x) (y := y) (by omega) (by omega) (by omega) (by omega)
    obtain ⟨i, j, rfl, rfl, hi, hj⟩ := g.inside io
    obtain ⟨e1, m1, l1⟩ := g.at hj
    have ge : (rowAt R j)[i]? = some ((rowAt R j).getD i 0) := by
      rw [List.getD_eq_getElem?_getD, List.getElem?_eq_getElem (by omega)]
      rfl
    unfold signAt at k
    rw [if_pos io] at k
    exact ⟨_, rfl, _, rfl, a, _, (j : Int), _, rfl, rfl, SqL.of ha, atI_nat (rowsV_get g hj), _, rfl, _, _, _, rfl, rfl, by rw [len_S, l1]; exact small_line (by omega), atI_nat ge, k⟩
end
end Pm
namespace Pm
open PySem PySem.Spec PyProof.Rows L2 SX
/-! ### a picture and values of other kinds -/
structure NotT (K : PySem.W.Frag) (C : Addr) (T : String) : Prop where
  ic : PySem.W.isClsIn K C = true
  ty : PySem.W.typeIn K (.ref C) = some (.type "type")
  sub : PySem.W.subIn K (.type T) (.ref C) = some false
theorem NotT.kit {K : PySem.W.Frag} {C : Addr} {T : String} (n : NotT K C T) : PySem.W.kitOne K (.type T) (.ref C) = some false := by
  unfold PySem.W.kitOne
  rw [if_neg (by simp)]
  show (if ((PySem.W.clsIn K C).isSome && PySem.W.typeIn K (.ref C) == some (.type "type")) = true then PySem.W.subIn K (.type T) (.ref C) else none) = some false
  rw [if_pos (by rw [show (PySem.W.clsIn K C).isSome = true from n.ic, n.ty]; rfl)]
  exact n.sub
section
variable {P : Program} {w : World} {K : PySem.W.Frag} {mg : Str → Option Value} {base : Heap} {C CI CO CG CR CU : Addr}
def spPEqO (K : PySem.W.Frag) (C : Addr) : Sp := fun vs H Q _ => ∃ r R y ty, vs = [.ref r, y] ∧ PicAt C H r R ∧ TyX K H y ty ∧ PySem.W.kitOne K ty (.ref C) = some false ∧ Q (.bl false) H
theorem ok_peqO {f : Addr} {fd : FuncData} (F : Fun K "__eq__" "Picture.__eq__" cPictureEq f fd) (L : LTxt K mg) (T : PCls K C) (Y : PKit K mg C) : FnOk P w K mg base CX0 1 f fd ["self", "other"] (spPEqO K C) := by
  refine F.ok scPEq (fun vs H Q E h => ?_) (fun cdv A outer s H vs Q E hr h => ?_)
  · obtain ⟨r, R, y, ty, rfl, _⟩ := h
    rfl
  · obtain ⟨r, R, y, ty, rfl, hp, hy, kk, k⟩ := h
    refine ⟨_, pss_one (ps_ret (pe_and (pe_callB call_isi (by rfl) L.isi (by decide +kernel) (pa_cons (pv 1) (pa_cons (pe_glob (v := .ref C) (by rfl) Y.gC rfl) pa_nil)))
      (pe_one (pe_cmpR (op_eqD hr.units) (pe_fld (pv 0) rfl) (pe_fld (pv 1) rfl) (nomark _))))), ?_⟩
    exact ⟨_, rfl, y, .ref C, ty, .ref C, false, rfl, .own C, hy, kk, false, rfl, k⟩
end
section
variable {X : Cx} {C CR f : Addr} {fd : FuncData} {k : Nat}
def rPEqS (C : Addr) : R2 := fun x y H Q => ∃ r R t, x = .ref r ∧ y = .str t ∧ PicAt C H r R ∧ Q (.bl false) H
theorem op_peqS (O : FnOk X.prog X.w X.K X.mg X.base CX0 k f fd ["self", "other"] (spPEqO X.K C)) (hr : Room k X.A) (b : Binds X.K fd ["self", "other"] []) (m : OwnM X.K C "__eq__" f) (n : NotT X.K C "str") : OpR X (compareOp .Eq) (rPEqS C) := by
  intro pins s σ H x y v u Q I rx ry h
  obtain ⟨r, R, t, rfl, rfl, hp, q⟩ := h
  obtain rfl : v = Value.ref r := rx
  obtain ⟨tk, rfl⟩ := ry
  obtain ⟨ox, od, J⟩ := pic_inst I hp
  obtain ⟨mm, hF⟩ := I.fr
  have hu := hr.un
  show wpAny _ _ (richCompare .Eq _ _) _ _ _
  refine PySem.W.cmp_K (op := .Eq) (tb := .type "str") (by omega) hF I.ok.mod.kin J (PySem.W.Looks.of_pure rfl) ?_ m.at_ m.fn ?_
  · show ((Value.type "str" == .ref C) || (PySem.W.subIn X.K (.type "str") (.ref C) == some false)) = true
    rw [n.sub]
    simp
  refine wpAny_mono (run_at (Q := fun v H' => v = .bl false ∧ H' = H) (E := E0) (vs := [.ref r, .str t]) O hr rfl b pass0 I (.cons rfl (.cons ⟨tk, rfl⟩ .nil)) ⟨r, R, .str t, .type "str", rfl, hp, .base (.str _), n.kit, rfl, rfl⟩) (fun v s' z => ?_) fun _ _ z => z
  obtain ⟨v', H', I', rv, rfl, rfl⟩ := z
  cases rv
  exact ⟨.bl false, H', I', rfl, q⟩
def rPEqL (C : Addr) : R2 := fun x y H Q => ∃ r a R xs, x = .ref r ∧ y = .ref a ∧ PicAt C H r R ∧ H a = some (.lst xs) ∧ Q (.bl false) H
theorem op_peqL (O : FnOk X.prog X.w X.K X.mg X.base CX0 k f fd ["self", "other"] (spPEqO X.K C)) (hr : Room k X.A) (b : Binds X.K fd ["self", "other"] []) (m : OwnM X.K C "__eq__" f) (n : NotT X.K C "list") : OpR X (compareOp .Eq) (rPEqL C) := by
  intro pins s σ H x y v u Q I rx ry h
  obtain ⟨r, a, R, xs, rfl, rfl, hp, ha, q⟩ := h
  obtain rfl : v = Value.ref r := rx
  obtain rfl : u = Value.ref a := ry
  obtain ⟨ox, od, J⟩ := pic_inst I hp
  obtain ⟨_, its, c, _, e⟩ := (show ObjOk X.prog X.w H s.heap a (.lst xs) from I.hok a _ ha)
  obtain ⟨mm, hF⟩ := I.fr
  have hu := hr.un
  show wpAny _ _ (richCompare .Eq _ _) _ _ _
  refine PySem.W.cmp_K (op := .Eq) (tb := .type "list") (by omega) hF I.ok.mod.kin J ((PySem.W.Looks.ld e).andThen .now) ?_ m.at_ m.fn ?_
  · show ((Value.type "list" == .ref C) || (PySem.W.subIn X.K (.type "list") (.ref C) == some false)) = true
    rw [n.sub]
    simp
  refine wpAny_mono (run_at (Q := fun v H' => v = .bl false ∧ H' = H) (E := E0) (vs := [.ref r, .ref a]) O hr rfl b pass0 I (.cons rfl (.cons rfl .nil)) ⟨r, R, .ref a, .type "list", rfl, hp, .base (.lst ha), n.kit, rfl, rfl⟩) (fun v s' z => ?_) fun _ _ z => z
  obtain ⟨v', H', I', rv, rfl, rfl⟩ := z
  cases rv
  exact ⟨.bl false, H', I', rfl, q⟩
def rPEqR (C CR : Addr) : R2 := fun x y H Q => ∃ r a R M, x = .ref r ∧ y = .ref a ∧ PicAt C H r R ∧ RegAt CR H a M ∧ Q (.bl false) H
theorem op_peqR (O : FnOk X.prog X.w X.K X.mg X.base CX0 k f fd ["self", "other"] (spPEqO X.K C)) (hr : Room k X.A) (b : Binds X.K fd ["self", "other"] []) (m : OwnM X.K C "__eq__" f) (TR : RCTxt X.K X.mg CR) (kk : PySem.W.kitOne X.K (.ref CR) (.ref C) = some false) (sub : PySem.W.subIn X.K (.ref CR) (.ref C) = some false) : OpR X (compareOp .Eq) (rPEqR C CR) := by
  intro pins s σ H x y v u Q I rx ry h
  obtain ⟨r, a, R, M, rfl, rfl, hp, ha, q⟩ := h
  obtain rfl : v = Value.ref r := rx
  obtain rfl : u = Value.ref a := ry
  obtain ⟨ox, od, J⟩ := pic_inst I hp
  have hty := TR.ty ha
  obtain ⟨dx, d, ha0, _⟩ := ha
  obtain ⟨mA, J2, _⟩ := ins_get I.hok ha0
  obtain ⟨od2, J2, _⟩ := J2.look
  obtain ⟨mm, hF⟩ := I.fr
  have hu := hr.un
  show wpAny _ _ (richCompare .Eq _ _) _ _ _
  refine PySem.W.cmp_K (op := .Eq) (tb := .ref CR) (by omega) hF I.ok.mod.kin J J2.type ?_ m.at_ m.fn ?_
  · show ((Value.ref CR == .ref C) || (PySem.W.subIn X.K (.ref CR) (.ref C) == some false)) = true
    rw [sub]
    simp
  refine wpAny_mono (run_at (Q := fun v H' => v = .bl false ∧ H' = H) (E := E0) (vs := [.ref r, .ref a]) O hr rfl b pass0 I (.cons rfl (.cons rfl .nil)) ⟨r, R, .ref a, .ref CR, rfl, hp, hty, kk, rfl, rfl⟩) (fun v s' z => ?_) fun _ _ z => z
  obtain ⟨v', H', I', rv, rfl, rfl⟩ := z
  cases rv
  exact ⟨.bl false, H', I', rfl, q⟩
/-! ### len(picture) -/
def rLenP (C : Addr) : List V → Hp → VK → Prop := fun xs H Q => ∃ r R n, xs = [.ref r] ∧ PicAt C H r R ∧ Grid R n ∧ ∀ H', Same H H' → Q (.int ((stonesOf R n).length : Int)) H'
theorem call_lenP (O : FnOk X.prog X.w X.K X.mg X.base CX0 k f fd ["self"] (spLenP C)) (hr : Room (k + 1) X.A) (b : Binds X.K fd ["self"] []) (m : OwnM X.K C "__len__" f) : CallR X (.builtin "len") (rLenP C) := by
  intro pins s σ H xs us Q I r h
  obtain ⟨r0, R, n, rfl, hp, g, q⟩ := h
  rw [Vals.ref1 r]
  obtain ⟨ox, od, J⟩ := pic_inst I hp
  obtain ⟨mm, hF⟩ := I.fr
  have few := stones_le g
  refine PySem.W.len_K hF I.ok.mod.kin J m.at_ m.fn ?_
  refine wpAny_mono (run_at (Q := fun v H' => v = .int ((stonesOf R n).length : Int) ∧ Same H H') (E := E0) (vs := [.ref r0]) O hr.in1 rfl b pass0 I (.cons rfl .nil) ⟨r0, R, n, rfl, hp, g, fun H' s' => ⟨rfl, s'⟩⟩) (fun v s' z => ?_) fun _ _ z => z
  obtain ⟨v', H', I', rv, rfl, sm⟩ := z
  obtain ⟨t, rfl⟩ := rv
  exact ⟨⟨by omega, by omega⟩, .int ((stonesOf R n).length : Int), H', I'.tok _, ⟨_, rfl⟩, q H' sm⟩
end
/-! ### _law_stones -/
section
variable {P : Program} {w : World} {K : PySem.W.Frag} {mg : Str → Option Value} {base : Heap} {C CI CO CG CR CU : Addr}
def spStonesL : Sp := fun vs H Q _ => ∃ a R n, vs = [.ref a] ∧ H a = some (.lst (rowsV R)) ∧ Grid R n ∧ ∀ p ks H', Same H H' → H p = none → H' p = some (.lst (refs ks)) → Tups H' ks → cellsOf ks = stonesOf R n → Q (.ref p) H'
abbrev nStonesL : List Str := ["_law_rows", "_law_cell"]
theorem scStonesL : FnScope nStonesL ["_law_rows"] (defScope lStones) := ⟨rfl, rfl, rfl, by decide +kernel, rfl, by decide +kernel, by decide +kernel⟩
def ttStonesL (K : PySem.W.Frag) : TT := tTest (tOp rNe (tOp rIxS (tOp (rIxL K) (tVar 0) (tOp (rIxT K) (tVar 1) (tC (.int 1)))) (tOp (rIxT K) (tVar 1) (tC (.int 0)))) (tC (.str ".")))
theorem ok_stonesl {f fC : Addr} {fd dC' : FuncData} (F : Fun K "_law_stones" "_law_stones" lStones f fd) (cC : Cl P w K mg base CX0 1 "_law_cells" ["_law_rows"] spCellsOf fC dC') : FnOk P w K mg base CX0 2 f fd ["_law_rows"] spStonesL := by
  refine F.ok scStonesL (fun vs H Q E h => ?_) (fun cdv A outer s H vs Q E hr h => ?_)
  · obtain ⟨a, R, n, rfl, _⟩ := h
    rfl
  · obtain ⟨a, R, n, rfl, ha, g, k⟩ := h
    refine ⟨_, pss_one (ps_ret (pe_lc (own := [("_law_cell", 1)]) (g := gName 1) (tt := ttStonesL K) (te := tVar 1) rfl scStonesL.nd (pi_list (pe_call cC.ok hr (by rfl) cC.gl cC.kp cC.bd .nil pass0 (pa_cons (pv 0) pa_nil)))
        (blkOk_by (own := [("_law_cell", 1)]) (N := nStonesL) (sc := defScope lStones) (by decide +kernel)) (fun _ _ _ _ _ => pg_name (i := 1) scStonesL.nd rfl (Or.inl rfl)) (fun _ _ _ _ _ => by exact pts_one (by exact pt_cmpR op_ne (by exact pe_ix ix_str (by exact pe_ix ix_list (pv 0) (by exact pe_ix ix_tup (pv 1) pe_int (fun _ _ => rfl)) (fun _ _ => rfl)) (by exact pe_ix ix_tup (pv 1) pe_int (fun _ _ => rfl)) (fun _ _ => rfl)) pe_str (nomark _)))
        (fun _ _ _ _ _ => pv 1))), ?_⟩
    refine ⟨_, rfl, a, R, n, rfl, ha, g, fun p ks H1 sm1 np hpk hks eks => ?_⟩
    have lks : ks.length ≤ 64 := by
      have z := congrArg List.length eks
      rw [allC_len, show (cellsOf ks).length = ks.length from List.length_map _] at z
      have := Nat.mul_le_mul g.h8 g.w8
      omega
    have w8 := g.w8
    refine ⟨p, rfl, ⟨_, SqL.of hpk⟩, ?_⟩
    refine filt (K := K) (tt := ttStonesL K) (Q := Q) (i := 1) (σ := [some (.ref a), none]) (σx := fun x => [some (.ref a), some x]) (p := fun c => decide (signAt R c.1 c.2 ≠ [46]))
      (fun x G R h => h) (fun x => rfl) (fun x G R h => ⟨_, rfl, h⟩) hpk hks (by omega) (fun t c G Rr sm htc hc hR => ?_) fun D ms G sm nD hD hm em => ?_
    · have sG := sm1.trans sm
      rw [eks] at hc
      obtain ⟨xi, yj, hxi, hyj, rfl⟩ := allC_mem.mp hc
      obtain ⟨_, _, l1⟩ := g.at hyj
      have ge : (rowAt R yj)[xi]? = some ((rowAt R yj).getD xi 0) := by
        rw [List.getD_eq_getElem?_getD, List.getElem?_eq_getElem (by omega)]
        rfl
      have es : signAt R (xi : Int) (yj : Int) = [(rowAt R yj).getD xi 0] := by
        unfold signAt
        rw [if_pos (inB_in g (by omega) (by omega) (by omega) (by omega))]
        rfl
      generalize (rowAt R yj).getD xi 0 = d at ge es
      refine ⟨_, rfl, _, rfl, t, _, 1, _, rfl, rfl, SqT.of htc, rfl, a, _, (yj : Int), _, rfl, rfl, SqL.of (sG _ _ ha), atI_nat (rowsV_get g hyj), _, rfl, t, _, 0, _, rfl, rfl, SqT.of htc, rfl, S (rowAt R yj), (xi : Int), d, rfl, rfl, by rw [len_S, l1]; exact small_line (by omega), atI_nat ge, rfl, _, rfl, ?_⟩
      have hR : Rr (decide (signAt R (xi : Int) (yj : Int) ≠ [46])) G := hR
      rw [← str_ne, es] at hR
      exact hR
    · have sG := sm1.trans sm
      exact k D ms G sG (back sm1 nD) hD hm (by rw [em, eks]; rfl)
end
end Pm
namespace Pm
open PySem PySem.Spec PyProof.Rows L2 SX
theorem hu65 {A : Around} {k : Nat} (hr : Room k A) : A.units + 65 < cLine := by
  have := hr.un
  omega
theorem any_mem (L : List Cell) (c : Cell) : ((L.map dC).any fun z => PyData.eqv z (dC c)) = decide (c ∈ L) := by
  rw [List.any_map]
  by_cases z : c ∈ L
  · rw [decide_eq_true z, List.any_eq_true]
    exact ⟨c, z, by show PyData.eqv (dC c) (dC c) = true; rw [dC_eqv]; exact decide_eq_true rfl⟩
  · rw [decide_eq_false z, List.any_eq_false]
    intro d hd
    show ¬ PyData.eqv (dC d) (dC c) = true
    rw [dC_eqv]
    intro e
    exact z (by rw [← of_decide_eq_true e]; exact hd)
theorem holes_not {R : Rows} {n : Nat} : (allC n R.length).filter (fun c => !decide (c ∈ stonesOf R n)) = holesOf R n := by
  unfold holesOf
  refine List.filter_congr fun c hc => ?_
  have iff : c ∈ stonesOf R n ↔ signAt R c.1 c.2 ≠ [46] := by
    unfold stonesOf
    rw [List.mem_filter, decide_eq_true_iff]
    exact ⟨fun y => y.2, fun y => ⟨hc, y⟩⟩
  show (!decide (c ∈ stonesOf R n)) = decide (signAt R c.1 c.2 = [46])
  by_cases z : signAt R c.1 c.2 = [46]
  · have y : ¬ c ∈ stonesOf R n := fun y => iff.mp y z
    simp [z, y]
  · have y : c ∈ stonesOf R n := iff.mpr z
    simp [z, y]
theorem sign_edge {R : Rows} {n : Nat} (g : Grid R n) (x y : Int) : (!decide (V.str (S (signAt R x y)) = V.str ("#" : Str))) = inB R x y := by
  rw [show ("#" : Str) = S [35] by decide +kernel]
  by_cases io : inB R x y = true
  · obtain ⟨i, j, rfl, rfl, hi, hj⟩ := g.inside io
    obtain ⟨e1, m1, l1⟩ := g.at hj
    have ge : (rowAt R j)[i]? = some ((rowAt R j).getD i 0) := by
      rw [List.getD_eq_getElem?_getD, List.getElem?_eq_getElem (by omega)]
      rfl
    have gd := g.sgn _ m1 _ (List.mem_of_getElem? ge)
    have es : signAt R (i : Int) (j : Int) = [(rowAt R j).getD i 0] := by
      unfold signAt
      rw [if_pos io]
      rfl
    rw [io, es]
    generalize (rowAt R j).getD i 0 = d at gd
    have nd : ¬ S [d] = S [35] := fun y => by
      have y := S_inj y
      simp only [List.cons.injEq, and_true] at y
      unfold Good Let at gd
      omega
    simp [nd]
  · have es : signAt R x y = [35] := by
      unfold signAt
      rw [if_neg io]
    rw [es]
    have io : inB R x y = false := by simpa using io
    rw [io]
    simp
def far4 : List V := [.int 9, .int (-9), .int ((10 : Int) ^ (9 : Int).toNat), .int (-((10 : Int) ^ (9 : Int).toNat))]
theorem far4_mem : ∀ x ∈ far4, ∃ f : Int, x = .int f ∧ (f ≤ -9 ∨ 9 ≤ f) := by
  intro x hx
  unfold far4 at hx
  simp only [List.mem_cons, List.not_mem_nil, or_false] at hx
  rcases hx with rfl | rfl | rfl | rfl
  · exact ⟨_, rfl, .inr (by decide)⟩
  · exact ⟨_, rfl, .inl (by decide)⟩
  · exact ⟨_, rfl, .inr (by decide)⟩
  · exact ⟨_, rfl, .inl (by decide)⟩
theorem filt2 {K : PySem.W.Frag} {H1 : Hp} {a D : Addr} {ks : CL} {i : Nat} {σ : L2.St} {σx : V → L2.St} {tt : TT} {p : Cell → Bool} {Qd : Hp → Prop} (hgn : ∀ x G (R : L2.St → Hp → Prop), R (σx x) G → gName i x (wipe σ [i]) G R) (hw : ∀ x, wipe (σx x) [i] = wipe σ [i]) (hv : ∀ x G (R : VK), R x G → tVar i (σx x) G R)
    (ha : H1 a = some (.lst (refs ks))) (ht : Tups H1 ks) (few : ks.length ≤ 900) (test : ∀ t c G (R : Bool → Hp → Prop), Same H1 G → G t = some (CellO c) → c ∈ cellsOf ks → R (p c) G → tt (σx (.ref t)) G R) (nD : H1 D = none)
    (k : ∀ ms G, Same H1 G → G D = some (.lst (refs ms)) → Tups G ms → cellsOf ms = (cellsOf ks).filter p → Qd G) :
    ∃ W : Nat → Nat → Hp → Prop, (∃ m, W 0 m (upd H1 D (.lst []))) ∧ ∀ j m H, W j m H → ((Itl K a).stop j H ∧ Qd H) ∨ ((Itl K a).go j H ∧ ∃ Nx : Hp → Prop, (∀ H', Nx H' → ∃ m', m' < m ∧ W (j + 1) m' H') ∧ ∀ x H', (Itl K a).yld j H x H' → gName i x (wipe σ [i]) H' fun σ2 H2 => wipe σ2 [i] = wipe σ [i] ∧ tt σ2 H2 fun b H3 =>
      if b = true then tVar i σ2 H3 fun y H4 => ∃ acc, H4 D = some (.lst acc) ∧ acc.length < sizeLine ∧ Nx (upd H4 D (.lst (acc ++ [y]))) else Nx H3) := by
  have y := filt (K := K) (Q := fun v G => v = .ref D → Qd G) hgn hw hv ha ht few test (fun D' ms G s _ h1 h2 h3 e => by cases e; exact k ms G s h1 h2 h3) D nD
  obtain ⟨W, h0, st⟩ := y
  exact ⟨W, h0, fun j m H w => (st j m H w).elim (fun ⟨x, z⟩ => .inl ⟨x, z rfl⟩) .inr⟩
theorem far_out {R : Rows} {n : Nat} (g : Grid R n) {x y : Int} (h : x ≤ -9 ∨ 9 ≤ x ∨ y ≤ -9 ∨ 9 ≤ y) : inB R x y = false := by
  have := g.w8
  have := g.h8
  refine inB_out g ?_
  omega
theorem far_sign {R : Rows} {n : Nat} (g : Grid R n) {x y : Int} (h : x ≤ -9 ∨ 9 ≤ x ∨ y ≤ -9 ∨ 9 ≤ y) : (!decide (V.str (S (signAt R x y)) = V.str ("#" : Str))) = false := by
  rw [sign_edge g, far_out g h]
section
variable {P : Program} {w : World} {K : PySem.W.Frag} {mg : Str → Option Value} {base : Heap} {C CI CR : Addr}
def spShows (C : Addr) : Sp := fun vs H Q _ => ∃ r a R n, vs = [.ref r, .ref a] ∧ PicAt C H r R ∧ H a = some (.lst (rowsV R)) ∧ Grid R n ∧ ∀ H', Same H H' → Q (.bl true) H'
abbrev nShows : List Str := ["_law_picture", "_law_rows", "_law_told", "_law_stones_here", "_law_text", "_law_cell", "_law_cy", "_law_cx", "_law_sign_here", "_law_inside", "_law_far"]
theorem scShows : FnScope nShows ["_law_picture", "_law_rows"] (defScope lShows) := ⟨rfl, rfl, rfl, by decide +kernel, rfl, by decide +kernel, by decide +kernel⟩
theorem ok_shows {f fL fS fN fH fT fC fG fA fY fX fR : Addr} {fd dL dS dN dH dT dC' dG dA dY dX dR' : FuncData} (F : Fun K "_law_shows" "_law_shows" lShows f fd) (L : LTxt K mg) (B : BTxt K mg) (ms : mg "str" = none) (T : PCls K C)
    (OL : FnOk P w K mg base CX0 1 fL dL ["self"] (spLines C)) (mL : Meth K C "lines" fL) (bL : Binds K dL ["self"] [])
    (OS : FnOk P w K mg base CX0 1 fS dS ["self"] (spStr C)) (mS : OwnM K C "__str__" fS) (bS : Binds K dS ["self"] [])
    (ON : FnOk P w K mg base CX0 1 fN dN ["self"] (spLenP C)) (mN : OwnM K C "__len__" fN) (bN : Binds K dN ["self"] [])
    (OH : FnOk P w K mg base CX0 4 fH dH ["self"] (spSome C CR holesOf)) (mH : Meth K C "holes" fH) (bH : Binds K dH ["self"] [])
    (OT : FnOk P w K mg base CX0 4 fT dT ["self"] (spSome C CR stonesOf)) (mT : Meth K C "stones" fT) (bT : Binds K dT ["self"] [])
    (OC : FnOk P w K mg base CX0 1 fC dC' ["self", "x", "y"] (spContains C)) (mC : Meth K C "contains" fC) (bC : Binds K dC' ["self", "x", "y"] [])
    (OG : FnOk P w K mg base CX0 2 fG dG ["self", "at"] (spItem C)) (mG : OwnM K C "__getitem__" fG) (fi : PySem.W.fnIn K fG = true) (bG : Binds K dG ["self", "at"] [])
    (cA : Cl P w K mg base CX0 1 "_law_cells" ["_law_rows"] spCellsOf fA dA) (cY : Cl P w K mg base CX0 1 "_law_sign" ["_law_rows", "_law_cx", "_law_cy"] spSign fY dY) (cX : Cl P w K mg base CX0 2 "_law_stones" ["_law_rows"] spStonesL fX dX)
    (cR : Cl P w K mg base CX0 4 "_law_region_is" ["_law_region", "_law_due"] (spRegIs K CR) fR dR') : FnOk P w K mg base CX0 6 f fd ["_law_picture", "_law_rows"] (spShows C) := by
  refine F.ok scShows (fun vs H Q E h => ?_) (fun cdv A outer s H vs Q E hr h => ?_)
  · obtain ⟨r, a, R, n, rfl, _⟩ := h
    rfl
  · obtain ⟨r, a, R, n, rfl, hp, ha, g, k⟩ := h
    have hr1 : Room 1 _ := hr.mono (by decide)
    have hr2 : Room 2 _ := hr.mono (by decide)
    have hr3 : Room 3 _ := hr.mono (by decide)
    have hr4 : Room 4 _ := hr.mono (by decide)
    refine ⟨_, pss_cons (ps_if (PW.pt (pw_or (pt_cmpR op_ne (pe_fld (pv 0) rfl) (pe_callB call_len_str (by rfl) L.len PySem.boot_len (pa_cons (pe_ix ix_list (pv 1) pe_int (fun _ _ => rfl)) pa_nil)) (nomark _)) (pw_or1 (pt_cmpR op_ne (pe_fld (pv 0) rfl) (pe_callB call_len_seq (by rfl) L.len PySem.boot_len (pa_cons (pv 1) pa_nil)) (nomark _))))) (pss_one (ps_ret pe_bl)) pss_nil)
      (pss_cons (ps_set (i := 2) scShows.nd rfl (.inl rfl) (pe_meth0 (pv 0) T.cl mL OL hr1 bL .nil pass0))
      (pss_cons (ps_if (PW.pt (pw_or (pt_not (pt_val (pe_callB call_isi (by rfl) L.isi (by decide +kernel) (pa_cons (pv 2) (pa_cons (pe_bltn (v := .ty "list") (by rfl) L.lst (by decide +kernel) rfl) pa_nil))))) (pw_or1 (pt_cmpR (op_neD hr.units) (pv 2) (pv 1) (nomark _))))) (pss_one (ps_ret pe_bl)) pss_nil)
      (pss_cons (ps_expr (pe_bm PySem.F.plainAttrs_list PySem.F.slot_list_append PySem.F.type_list_append mt_append (pv 2) (pa_cons pe_str pa_nil)))
      (pss_cons (ps_set (i := 3) scShows.nd rfl (.inr rfl) (pe_call cX.ok hr2 (by rfl) cX.gl cX.kp cX.bd .nil pass0 (pa_cons (pv 1) pa_nil)))
      (pss_cons (ps_set (i := 4) scShows.nd rfl (.inl rfl) (pe_callTy (call_strP OS hr3 bS mS) (by rfl) ms (by decide +kernel) (pa_cons (pv 0) pa_nil)))
      (pss_cons (ps_if (PW.pt (pw_or (pt_cmpR op_ne (pe_callB (call_lenP ON hr2 bN mN) (by rfl) L.len PySem.boot_len (pa_cons (pv 0) pa_nil)) (pe_callB call_len_seq (by rfl) L.len PySem.boot_len (pa_cons (pv 3) pa_nil)) (nomark _)) (pw_or1 (pt_cmpR op_ne (pv 4) (pe_join pe_str (pv 1)) (nomark _))))) (pss_one (ps_ret pe_bl)) pss_nil)
      (pss_cons (ps_if (pt_not (pt_val (pe_call cR.ok hr4 (by rfl) cR.gl cR.kp cR.bd .nil pass0 (pa_cons (pe_meth0 (pv 0) T.cl mT OT hr4 bT .nil pass0) (pa_cons (pv 3) pa_nil))))) (pss_one (ps_ret pe_bl)) pss_nil)
      (pss_cons (ps_if (pt_not (pt_val (pe_call cR.ok hr4 (by rfl) cR.gl cR.kp cR.bd .nil pass0 (pa_cons (pe_meth0 (pv 0) T.cl mH OH hr4 bH .nil pass0) (pa_cons (pe_lc (own := [("_law_cell", 5)]) (g := gName 5) (tt := tTest (tOp (rNotInD K) (tVar 5) (tVar 3))) (te := tVar 5) rfl scShows.nd (pi_list (pe_call cA.ok hr1 (by rfl) cA.gl cA.kp cA.bd .nil pass0 (pa_cons (pv 1) pa_nil)))
          (blkOk_by (own := [("_law_cell", 5)]) (N := nShows) (sc := defScope lShows) (by decide +kernel)) (fun _ _ _ _ _ => pg_name (i := 5) scShows.nd rfl (Or.inl rfl)) (fun _ _ _ _ _ => pts_one (pt_cmpR (op_notInD (hu65 hr)) (pv 5) (pv 3) (by rfl))) (fun _ _ _ _ _ => pv 5)) pa_nil))))) (pss_one (ps_ret pe_bl)) pss_nil)
      (pss_cons (ps_for PassesOwn.never rfl (pi_range1 (by rfl) L.rng (pa_cons (pe_op op_add (pe_callB call_len_seq (by rfl) L.len PySem.boot_len (pa_cons (pv 1) pa_nil)) pe_int) pa_nil)) (pg_name (i := 6) scShows.nd rfl (.inl rfl))
        (pss_one (ps_for PassesOwn.never rfl (pi_range1 (by rfl) L.rng (pa_cons (pe_op op_add (pe_callB call_len_str (by rfl) L.len PySem.boot_len (pa_cons (pe_ix ix_list (pv 1) pe_int (fun _ _ => rfl)) pa_nil)) pe_int) pa_nil)) (pg_name (i := 7) scShows.nd rfl (.inl rfl))
          (pss_cons (ps_set (i := 8) scShows.nd rfl (.inl rfl) (pe_call cY.ok hr1 (by rfl) cY.gl cY.kp cY.bd .nil pass0 (pa_cons (pv 1) (pa_cons (pe_op op_sub (pv 7) pe_int) (pa_cons (pe_op op_sub (pv 6) pe_int) pa_nil)))))
          (pss_cons (ps_set (i := 9) scShows.nd rfl (.inl rfl) (pe_meth (pv 0) T.cl mC OC hr1 bC .nil pass0 (pa_cons (pe_op op_sub (pv 7) pe_int) (pa_cons (pe_op op_sub (pv 6) pe_int) pa_nil))))
          (pss_one (ps_if (PW.pt (pw_or (pt_cmpR op_ne (pe_item OG hr3 bG mG fi (pv 0) (pe_tup (pa_cons (pe_op op_sub (pv 7) pe_int) (pa_cons (pe_op op_sub (pv 6) pe_int) pa_nil)))) (pv 8) (nomark _))
            (pw_or (pt_not (pt_val (pe_callB call_isi (by rfl) L.isi (by decide +kernel) (pa_cons (pv 9) (pa_cons (pe_bltn (v := .ty "bool") (by rfl) B.bool (by decide +kernel) rfl) pa_nil))))) (pw_or1 (pt_cmpR op_ne (pv 9) (pe_cmpR op_ne (pv 8) pe_str (nomark _)) (nomark _)))))) (pss_one (ps_ret pe_bl)) pss_nil)))))))
      (pss_cons (ps_for PassesOwn.never rfl (pi_list (pe_lst (pa_cons pe_int (pa_cons (pe_un un_neg pe_int) (pa_cons (pe_op op_pow pe_int pe_int) (pa_cons (pe_un un_neg (pe_op op_pow pe_int pe_int)) pa_nil)))))) (pg_name (i := 10) scShows.nd rfl (.inl rfl))
        (pss_cons (ps_if (PW.pt (pw_or (pt_cmpR op_ne (pe_item OG hr3 bG mG fi (pv 0) (pe_tup (pa_cons (pv 10) (pa_cons pe_int pa_nil)))) pe_str (nomark _)) (pw_or (pt_cmpR op_ne (pe_item OG hr3 bG mG fi (pv 0) (pe_tup (pa_cons pe_int (pa_cons (pv 10) pa_nil)))) pe_str (nomark _))
            (pw_or1 (pt_cmpR op_ne (pe_item OG hr3 bG mG fi (pv 0) (pe_tup (pa_cons (pv 10) (pa_cons (pv 10) pa_nil)))) pe_str (nomark _)))))) (pss_one (ps_ret pe_bl)) pss_nil)
        (pss_one (ps_if (PW.pt (pw_or (pt_val (pe_meth (pv 0) T.cl mC OC hr1 bC .nil pass0 (pa_cons (pv 10) (pa_cons pe_int pa_nil)))) (pw_or1 (pt_val (pe_meth (pv 0) T.cl mC OC hr1 bC .nil pass0 (pa_cons pe_int (pa_cons (pv 10) pa_nil))))))) (pss_one (ps_ret pe_bl)) pss_nil))))
      (pss_one (ps_ret pe_bl)))))))))))), ?_⟩
    have hp0 := hp
    obtain ⟨dx, l, e1, e2⟩ := hp
    have ew := g.wide
    have h1 := g.h1
    have h8 := g.h8
    have w1 := g.w1
    have w8 := g.w8
    have ro := rows_ok g
    have r0 : atI (rowsV R) 0 = some (.str (S (rowAt R 0))) := atI_nat (j := 0) (rowsV_get g (by omega))
    have l0 : (rowAt R 0).length = n := (g.at (show 0 < R.length by omega)).2.2
    refine ⟨_, rfl, r, C, dx, _, _, rfl, e1, T.cl, T.nW, rfl, _, rfl, a, _, 0, _, rfl, rfl, SqL.of ha, r0, _, rfl, by rw [len_S, l0]; exact small_line (by omega), rfl, _, rfl, iteFe (by rw [len_S, l0, ew]; simp) ?_⟩
    refine ⟨_, rfl, r, C, dx, _, _, rfl, e1, T.cl, T.nH, rfl, _, rfl, a, _, rfl, .inl (SqL.of ha), rfl, _, rfl, iteFe (by rw [rowsV_len]; simp) ?_⟩
    -- the rows that are told
    refine ⟨_, rfl, r, dx, _, rfl, e1, rfl, r, R, rfl, hp0, fun p G1 s1 np hpp => ?_⟩
    refine ⟨_, rfl, .ref p, .ty "list", .type "list", .type "list", true, rfl, .ty _, .base (.lst hpp), kit_ty (by decide +kernel), true, rfl, iteF ?_⟩
    refine ⟨_, rfl, _, rfl, _, _, dp_list hpp, dp_list (s1 _ _ ha), ro.1, ro.1, _, rfl, iteFe (by rw [ro.2]; rfl) ?_⟩
    refine ⟨_, rfl, .inl ⟨rfl, _, SqL.of hpp⟩, p, _, _, rfl, rfl, hpp, by rw [rowsV_len]; exact small1000 (by omega), ?_⟩
    have s2 : Same H (upd G1 p (.lst (rowsV R ++ [V.str "a"]))) := fun b o e => by
      rw [upd_ne (ne_of_none e np)]
      exact s1 _ _ e
    generalize upd G1 p (.lst (rowsV R ++ [V.str "a"])) = G2 at s2
    -- stones, text, len
    refine ⟨_, rfl, a, R, n, rfl, s2 _ _ ha, g, fun q ms G3 s3 nq hq hm em => ?_⟩
    have s13 := s2.trans s3
    refine ⟨_, rfl, r, R, n, rfl, hp0.same s13, g, ?_⟩
    have lms : (refs ms).length = (stonesOf R n).length := by
      rw [← em]
      unfold refs cellsOf
      rw [List.length_map, List.length_map]
    refine ⟨_, rfl, r, R, n, rfl, hp0.same s13, g, fun G4 s4 => ⟨_, rfl, q, _, rfl, .inl (SqL.of (s4 _ _ hq)), rfl, _, rfl, iteFe (by rw [lms]; simp) ?_⟩⟩
    have s14 := s13.trans s4
    refine ⟨_, rfl, ⟨_, rfl⟩, _, rfl, ("\n" : Str), a, R.map S, rfl, rfl, .inl (by rw [strs_rows]; exact SqL.of (s14 _ _ ha)), join_fit g, rfl, _, rfl, iteFe (by rw [nl_S, join_S [10] R]; simp) ?_⟩
    -- the regions
    refine ⟨_, rfl, r, dx, _, rfl, s14 _ _ e1, rfl, r, R, n, rfl, hp0.same s14, g, fun z5 G5 s5 nz ra => ⟨_, rfl, z5, q, stonesOf R n, ms, rfl, ra, SqL.of (s5 _ _ (s4 _ _ hq)), (hm.same s4).same s5, em, fun G6 s6 => ⟨_, rfl, iteF ?_⟩⟩⟩
    have s46 := (s4.trans s5).trans s6
    have s16 := s13.trans s46
    have hq6 := s46 _ _ hq
    have hm6 := hm.same s46
    refine ⟨_, rfl, r, dx, _, rfl, s16 _ _ e1, rfl, r, R, n, rfl, hp0.same s16, g, fun z7 G7 s7 nz7 ra7 => ?_⟩
    have s17 := s16.trans s7
    refine ⟨_, rfl, a, R, n, rfl, s17 _ _ ha, g, fun p8 ks G8 s8 np8 hp8 hks eks => ⟨p8, rfl, ⟨_, SqL.of hp8⟩, fun D nD => ?_⟩⟩
    have lks : ks.length ≤ 64 := by
      have z := congrArg List.length eks
      rw [allC_len, show (cellsOf ks).length = ks.length from List.length_map _] at z
      have := Nat.mul_le_mul h8 w8
      omega
    have s18 := s17.trans s8
    have hq8 := s8 _ _ (s7 _ _ hq6)
    have hm8 := (hm6.same s7).same s8
    refine filt2 (K := K) (tt := tTest (tOp (rNotInD K) (tVar 5) (tVar 3))) (i := 5) (σ := [some (.ref r), some (.ref a), some (.ref p), some (.ref q), some (.str (S (TL.joinL [10] R))), none, none, none, none, none, none]) (σx := fun x => [some (.ref r), some (.ref a), some (.ref p), some (.ref q), some (.str (S (TL.joinL [10] R))), some x, none, none, none, none, none]) (p := fun c => !decide (c ∈ stonesOf R n))
      (fun x G R h => h) (fun x => rfl) (fun x G R h => ⟨_, rfl, h⟩) hp8 hks (by omega) (fun t c G Rr sm htc hc hR => ?_) nD fun hs G9 s9 hD hh eh => ?_
    · refine ⟨_, rfl, _, rfl, dC c, (cellsOf ms).map dC, dp_cell htc, dp_cl (SqL.of (sm _ _ hq8)) (hm8.same sm), dC_shaped c, dCs_shaped _, _, rfl, ?_⟩
      rw [any_mem, em]
      exact hR
    rw [eks, holes_not] at eh
    have s89 := s8.trans s9
    refine ⟨z7, D, holesOf R n, hs, rfl, ra7.same s89, SqL.of hD, hh, eh, fun G10 s10 => ⟨_, rfl, iteF ?_⟩⟩
    have sA := (s18.trans s9).trans s10
    clear eh hh hD s89 hm8 hq8 s18 lks hks hp8 np8 s17 ra7 nz7 nD hm6 hq6 s16 s46 ra nz s14 lms s13 em hm hq nq s2 hpp np s1
    -- each position
    refine ⟨_, rfl, a, _, rfl, .inl (SqL.of (sA _ _ ha)), _, _, rfl, rfl, _, rfl, by rw [rowsV_len]; omega, by rw [rowsV_len]; omega, ?_⟩
    rw [rowsV_len, show ((R.length : Int) + 8).toNat = R.length + 8 by omega]
    let Iv : L2.St → Hp → Prop := fun σ G => ∃ y6 y7 y8 y9, σ = [some (.ref r), some (.ref a), some (.ref p), some (.ref q), some (.str (S (TL.joinL [10] R))), none, y6, y7, y8, y9, none] ∧ Same H G
    refine for_range (lo := 0) (n := R.length + 8) (fun _ σ G => Iv σ G) ⟨_, _, _, _, rfl, sA⟩ ?_ ?_
    · rintro j σ G hj ⟨y6, y7, y8, y9, rfl, sG⟩
      refine ⟨_, rfl, a, _, 0, _, rfl, rfl, SqL.of (sG _ _ ha), r0, _, rfl, by rw [len_S, l0]; exact small_line (by omega), _, _, rfl, rfl, _, rfl, by rw [len_S, l0]; omega, by rw [len_S, l0]; omega, ?_⟩
      rw [len_S, l0, show ((n : Int) + 8).toNat = n + 8 by omega]
      refine for_range (lo := 0) (n := n + 8) (fun _ σ G => ∃ y7 y8 y9, σ = [some (.ref r), some (.ref a), some (.ref p), some (.ref q), some (.str (S (TL.joinL [10] R))), none, some (.int (0 + (j : Int))), y7, y8, y9, none] ∧ Same H G) ⟨_, _, _, rfl, sG⟩ ?_ ?_
      · rintro i σ G hi ⟨y7, y8, y9, rfl, sG⟩
        refine ⟨_, rfl, _, rfl, _, _, rfl, rfl, _, rfl, _, _, rfl, rfl, a, R, n, _, _, rfl, sG _ _ ha, g, ?_⟩
        refine ⟨_, rfl, r, dx, _, rfl, sG _ _ e1, rfl, _, rfl, _, _, rfl, rfl, _, rfl, _, _, rfl, rfl, r, R, _, _, rfl, hp0.same sG, ?_⟩
        refine ⟨_, rfl, _, rfl, _, _, rfl, rfl, _, rfl, _, _, rfl, rfl, small_line (by show 2 ≤ 1000; decide), fun t nt => ?_⟩
        have st := same_upd (o := CellO (0 + (i : Int) - 4, 0 + (j : Int) - 4)) nt
        have sT := sG.trans st
        refine ⟨r, dx, _, rfl, sT _ _ e1, r, R, n, t, _, _, rfl, hp0.same sT, g, upd_same, _, rfl, rfl, _, rfl, iteFe (by simp) ?_⟩
        refine ⟨_, rfl, .bl _, .ty "bool", .type "bool", .type "bool", true, rfl, .ty _, .base (.bl _), kit_ty (by decide +kernel), true, rfl, iteF ?_⟩
        refine ⟨_, rfl, _, rfl, rfl, rfl, _, rfl, iteFe (by rw [sign_edge g]; simp) ?_⟩
        exact ⟨_, _, _, rfl, sT⟩
      · rintro σ G ⟨y7, y8, y9, rfl, sG⟩
        exact ⟨_, _, _, _, rfl, sG⟩
    · rintro σ G ⟨y6, y7, y8, y9, rfl, sG⟩
      -- far away
      refine ⟨_, rfl, _, _, rfl, rfl, ⟨by decide, by decide, by decide⟩, _, _, rfl, rfl, ⟨by decide, by decide, by decide⟩, _, rfl, small_line (by show 4 ≤ 1000; decide), fun v nv => ?_⟩
      have sv := same_upd (o := .lst far4) nv
      refine ⟨v, rfl, ⟨_, SqL.of upd_same⟩, for_list (K := K) (a := v) (xs := far4) (fun _ σ G' => ∃ y, σ = [some (.ref r), some (.ref a), some (.ref p), some (.ref q), some (.str (S (TL.joinL [10] R))), none, y6, y7, y8, y9, y] ∧ Same (upd G v (.lst far4)) G') ⟨_, rfl, Same.refl _⟩ (fun i σ G' _ ⟨_, _, s'⟩ => SqL.of (s' _ _ upd_same)) ?_ ?_⟩
      · rintro i x σ G' hx ⟨y, rfl, s'⟩
        obtain ⟨f, rfl, hf⟩ := far4_mem x (List.mem_of_getElem? hx)
        have c1 : f ≤ -9 ∨ 9 ≤ f ∨ (0 : Int) ≤ -9 ∨ (9 : Int) ≤ 0 := by omega
        have c2 : (0 : Int) ≤ -9 ∨ (9 : Int) ≤ 0 ∨ f ≤ -9 ∨ 9 ≤ f := by omega
        have c3 : f ≤ -9 ∨ 9 ≤ f ∨ f ≤ -9 ∨ 9 ≤ f := by omega
        have sB := (sG.trans sv).trans s'
        refine ⟨_, rfl, _, rfl, small_line (by show 2 ≤ 1000; decide), fun t nt => ?_⟩
        have st := same_upd (o := CellO (f, 0)) nt
        have sC := sB.trans st
        refine ⟨r, dx, _, rfl, sC _ _ e1, r, R, n, t, f, 0, rfl, hp0.same sC, g, upd_same, rfl, _, rfl, iteFe (far_sign g c1) ?_⟩
        refine ⟨_, rfl, _, rfl, small_line (by show 2 ≤ 1000; decide), fun t2 nt2 => ?_⟩
        have st2 := same_upd (o := CellO (0, f)) nt2
        have sD := sC.trans st2
        refine ⟨r, dx, _, rfl, sD _ _ e1, r, R, n, t2, 0, f, rfl, hp0.same sD, g, upd_same, rfl, _, rfl, iteFe (far_sign g c2) ?_⟩
        refine ⟨_, rfl, _, rfl, _, rfl, small_line (by show 2 ≤ 1000; decide), fun t3 nt3 => ?_⟩
        have st3 := same_upd (o := CellO (f, f)) nt3
        have sE := sD.trans st3
        refine ⟨r, dx, _, rfl, sE _ _ e1, r, R, n, t3, f, f, rfl, hp0.same sE, g, upd_same, rfl, _, rfl, iteFe (far_sign g c3) ?_⟩
        refine ⟨_, rfl, r, dx, _, rfl, sE _ _ e1, rfl, _, rfl, r, R, f, 0, rfl, hp0.same sE, _, rfl, iteFe (far_out g c1) ?_⟩
        refine ⟨_, rfl, r, dx, _, rfl, sE _ _ e1, rfl, _, rfl, r, R, 0, f, rfl, hp0.same sE, _, rfl, iteFe (far_out g c2) ?_⟩
        exact ⟨_, rfl, s'.trans ((st.trans st2).trans st3)⟩
      · rintro σ G' ⟨y, rfl, s'⟩
        exact k G' ((sG.trans sv).trans s')
end
end Pm
namespace Pm
open PySem PySem.Spec PyProof.Rows L2 SX
section
variable {P : Program} {w : World} {K : PySem.W.Frag} {mg : Str → Option Value} {base : Heap} {C CI : Addr}
/-- as spInit, and the list of the new picture is new -/
def spInitN (C CI : Addr) : Sp := fun vs H Q E => ∃ r dx a R, vs = [.ref r, .ref a] ∧ H r = some (.ins C dx []) ∧ H a = some (.lst (rowsV R)) ∧ R.length ≤ 1000 ∧ (∀ z ∈ R, z.length ≤ 1000) ∧
  (0 < lineOf R → Lets E CI [("line", .int (lineOf R))] H) ∧ (lineOf R = 0 → ∀ H' dx l, H' r = some (.ins C dx [("_rows", .ref l), ("width", .int (wideOf R)), ("height", .int (R.length : Int))]) → H' l = some (.lst (rowsV R)) → H l = none → SameBut r H H' → Q .non H')
theorem ok_initN {f g e : Addr} {fd gd ed : FuncData} (F : Fun K "__init__" "Picture.__init__" cPictureInit f fd) (G : Cl P w K mg base CX0 4 "_bad_line" ["rows"] spLine g gd) (Ex : EMk P w K mg base CI "InvalidPicture" ["self", "line"] (spE1 CI "line") e ed) (L : LTxt K mg) (T : PCls K C) :
    FnOk P w K mg base (L2.CX P w) 5 f fd ["self", "rows"] (spInitN C CI) := by
  refine F.okX scInit (fun vs H Q E h => ?_) (fun cdv A outer s H vs Q E hr h => ?_)
  · obtain ⟨r, dx, a, R, rfl, _⟩ := h
    rfl
  · obtain ⟨r, dx, a, R, rfl, hR, ha, few, each, bad, good⟩ := h
    refine ⟨_, pss_cons (ps_set (i := 2) scInit.nd rfl (.inl rfl) (pe_call G.ok hr (by rfl) G.gl G.kp G.bd .nil pass0 (pa_cons (pv 1) pa_nil)))
      (pss_cons (ps_if (pt_cmpR op_gt (pv 2) pe_int (nomark _)) (pss_one (ps_raise rfl (takes_of rfl rfl rfl rfl) (pmk_oex Ex.T Ex.at_ Ex.ty Ex.ok (hr.mono (by decide)) Ex.bd .nil pass0 (by rfl) Ex.gl (pa_cons (pv 2) pa_nil)))) pss_nil)
      (pss_cons (ps_fld (pv 0) (pe_callTy call_list_of (by rfl) L.lst (by decide +kernel) (pa_cons (pv 1) pa_nil)) rfl)
      (pss_cons (ps_fld (pv 0) (pe_callB call_len_str (by rfl) L.len PySem.boot_len (pa_cons (pe_ix ix_list (pv 1) pe_int (fun _ _ => rfl)) pa_nil)) rfl)
      (pss_one (ps_fld (pv 0) (pe_callB call_len_seq (by rfl) L.len PySem.boot_len (pa_cons (pv 1) pa_nil)) rfl))))), ?_⟩
    refine ⟨_, rfl, a, R, rfl, ha, few, each, fun H1 s1 => ?_⟩
    refine ⟨_, rfl, _, _, rfl, rfl, _, rfl, ite2 (fun p => ?_) (fun p => ?_)⟩
    · have pos : 0 < lineOf R := of_decide_eq_true p
      refine ⟨_, rfl, by show 1 ≤ 1000; decide, fun x nx => ⟨x, _, rfl, upd_same, fun H2 d h1 h2 nd ne sb => ⟨rfl, d, _, h1, h2, ?_, ?_⟩⟩⟩
      · rwa [upd_ne ne] at nd
      · have nd1 : H1 d = none := by rwa [upd_ne ne] at nd
        exact bad pos d _ (back s1 nd1) upd_same (s1.trans (on_way nx nd ne sb))
    · have zero : lineOf R = 0 := by
        have y := lineOf_nonneg R
        have z : ¬ 0 < lineOf R := fun y => p (decide_eq_true y)
        omega
      match R, ha, few, each, bad, good, zero with
      | q :: R, ha, few, each, bad, good, zero =>
        refine ⟨_, rfl, a, _, rfl, .inl (SqL.of (s1 _ _ ha)), fun l nl => ⟨_, rfl, r, C, dx, [], rfl, same_upd nl _ _ (s1 _ _ hR), T.cl, T.nR, by show 0 < 1000; decide, ?_⟩⟩
        have nra : a ≠ r := ne_of (s1 _ _ ha) (s1 _ _ hR) (by intro z; cases z)
        have nlr : l ≠ r := Ne.symm (ne_of_none (s1 _ _ hR) nl)
        have nla : l ≠ a := Ne.symm (ne_of_none (s1 _ _ ha) nl)
        refine ⟨_, rfl, a, _, 0, _, rfl, rfl, SqL.of (by rw [upd_ne nra, upd_ne nla.symm]; exact s1 _ _ ha), row0 q R, _, rfl, by rw [len_S]; exact small_line (each q List.mem_cons_self), _, rfl, r, C, dx, _, rfl, upd_same, T.cl, T.nW, by show 1 < 1000; decide, ?_⟩
        refine ⟨_, rfl, a, _, rfl, .inl (SqL.of (by rw [upd_ne nra, upd_ne nra, upd_ne nla.symm]; exact s1 _ _ ha)), _, rfl, r, C, dx, _, rfl, upd_same, T.cl, T.nH, by show 2 < 1000; decide, ?_⟩
        refine good zero _ dx l ?_ ?_ (back s1 nl) fun b o nb e => ?_
        · rw [upd_same, rowsV_len, len_S]
          rfl
        · rw [upd_ne nlr, upd_ne nlr, upd_ne nlr]
          exact upd_same
        · rw [upd_ne nb, upd_ne nb, upd_ne nb]
          exact same_upd nl _ _ (s1 _ _ e)
end
end Pm
namespace Pm
open PySem PySem.Spec PyProof.Rows L2 SX
theorem parts_grid {R : Rows} {n : Nat} (g : Grid R n) : parts (TL.joinL [10] R) = R := by
  have h1 := g.h1
  refine spl_join (fun e => ?_) fun p m c => ?_
  · rw [e] at h1
    exact absurd h1 (by decide)
  · have z := g.sgn p m 10 c
    unfold Good Let at z
    omega
theorem join_len (n : Nat) : ∀ R : Rows, (∀ z ∈ R, z.length ≤ n) → (TL.joinL [10] R).length ≤ R.length * (n + 1)
  | [], _ => Nat.zero_le _
  | [z], h => by
    have := h z List.mem_cons_self
    show z.length ≤ _
    simp only [List.length_cons, List.length_nil]
    omega
  | z :: y :: R, h => by
    have e := join_len n (y :: R) fun x m => h x (List.mem_cons_of_mem _ m)
    have e1 := h z List.mem_cons_self
    have e2 : (TL.joinL [10] (z :: y :: R)).length = z.length + 1 + (TL.joinL [10] (y :: R)).length := by
      simp only [TL.joinL, List.length_append, List.length_cons, List.length_nil]
      omega
    rw [e2]
    have e3 : (z :: y :: R).length * (n + 1) = (y :: R).length * (n + 1) + (n + 1) := Nat.succ_mul _ _
    omega
section
variable {P : Program} {w : World} {K : PySem.W.Frag} {mg : Str → Option Value} {base : Heap} {C CI CR : Addr}
def spLaw (K : PySem.W.Frag) : Sp := fun vs H Q _ => ∃ (a : Addr) (ns : List Int), vs = [.ref a] ∧ SqL K H a (ns.map V.int) ∧ ns.length ≤ 63 ∧ ∀ H', Q (.bl true) H'
abbrev nLaw : List Str := ["_law_script", "_law_bag_here", "_law_rows", "_law_passed", "_law_picture", "_law_back"]
theorem scLaw : FnScope nLaw ["_law_script"] (defScope lLaw) := ⟨rfl, rfl, rfl, by decide +kernel, rfl, by decide +kernel, by decide +kernel⟩
theorem raw0 {CXf : CXT} {k : Nat} {f : Addr} {fd : FuncData} {ps : List Str} {sp : Sp} (O : FnOk P w K mg base CXf k f fd ps sp) (b : Binds K fd ps []) : FnR P w K mg base CXf k f sp := by
  have z := O.raw b (.nil : Vals [] [])
  have e : (fun vs H Q E => sp (vs ++ []) H Q E) = sp := by
    funext vs H Q E
    rw [List.append_nil]
  rwa [e] at z
/-- what is read of the class itself -/
structure CRd (K : PySem.W.Frag) (C : Addr) (mc : Value) (p f : Addr) (uh ue : Value) : Prop where
  rd : ClX.CRead K C mc
  me : ClX.CMet K C mc "read" p f
  ho : ClX.CVal K C mc "HOLE" (.str ".") uh
  ed : ClX.CVal K C mc "EDGE" (.str "#") ue
theorem ok_law {f fBag fPal fGrid fI fD fQ fS fT fH : Addr} {fd dBag dPal dGrid dI dD dQ dS dT dH : FuncData} {mc : Value} {cp : Addr} {uh ue : Value} (F : Fun K "law" "law" lLaw f fd) (L : LTxt K mg) (ms : mg "str" = none) (T : PCls K C) (Y : PKit K mg C) (cr : CRd K C mc cp fD uh ue)
    (cBag : Cl P w K mg base CX0 1 "_law_bag" ["_law_script"] (spBag K) fBag dBag) (cPal : Cl P w K mg base CX0 2 "_law_palette" ["_law_bag_here"] spPal fPal dPal) (cGrid : Cl P w K mg base CX0 3 "_law_big_grid" ["_law_bag_here", "_law_palette_here"] spGrid fGrid dGrid)
    (OI : FnOk P w K mg base (L2.CX P w) 5 fI dI ["self", "rows"] (spInitN C CI)) (M : Mk K C fI) (bI : Binds K dI ["self", "rows"] [])
    (OD : FnOk P w K mg base (L2.CX P w) 7 fD dD ["cls", "text"] (spRead C CI)) (bD : Binds K dD ["cls", "text"] [])
    (OQ : FnOk P w K mg base CX0 1 fQ dQ ["self", "other"] (spPEq C)) (OO : FnOk P w K mg base CX0 1 fQ dQ ["self", "other"] (spPEqO K C)) (mQ : OwnM K C "__eq__" fQ) (bQ : Binds K dQ ["self", "other"] [])
    (nS : NotT K C "str") (nL : NotT K C "list") (TR : RCTxt K mg CR) (kk : PySem.W.kitOne K (.ref CR) (.ref C) = some false) (sub : PySem.W.subIn K (.ref CR) (.ref C) = some false)
    (OS : FnOk P w K mg base CX0 1 fS dS ["self"] (spStr C)) (mS : OwnM K C "__str__" fS) (bS : Binds K dS ["self"] [])
    (OT : FnOk P w K mg base CX0 4 fT dT ["self"] (spSome C CR stonesOf)) (mT : Meth K C "stones" fT) (bT : Binds K dT ["self"] [])
    (cH : Cl P w K mg base CX0 6 "_law_shows" ["_law_picture", "_law_rows"] (spShows C) fH dH) : FnOk P w K mg base CX0 9 f fd ["_law_script"] (spLaw K) := by
  refine F.ok scLaw (fun vs H Q E h => ?_) (fun cdv A outer s H vs Q E hr h => ?_)
  · obtain ⟨a, ns, rfl, _⟩ := h
    rfl
  · obtain ⟨a, ns, rfl, ha, few, k⟩ := h
    have hr1 : Room 1 _ := hr.mono (by decide)
    have hr2 : Room 2 _ := hr.mono (by decide)
    have hr3 : Room 3 _ := hr.mono (by decide)
    have hr4 : Room 4 _ := hr.mono (by decide)
    have hr6 : Room 6 _ := hr.mono (by decide)
    have hr7 : Room 7 _ := hr.mono (by decide)
    refine ⟨_, pss_cons (ps_set (i := 1) scLaw.nd rfl (.inl rfl) (pe_call cBag.ok hr1 (by rfl) cBag.gl cBag.kp cBag.bd .nil pass0 (pa_cons (pv 0) pa_nil)))
      (pss_cons (ps_set (i := 2) scLaw.nd rfl (.inl rfl) (pe_call cGrid.ok hr3 (by rfl) cGrid.gl cGrid.kp cGrid.bd .nil pass0 (pa_cons (pv 1) (pa_cons (pe_call cPal.ok hr2 (by rfl) cPal.gl cPal.kp cPal.bd .nil pass0 (pa_cons (pv 1) pa_nil)) pa_nil))))
      (pss_cons (ps_set (i := 3) scLaw.nd rfl (.inl rfl) (pe_callTy call_list_of (by rfl) L.lst (by decide +kernel) (pa_cons (pv 2) pa_nil)))
      (pss_cons (ps_set (i := 4) scLaw.nd rfl (.inl rfl) (pe_makeS (E := fun _ => E0) M OI hr6 (by rfl) Y.gC bI (fun σ pins H s e s' I c => passF pins σ H s e s' I c) (pa_cons (pv 3) pa_nil)))
      (pss_cons (ps_if (PW.pt (pw_or (pt_not (pt_val (pe_call cH.ok hr6 (by rfl) cH.gl cH.kp cH.bd .nil pass0 (pa_cons (pv 4) (pa_cons (pv 2) pa_nil))))) (pw_or1 (pt_cmpR (op_neD hr.units) (pv 3) (pv 2) (nomark _))))) (pss_one (ps_ret pe_bl)) pss_nil)
      (pss_cons (ps_asg (pe_op op_add_str (pe_ix ix_list (pv 3) pe_int (fun _ _ => rfl)) pe_str) (pg_sub (pv 3) pe_int set_list))
      (pss_cons (ps_expr (pe_bm PySem.F.plainAttrs_list PySem.F.slot_list_append PySem.F.type_list_append mt_append (pv 3) (pa_cons pe_str pa_nil)))
      (pss_cons (ps_set (i := 5) scLaw.nd rfl (.inl rfl) (pe_cmethE (E := fun _ => E0) (pe_glob (v := .ref C) (by rfl) Y.gC rfl) cr.rd cr.me (raw0 OD bD) hr7 (fun σ pins H s e s' I c => passF pins σ H s e s' I c) (pa_cons (pe_join pe_str (pv 2)) pa_nil)))
      (pss_cons (ps_if (PW.pt (pw_or (pt_not (pt_val (pe_call cH.ok hr6 (by rfl) cH.gl cH.kp cH.bd .nil pass0 (pa_cons (pv 4) (pa_cons (pv 2) pa_nil))))) (pw_or1 (pt_not (pt_val (pe_call cH.ok hr6 (by rfl) cH.gl cH.kp cH.bd .nil pass0 (pa_cons (pv 5) (pa_cons (pv 2) pa_nil)))))))) (pss_one (ps_ret pe_bl)) pss_nil)
      (pss_cons (ps_if (PW.pt (pw_or (pt_cmpR op_notBl (pe_cmpR (op_peqS OO hr1 bQ mQ nS) (pv 4) (pe_callTy (call_strP OS hr3 bS mS) (by rfl) ms (by decide +kernel) (pa_cons (pv 4) pa_nil)) (nomark _)) pe_bl (nomark _)) (pw_or1 (pt_cmpR op_notBl (pe_cmpR (op_peqR OO hr1 bQ mQ TR kk sub) (pv 4) (pe_meth0 (pv 4) T.cl mT OT hr4 bT .nil pass0) (nomark _)) pe_bl (nomark _))))) (pss_one (ps_ret pe_bl)) pss_nil)
      (pss_cons (ps_if (PW.pt (pw_or (pt_cmpR op_ne (ClX.pe_cval (pe_glob (v := .ref C) (by rfl) Y.gC rfl)) pe_str (nomark _)) (pw_or1 (pt_cmpR op_ne (ClX.pe_cval (pe_glob (v := .ref C) (by rfl) Y.gC rfl)) pe_str (nomark _))))) (pss_one (ps_ret pe_bl)) pss_nil)
      (pss_one (ps_ret (pe_and (pe_cmpR op_isBl (pe_cmpR (op_peq OQ hr1 bQ mQ) (pv 4) (pv 5) (nomark _)) pe_bl (nomark _)) (pe_and (pe_cmpR op_isBl (pe_cmpR (op_peqL OO hr1 bQ mQ nL) (pv 4) (pv 2) (nomark _)) pe_bl (nomark _))
        (pe_one (pe_cmpR (op_peq OQ hr1 bQ mQ) (pe_cmethE (E := fun _ => E0) (pe_glob (v := .ref C) (by rfl) Y.gC rfl) cr.rd cr.me (raw0 OD bD) hr7 (fun σ pins H s e s' I c => passF pins σ H s e s' I c) (pa_cons (pe_callTy (call_strP OS hr3 bS mS) (by rfl) ms (by decide +kernel) (pa_cons (pv 5) pa_nil)) pa_nil)) (pv 4) (nomark _))))))))))))))))), ?_⟩
    refine ⟨_, rfl, a, ns, rfl, ha, few, fun b l H1 s1 nb hb => ?_⟩
    refine ⟨_, rfl, _, rfl, b, l, rfl, hb, fun z0 H2 hz u2 b2 => ⟨b, l, z0, rfl, b2, hz, fun p R n H3 g s3 b3 np hp => ?_⟩⟩
    have h1 := g.h1
    have h8 := g.h8
    have w1 := g.w1
    have w8 := g.w8
    have ro := rows_ok g
    have lo := g.low
    have line0 := g.line
    have r0 : atI (rowsV R) 0 = some (.str (S (rowAt R 0))) := atI_nat (j := 0) (rowsV_get g (by omega))
    have l0 : (rowAt R 0).length = n := (g.at (show 0 < R.length by omega)).2.2
    have lj : (TL.joinL [10] R).length ≤ 1000 := by
      have z := join_len 8 R fun y m => by rw [g.row y m]; exact w8
      omega
    -- the list that is passed, the picture
    refine ⟨_, rfl, p, _, rfl, .inl (SqL.of hp), fun q nq => ?_⟩
    have s4 := same_upd (o := .lst (rowsV R)) nq
    have hq4 : (upd H3 q (.lst (rowsV R))) q = some (.lst (rowsV R)) := upd_same
    have npq : p ≠ q := ne_of_none hp nq
    generalize upd H3 q (.lst (rowsV R)) = H4 at s4 hq4
    refine ⟨_, rfl, fun pic dx nx nd ne => ⟨pic, dx, q, R, rfl, upd_same, made_same nx nd _ _ hq4, by omega, fun y m => by rw [g.row y m]; omega, gone (by rw [line0]; decide), fun _ G dy li e1 e2 nl sb => ⟨rfl, ?_⟩⟩⟩
    have sG := made_but nx nd sb
    have nlq : li ≠ q := fun e => by
      rw [e, made_same nx nd _ _ hq4] at nl
      cases nl
    have npicq : pic ≠ q := fun e => by
      rw [e, hq4] at nx
      cases nx
    have hqG := sG _ _ hq4
    have hpG := sG _ _ (s4 _ _ hp)
    have hpic : PicAt C G pic R := ⟨dy, li, e1, e2⟩
    -- it shows the rows
    refine ⟨_, rfl, _, rfl, pic, p, R, n, rfl, hpic, hpG, g, fun G1 t1 => ⟨_, rfl, iteF ?_⟩⟩
    refine ⟨_, rfl, _, rfl, _, _, dp_list (t1 _ _ hqG), dp_list (t1 _ _ hpG), ro.1, ro.1, _, rfl, iteFe (by rw [ro.2]; rfl) ?_⟩
    -- the list that was passed changes
    have hq1 := t1 _ _ hqG
    refine ⟨_, rfl, q, _, 0, _, rfl, rfl, SqL.of hq1, r0, _, _, rfl, rfl, ?_, _, rfl, q, _, 0, 0, rfl, rfl, hq1, ixN_nat (j := 0) (by rw [rowsV_len]; omega), ?_⟩
    · rw [len_S, l0]
      show n + 1 ≤ sizeLine
      exact small_line (by omega)
    have hq2 : (upd G1 q (.lst ((rowsV R).set 0 (.str (S (rowAt R 0) ++ ("a" : Str)))))) q = some (.lst ((rowsV R).set 0 (.str (S (rowAt R 0) ++ ("a" : Str))))) := upd_same
    refine ⟨_, rfl, .inl ⟨rfl, _, SqL.of hq2⟩, q, _, _, rfl, rfl, hq2, by rw [List.length_set, rowsV_len]; exact small1000 (by omega), ?_⟩
    have keep : ∀ o x, o ≠ q → G1 o = some x → (upd (upd G1 q (.lst ((rowsV R).set 0 (.str (S (rowAt R 0) ++ ("a" : Str)))))) q (.lst ((rowsV R).set 0 (.str (S (rowAt R 0) ++ ("a" : Str))) ++ [V.str ""]))) o = some x := fun o x no e => by
      rw [upd_ne no, upd_ne no]
      exact e
    generalize upd (upd G1 q (.lst ((rowsV R).set 0 (.str (S (rowAt R 0) ++ ("a" : Str)))))) q (.lst ((rowsV R).set 0 (.str (S (rowAt R 0) ++ ("a" : Str))) ++ [V.str ""])) = G2 at keep
    have hp2 : G2 p = some (.lst (rowsV R)) := keep _ _ npq (t1 _ _ hpG)
    have pic2 : PicAt C G2 pic R := ⟨dy, li, keep _ _ npicq (t1 _ _ e1), keep _ _ nlq (t1 _ _ e2)⟩
    clear keep hq2 hq1 hpic e1 e2 hqG hpG sG nlq npicq nl sb nx nd ne hq4 s4 nq npq t1
    -- read
    have pg := parts_grid g
    refine ⟨rfl, ⟨_, rfl⟩, _, rfl, ("\n" : Str), p, R.map S, rfl, rfl, .inl (by rw [strs_rows]; exact SqL.of hp2), join_fit g, ?_⟩
    rw [nl_S, join_S [10] R]
    refine ⟨TL.joinL [10] R, rfl, lj, by rw [pg]; omega, by rw [pg]; exact fun y m => by rw [g.row y m]; omega, gone (by rw [pg, line0]; decide), fun _ bk G3 hbk t3 => ?_⟩
    rw [pg] at hbk
    have hp3 := t3 _ _ hp2
    have pic3 := pic2.same t3
    refine ⟨_, rfl, _, rfl, pic, p, R, n, rfl, pic3, hp3, g, fun G4 t4 => ⟨_, rfl, iteF ?_⟩⟩
    refine ⟨_, rfl, _, rfl, bk, p, R, n, rfl, hbk.same t4, t4 _ _ hp3, g, fun G5 t5 => ⟨_, rfl, iteF ?_⟩⟩
    have t35 := t4.trans t5
    have pic5 := pic3.same t35
    have bk5 := hbk.same t35
    have hp5 := t35 _ _ hp3
    -- other kinds
    refine ⟨_, rfl, _, rfl, pic, R, n, rfl, pic5, g, pic, R, _, rfl, rfl, pic5, _, _, rfl, rfl, _, rfl, iteF ?_⟩
    have pic50 := pic5
    obtain ⟨d5, l5, e5, e6⟩ := pic5
    refine ⟨_, rfl, _, rfl, pic, d5, _, rfl, e5, rfl, pic, R, n, rfl, pic50, g, fun z G6 t6 nz ra => ⟨pic, z, R, _, rfl, rfl, pic50.same t6, ra, _, _, rfl, rfl, _, rfl, iteF ?_⟩⟩
    refine ⟨C, mc, .str ".", uh, rfl, cr.rd, cr.ho, rfl, _, rfl, iteFe (by simp) ?_⟩
    refine ⟨C, mc, .str "#", ue, rfl, cr.rd, cr.ed, rfl, _, rfl, iteFe (by simp) ?_⟩
    have pic6 := pic50.same t6
    have bk6 := bk5.same t6
    refine ⟨_, rfl, _, rfl, pic, bk, R, R, rfl, rfl, pic6, bk6, lo, lo, _, _, rfl, rfl, _, rfl, iteTe (by simp) ?_⟩
    refine ⟨_, rfl, _, rfl, pic, p, R, _, rfl, rfl, pic6, t6 _ _ hp5, _, _, rfl, rfl, _, rfl, iteTe (by simp) ?_⟩
    refine ⟨rfl, _, rfl, bk, R, n, rfl, bk6, g, ?_⟩
    refine ⟨TL.joinL [10] R, rfl, lj, by rw [pg]; omega, by rw [pg]; exact fun y m => by rw [g.row y m]; omega, gone (by rw [pg, line0]; decide), fun _ r2 G7 hr2 t7 => ?_⟩
    rw [pg] at hr2
    refine ⟨_, rfl, r2, pic, R, R, rfl, rfl, hr2, pic6.same t7, lo, lo, ?_⟩
    rw [decide_eq_true rfl]
    exact k G7
end
end Pm
namespace Pm
open PySem PySem.Spec PyProof.Rows L2 SX
theorem kit_cls {K : PySem.W.Frag} {D S : Addr} {cd : ClassData} {b : Bool} (ne : (D == S) = false) (c : PySem.W.clsIn K S = some cd) (t : PySem.W.typeIn K (.ref S) = some (.type "type")) (sub : PySem.W.subIn K (.ref D) (.ref S) = some b) : PySem.W.kitOne K (.ref D) (.ref S) = some b := by
  unfold PySem.W.kitOne
  rw [if_neg (by simpa using ne)]
  show (if ((PySem.W.clsIn K S).isSome && PySem.W.typeIn K (.ref S) == some (.type "type")) = true then PySem.W.subIn K (.ref D) (.ref S) else none) = some b
  rw [if_pos (by rw [c, t]; rfl), sub]
theorem kit_val {K : PySem.W.Frag} {D : Addr} (sub : PySem.W.subIn K (.ref D) (.type "ValueError") = some true) : PySem.W.kitOne K (.ref D) (.type "ValueError") = some true := by
  unfold PySem.W.kitOne
  rw [if_neg (by simp)]
  show (if PySem.W.kitMeta "ValueError" = true then PySem.W.subIn K (.ref D) (.type "ValueError") else none) = some true
  rw [if_pos (by decide +kernel), sub]
theorem exm_self {K : PySem.W.Frag} {D : Addr} (a : PySem.W.subIn K (.ref D) (.type "BaseException") = some true) (b : PySem.W.isClsIn K D = true) (c : PySem.W.typeIn K (.ref D) = some (.type "type")) (d : PySem.W.subIn K (.ref D) (.ref D) = some true) : PySem.W.exmOne K (.ref D) (.ref D) = some true := by
  have b2 : (PySem.W.clsIn K D).isSome = true := b
  show (if (PySem.W.subIn K (.ref D) (.type "BaseException") == some true) = true then _ else none) = some true
  rw [if_pos (by rw [a]; rfl)]
  show (if ((PySem.W.clsIn K D).isSome && PySem.W.typeIn K (.ref D) == some (.type "type")) = true then PySem.W.subIn K (.ref D) (.ref D) else none) = some true
  rw [if_pos (by rw [b2, c]; rfl), d]
theorem exm_cls {K : PySem.W.Frag} {D S : Addr} {b : Bool} (a : PySem.W.subIn K (.ref S) (.type "BaseException") = some true) (s1 : PySem.W.isClsIn K S = true) (c : PySem.W.typeIn K (.ref S) = some (.type "type")) (d : PySem.W.subIn K (.ref D) (.ref S) = some b) : PySem.W.exmOne K (.ref D) (.ref S) = some b := by
  have b2 : (PySem.W.clsIn K S).isSome = true := s1
  show (if (PySem.W.subIn K (.ref S) (.type "BaseException") == some true) = true then _ else none) = some b
  rw [if_pos (by rw [a]; rfl)]
  show (if ((PySem.W.clsIn K S).isSome && PySem.W.typeIn K (.ref S) == some (.type "type")) = true then PySem.W.subIn K (.ref D) (.ref S) else none) = some b
  rw [if_pos (by rw [b2, c]; rfl), d]
theorem kit_self {K : PySem.W.Frag} {C : Addr} : PySem.W.kitOne K (.ref C) (.ref C) = some true := by
  unfold PySem.W.kitOne
  rw [if_pos (beq_self_eq_true _)]
/-! ### what the top has left -/
theorem all_mk {l : PySem.W.OpenLaw} {w : World} {K : PySem.W.Frag} {h : Heap} {mg : Str → Option Value} {fa C fI fLi fCo fEv fGi fQe fLn fSx fHx fSr fRd pRd CR fRI fRc fIs fSo fBa fBl CI fEi fBag fTake fIi fIc fIz fPal fRow fSg fAl fSl fRi fGrid fSh fLaw : Addr} {restRd : List Value} {nmCI qnCI : Str} {nsCI : Addr} {bsCI bmCI sbCI : List Value} {snCI : List Str} {abCI : Bool} {coCI : Option Bool} {ddCI : Option Addr} {x0CI x1CI x2CI x3CI x5CI : Option Value} {cdtCI : ClassData} {cdtC : ClassData} (X : K.In h) (G : h.Ns mainGlobals mg) (hfa : mg "law" = some (.ref fa))
    {odI anI odLi anLi odCo anCo odEv anEv odGi anGi odQe anQe odLn anLn odSx anSx odHx anHx odSr anSr odRd anRd odRI anRI odRc anRc odIs anIs odSo anSo odBa anBa odBl anBl odEi anEi odBag anBag odTake anTake odIi anIi odIc anIc odIz anIz odPal anPal odRow anRow odSg anSg odAl anAl odSl anSl odRi anRi odGrid anGrid odSh anSh odLaw anLaw : Option Addr}
    {slI slLi slCo slEv slGi slQe slLn slSx slHx slSr slRd slRI slRc slIs slSo slBa slBl slEi slBag slTake slIi slIc slIz slPal slRow slSg slAl slSl slRi slGrid slSh slLaw : Array (Option Value)}
    {uHo uEd uHg uEg ocI kVI dcI pmI cdI ctI ocLi kVLi dcLi pmLi cdLi ctLi ocCo kVCo dcCo pmCo cdCo ctCo ocEv kVEv dcEv pmEv cdEv ctEv ocGi kVGi dcGi pmGi cdGi ctGi ocQe kVQe dcQe pmQe cdQe ctQe ocLn kVLn dcLn pmLn cdLn ctLn ocSx kVSx dcSx pmSx cdSx ctSx ocHx kVHx dcHx pmHx cdHx ctHx ocSr kVSr dcSr pmSr cdSr ctSr ocRd kVRd dcRd pmRd cdRd ctRd ocRI kVRI dcRI pmRI cdRI ctRI ocRc kVRc dcRc pmRc cdRc ctRc uSn uMo ocIs kVIs dcIs pmIs cdIs ctIs ocSo kVSo dcSo pmSo cdSo ctSo ocBa kVBa dcBa pmBa cdBa ctBa ocBl kVBl dcBl pmBl cdBl ctBl ocEi kVEi dcEi pmEi cdEi ctEi ocBag kVBag dcBag pmBag cdBag ctBag ocTake kVTake dcTake pmTake cdTake ctTake ocIi kVIi dcIi pmIi cdIi ctIi ocIc kVIc dcIc pmIc cdIc ctIc ocIz kVIz dcIz pmIz cdIz ctIz ocPal kVPal dcPal pmPal cdPal ctPal ocRow kVRow dcRow pmRow cdRow ctRow ocSg kVSg dcSg pmSg cdSg ctSg ocAl kVAl dcAl pmAl cdAl ctAl ocSl kVSl dcSl pmSl cdSl ctSl ocRi kVRi dcRi pmRi cdRi ctRi ocGrid kVGrid dcGrid pmGrid cdGrid ctGrid ocSh kVSh dcSh pmSh cdSh ctSh ocLaw kVLaw dcLaw pmLaw cdLaw ctLaw : Value}
    (cn : PySem.W.specialIn K (.builtin "object.__class__") "__get__" = some (some (.builtin "getset_descriptor.__get__")))
    (ct : PySem.W.takesIn K (.builtin "object.__class__") = some true)
    (gC : PySem.W.nsIn K mainGlobals "Picture" = some (some (.ref C)))
    (pgC : PySem.W.plainGet K C Str.empty = true)
    (hdC : PySem.W.hasDictIn K C = true)
    (poC : PySem.W.plainOver K C = true)
    (saC : PySem.W.findIn K (.ref C) "__setattr__" = some (some (.builtin "object.__setattr__")))
    (mkC : PySem.W.makesIn K C = true)
    (kpC : PySem.W.keepIn K (.ref C) = true)
    (nC_rows : PySem.W.findIn K (.ref C) "_rows" = some none)
    (nC_width : PySem.W.findIn K (.ref C) "width" = some none)
    (nC_height : PySem.W.findIn K (.ref C) "height" = some none)
    (rdC : PySem.W.readsIn K C (.type "type") = true)
    (gaC : PySem.W.specialIn K (.ref C) "__getattribute__" = some (some (.builtin "type.__getattribute__")))
    (aHo : PySem.W.findCls K (.ref C) (.type "type") "HOLE" = some (.val uHo))
    (rlHo : L2.RelV (.str ".") uHo)
    (aEd : PySem.W.findCls K (.ref C) (.type "type") "EDGE" = some (.val uEd))
    (rlEd : L2.RelV (.str "#") uEd)
    (aHg : PySem.W.findIn K (.ref C) "HOLE" = some (some uHg))
    (rlHg : L2.RelV (.str ".") uHg)
    (ggHg : PySem.W.specialIn K uHg "__get__" = some none)
    (aEg : PySem.W.findIn K (.ref C) "EDGE" = some (some uEg))
    (rlEg : L2.RelV (.str "#") uEg)
    (ggEg : PySem.W.specialIn K uEg "__get__" = some none)
    (caC : PySem.W.findIn K (.ref C) "__class__" = some (some (.builtin "object.__class__")))
    (cmC : PySem.W.mroIn K C (.type "object") = some true)
    (subC : PySem.W.subIn K (.ref C) (.type "object") = some true)
    (neqC : PySem.W.findIn K (.ref C) "__ne__" = some (some (.builtin "object.__ne__")))
    (sfC : PySem.W.selfFirst K C = true)
    (aI : PySem.W.findIn K (.ref C) "__init__" = some (some (.ref fI)))
    (iI : PySem.W.isFn K (.ref fI) = true)
    (lI : K.lookup fI = some ⟨ocI, odI, .func (PySem.W.fnOf "__init__" "Picture.__init__" (defArgs cPictureInit) (defBody cPictureInit) (defScope cPictureInit) .none kVI dcI pmI anI cdI ctI), slI⟩)
    (cI : PySem.W.codeIn K cdI "Picture.__init__" = true)
    (kI : PySem.W.keepIn K (.ref fI) = true)
    (aLi : PySem.W.findIn K (.ref C) "lines" = some (some (.ref fLi)))
    (iLi : PySem.W.isFn K (.ref fLi) = true)
    (lLi : K.lookup fLi = some ⟨ocLi, odLi, .func (PySem.W.fnOf "lines" "Picture.lines" (defArgs cPictureLines) (defBody cPictureLines) (defScope cPictureLines) .none kVLi dcLi pmLi anLi cdLi ctLi), slLi⟩)
    (cLi : PySem.W.codeIn K cdLi "Picture.lines" = true)
    (kLi : PySem.W.keepIn K (.ref fLi) = true)
    (aCo : PySem.W.findIn K (.ref C) "contains" = some (some (.ref fCo)))
    (iCo : PySem.W.isFn K (.ref fCo) = true)
    (lCo : K.lookup fCo = some ⟨ocCo, odCo, .func (PySem.W.fnOf "contains" "Picture.contains" (defArgs cPictureContains) (defBody cPictureContains) (defScope cPictureContains) .none kVCo dcCo pmCo anCo cdCo ctCo), slCo⟩)
    (cCo : PySem.W.codeIn K cdCo "Picture.contains" = true)
    (kCo : PySem.W.keepIn K (.ref fCo) = true)
    (aEv : PySem.W.findIn K (.ref C) "every_cell" = some (some (.ref fEv)))
    (iEv : PySem.W.isFn K (.ref fEv) = true)
    (lEv : K.lookup fEv = some ⟨ocEv, odEv, .func (PySem.W.fnOf "every_cell" "Picture.every_cell" (defArgs cPictureEveryCell) (defBody cPictureEveryCell) (defScope cPictureEveryCell) .none kVEv dcEv pmEv anEv cdEv ctEv), slEv⟩)
    (cEv : PySem.W.codeIn K cdEv "Picture.every_cell" = true)
    (kEv : PySem.W.keepIn K (.ref fEv) = true)
    (aGi : PySem.W.findIn K (.ref C) "__getitem__" = some (some (.ref fGi)))
    (iGi : PySem.W.isFn K (.ref fGi) = true)
    (lGi : K.lookup fGi = some ⟨ocGi, odGi, .func (PySem.W.fnOf "__getitem__" "Picture.__getitem__" (defArgs cPictureGetitem) (defBody cPictureGetitem) (defScope cPictureGetitem) .none kVGi dcGi pmGi anGi cdGi ctGi), slGi⟩)
    (cGi : PySem.W.codeIn K cdGi "Picture.__getitem__" = true)
    (kGi : PySem.W.keepIn K (.ref fGi) = true)
    (fiGi : PySem.W.fnIn K fGi = true)
    (aQe : PySem.W.findIn K (.ref C) "__eq__" = some (some (.ref fQe)))
    (iQe : PySem.W.isFn K (.ref fQe) = true)
    (lQe : K.lookup fQe = some ⟨ocQe, odQe, .func (PySem.W.fnOf "__eq__" "Picture.__eq__" (defArgs cPictureEq) (defBody cPictureEq) (defScope cPictureEq) .none kVQe dcQe pmQe anQe cdQe ctQe), slQe⟩)
    (cQe : PySem.W.codeIn K cdQe "Picture.__eq__" = true)
    (kQe : PySem.W.keepIn K (.ref fQe) = true)
    (aLn : PySem.W.findIn K (.ref C) "__len__" = some (some (.ref fLn)))
    (iLn : PySem.W.isFn K (.ref fLn) = true)
    (lLn : K.lookup fLn = some ⟨ocLn, odLn, .func (PySem.W.fnOf "__len__" "Picture.__len__" (defArgs cPictureLen) (defBody cPictureLen) (defScope cPictureLen) .none kVLn dcLn pmLn anLn cdLn ctLn), slLn⟩)
    (cLn : PySem.W.codeIn K cdLn "Picture.__len__" = true)
    (kLn : PySem.W.keepIn K (.ref fLn) = true)
    (aSx : PySem.W.findIn K (.ref C) "stones" = some (some (.ref fSx)))
    (iSx : PySem.W.isFn K (.ref fSx) = true)
    (lSx : K.lookup fSx = some ⟨ocSx, odSx, .func (PySem.W.fnOf "stones" "Picture.stones" (defArgs cPictureStones) (defBody cPictureStones) (defScope cPictureStones) .none kVSx dcSx pmSx anSx cdSx ctSx), slSx⟩)
    (cSx : PySem.W.codeIn K cdSx "Picture.stones" = true)
    (kSx : PySem.W.keepIn K (.ref fSx) = true)
    (aHx : PySem.W.findIn K (.ref C) "holes" = some (some (.ref fHx)))
    (iHx : PySem.W.isFn K (.ref fHx) = true)
    (lHx : K.lookup fHx = some ⟨ocHx, odHx, .func (PySem.W.fnOf "holes" "Picture.holes" (defArgs cPictureHoles) (defBody cPictureHoles) (defScope cPictureHoles) .none kVHx dcHx pmHx anHx cdHx ctHx), slHx⟩)
    (cHx : PySem.W.codeIn K cdHx "Picture.holes" = true)
    (kHx : PySem.W.keepIn K (.ref fHx) = true)
    (aSr : PySem.W.findIn K (.ref C) "__str__" = some (some (.ref fSr)))
    (iSr : PySem.W.isFn K (.ref fSr) = true)
    (lSr : K.lookup fSr = some ⟨ocSr, odSr, .func (PySem.W.fnOf "__str__" "Picture.__str__" (defArgs cPictureStr) (defBody cPictureStr) (defScope cPictureStr) .none kVSr dcSr pmSr anSr cdSr ctSr), slSr⟩)
    (cSr : PySem.W.codeIn K cdSr "Picture.__str__" = true)
    (kSr : PySem.W.keepIn K (.ref fSr) = true)
    (aRd : PySem.W.findCls K (.ref C) (.type "type") "read" = some (.get (.builtin "classmethod.__get__") (.ref pRd) .none (.ref C)))
    (rRd : PySem.W.recIn K pRd "classmethod" = some (.ref fRd :: restRd))
    (iRd : PySem.W.fnIn K fRd = true)
    (lRd : K.lookup fRd = some ⟨ocRd, odRd, .func (PySem.W.fnOf "read" "Picture.read" (defArgs cPictureRead) (defBody cPictureRead) (defScope cPictureRead) .none kVRd dcRd pmRd anRd cdRd ctRd), slRd⟩)
    (cRd : PySem.W.codeIn K cdRd "Picture.read" = true)
    (kRd : PySem.W.keepIn K (.ref fRd) = true)
    (gCR : PySem.W.nsIn K mainGlobals "Region" = some (some (.ref CR)))
    (pgCR : PySem.W.plainGet K CR Str.empty = true)
    (hdCR : PySem.W.hasDictIn K CR = true)
    (poCR : PySem.W.plainOver K CR = true)
    (saCR : PySem.W.findIn K (.ref CR) "__setattr__" = some (some (.builtin "object.__setattr__")))
    (mkCR : PySem.W.makesIn K CR = true)
    (kpCR : PySem.W.keepIn K (.ref CR) = true)
    (nCR_members : PySem.W.findIn K (.ref CR) "_members" = some none)
    (caCR : PySem.W.findIn K (.ref CR) "__class__" = some (some (.builtin "object.__class__")))
    (cmCR : PySem.W.mroIn K CR (.type "object") = some true)
    (aRI : PySem.W.findIn K (.ref CR) "__init__" = some (some (.ref fRI)))
    (iRI : PySem.W.isFn K (.ref fRI) = true)
    (lRI : K.lookup fRI = some ⟨ocRI, odRI, .func (PySem.W.fnOf "__init__" "Region.__init__" (defArgs cRegionInit) (defBody cRegionInit) (defScope cRegionInit) .none kVRI dcRI pmRI anRI cdRI ctRI), slRI⟩)
    (cRI : PySem.W.codeIn K cdRI "Region.__init__" = true)
    (kRI : PySem.W.keepIn K (.ref fRI) = true)
    (aRc : PySem.W.findIn K (.ref CR) "cells" = some (some (.ref fRc)))
    (iRc : PySem.W.isFn K (.ref fRc) = true)
    (lRc : K.lookup fRc = some ⟨ocRc, odRc, .func (PySem.W.fnOf "cells" "Region.cells" (defArgs cRegionCells) (defBody cRegionCells) (defScope cRegionCells) .none kVRc dcRc pmRc anRc cdRc ctRc), slRc⟩)
    (cRc : PySem.W.codeIn K cdRc "Region.cells" = true)
    (kRc : PySem.W.keepIn K (.ref fRc) = true)
    (aSn : PySem.W.nsIn K mainGlobals "STONES" = some (some uSn))
    (rlSn : L2.RelV (.str alphaS) uSn)
    (aMo : PySem.W.nsIn K mainGlobals "MOST" = some (some uMo))
    (rlMo : L2.RelV (.int 8) uMo)
    (aIs : PySem.W.nsIn K mainGlobals "is_stone" = some (some (.ref fIs)))
    (lIs : K.lookup fIs = some ⟨ocIs, odIs, .func (PySem.W.fnOf "is_stone" "is_stone" (defArgs gIsStone) (defBody gIsStone) (defScope gIsStone) .none kVIs dcIs pmIs anIs cdIs ctIs), slIs⟩)
    (cIs : PySem.W.codeIn K cdIs "is_stone" = true)
    (kIs : PySem.W.keepIn K (.ref fIs) = true)
    (aSo : PySem.W.nsIn K mainGlobals "is_stone_or_hole" = some (some (.ref fSo)))
    (lSo : K.lookup fSo = some ⟨ocSo, odSo, .func (PySem.W.fnOf "is_stone_or_hole" "is_stone_or_hole" (defArgs gIsStoneOrHole) (defBody gIsStoneOrHole) (defScope gIsStoneOrHole) .none kVSo dcSo pmSo anSo cdSo ctSo), slSo⟩)
    (cSo : PySem.W.codeIn K cdSo "is_stone_or_hole" = true)
    (kSo : PySem.W.keepIn K (.ref fSo) = true)
    (aBa : PySem.W.nsIn K mainGlobals "_is_bad_row" = some (some (.ref fBa)))
    (lBa : K.lookup fBa = some ⟨ocBa, odBa, .func (PySem.W.fnOf "_is_bad_row" "_is_bad_row" (defArgs gIsBadRow) (defBody gIsBadRow) (defScope gIsBadRow) .none kVBa dcBa pmBa anBa cdBa ctBa), slBa⟩)
    (cBa : PySem.W.codeIn K cdBa "_is_bad_row" = true)
    (kBa : PySem.W.keepIn K (.ref fBa) = true)
    (aBl : PySem.W.nsIn K mainGlobals "_bad_line" = some (some (.ref fBl)))
    (lBl : K.lookup fBl = some ⟨ocBl, odBl, .func (PySem.W.fnOf "_bad_line" "_bad_line" (defArgs gBadLine) (defBody gBadLine) (defScope gBadLine) .none kVBl dcBl pmBl anBl cdBl ctBl), slBl⟩)
    (cBl : PySem.W.codeIn K cdBl "_bad_line" = true)
    (kBl : PySem.W.keepIn K (.ref fBl) = true)
    (gCI : PySem.W.nsIn K mainGlobals "InvalidPicture" = some (some (.ref CI)))
    (lkCI : K.lookup CI = some (excClassObj nmCI qnCI CI nsCI bsCI bmCI true snCI sbCI abCI coCI ddCI x0CI x1CI x2CI x3CI x5CI "ValueError.__new__"))
    (vbCI : PySem.HandSPX.refsVE bmCI = true)
    (atCI : PySem.W.findIn K (.ref CI) "__init__" = some (some (.ref fEi)))
    (ftCI : PySem.W.typeIn K (.ref fEi) = some (.type "function"))
    (lEi : K.lookup fEi = some ⟨ocEi, odEi, .func (PySem.W.fnOf "__init__" "InvalidPicture.__init__" (defArgs cInvalidPictureInit) (defBody cInvalidPictureInit) (defScope cInvalidPictureInit) .none kVEi dcEi pmEi anEi cdEi ctEi), slEi⟩)
    (cEi : PySem.W.codeIn K cdEi "InvalidPicture.__init__" = true)
    (kEi : PySem.W.keepIn K (.ref fEi) = true)
    (cxCI : PySem.W.clsIn K CI = some cdtCI)
    (tyCI : PySem.W.typeIn K (.ref CI) = some (.type "type"))
    (hgCI : PySem.W.findIn K (.ref CI) "__getattribute__" = some (some (.builtin "BaseException.__getattribute__")))
    (hkCI : PySem.W.findIn K (.ref CI) "__getattr__" = some none)
    (svCI : PySem.W.subIn K (.ref CI) (.type "BaseException") = some true)
    (sxCI : PySem.W.subIn K (.ref CI) (.ref CI) = some true)
    (icCI : PySem.W.isClsIn K CI = true)
    (haCI : PySem.W.findIn K (.ref CI) "__class__" = some (some (.builtin "object.__class__")))
    (hmCI : PySem.W.mroIn K CI (.type "object") = some true)
    (hdCI : PySem.W.hasDictIn K CI = true)
    (kpCI : PySem.W.keepIn K (.ref CI) = true)
    (nCI_line : PySem.W.findIn K (.ref CI) "line" = some none)
    (saCI : PySem.W.findIn K (.ref CI) "__setattr__" = some (some (.builtin "object.__setattr__")))
    (cxC : PySem.W.clsIn K C = some cdtC)
    (tyC : PySem.W.typeIn K (.ref C) = some (.type "type"))
    (icC : PySem.W.isClsIn K C = true)
    (sStr : PySem.W.subIn K (.type "str") (.ref C) = some false)
    (sLst : PySem.W.subIn K (.type "list") (.ref C) = some false)
    (sbCRC : PySem.W.subIn K (.ref CR) (.ref C) = some false)
    (neCRC : (CR == C) = false)
    (aBag : PySem.W.nsIn K mainGlobals "_law_bag" = some (some (.ref fBag)))
    (lBag : K.lookup fBag = some ⟨ocBag, odBag, .func (PySem.W.fnOf "_law_bag" "_law_bag" (defArgs lBag) (defBody lBag) (defScope lBag) .none kVBag dcBag pmBag anBag cdBag ctBag), slBag⟩)
    (cBag : PySem.W.codeIn K cdBag "_law_bag" = true)
    (kBag : PySem.W.keepIn K (.ref fBag) = true)
    (aTake : PySem.W.nsIn K mainGlobals "_law_take" = some (some (.ref fTake)))
    (lTake : K.lookup fTake = some ⟨ocTake, odTake, .func (PySem.W.fnOf "_law_take" "_law_take" (defArgs lTake) (defBody lTake) (defScope lTake) .none kVTake dcTake pmTake anTake cdTake ctTake), slTake⟩)
    (cTake : PySem.W.codeIn K cdTake "_law_take" = true)
    (kTake : PySem.W.keepIn K (.ref fTake) = true)
    (aIi : PySem.W.nsIn K mainGlobals "_law_is_int" = some (some (.ref fIi)))
    (lIi : K.lookup fIi = some ⟨ocIi, odIi, .func (PySem.W.fnOf "_law_is_int" "_law_is_int" (defArgs lIsInt) (defBody lIsInt) (defScope lIsInt) .none kVIi dcIi pmIi anIi cdIi ctIi), slIi⟩)
    (cIi : PySem.W.codeIn K cdIi "_law_is_int" = true)
    (kIi : PySem.W.keepIn K (.ref fIi) = true)
    (aIc : PySem.W.nsIn K mainGlobals "_law_is_cell" = some (some (.ref fIc)))
    (lIc : K.lookup fIc = some ⟨ocIc, odIc, .func (PySem.W.fnOf "_law_is_cell" "_law_is_cell" (defArgs lIsCell) (defBody lIsCell) (defScope lIsCell) .none kVIc dcIc pmIc anIc cdIc ctIc), slIc⟩)
    (cIc : PySem.W.codeIn K cdIc "_law_is_cell" = true)
    (kIc : PySem.W.keepIn K (.ref fIc) = true)
    (aIz : PySem.W.nsIn K mainGlobals "_law_is_cells" = some (some (.ref fIz)))
    (lIz : K.lookup fIz = some ⟨ocIz, odIz, .func (PySem.W.fnOf "_law_is_cells" "_law_is_cells" (defArgs lIsCells) (defBody lIsCells) (defScope lIsCells) .none kVIz dcIz pmIz anIz cdIz ctIz), slIz⟩)
    (cIz : PySem.W.codeIn K cdIz "_law_is_cells" = true)
    (kIz : PySem.W.keepIn K (.ref fIz) = true)
    (aPal : PySem.W.nsIn K mainGlobals "_law_palette" = some (some (.ref fPal)))
    (lPal : K.lookup fPal = some ⟨ocPal, odPal, .func (PySem.W.fnOf "_law_palette" "_law_palette" (defArgs lPalette) (defBody lPalette) (defScope lPalette) .none kVPal dcPal pmPal anPal cdPal ctPal), slPal⟩)
    (cPal : PySem.W.codeIn K cdPal "_law_palette" = true)
    (kPal : PySem.W.keepIn K (.ref fPal) = true)
    (aRow : PySem.W.nsIn K mainGlobals "_law_row" = some (some (.ref fRow)))
    (lRow : K.lookup fRow = some ⟨ocRow, odRow, .func (PySem.W.fnOf "_law_row" "_law_row" (defArgs lRow) (defBody lRow) (defScope lRow) .none kVRow dcRow pmRow anRow cdRow ctRow), slRow⟩)
    (cRow : PySem.W.codeIn K cdRow "_law_row" = true)
    (kRow : PySem.W.keepIn K (.ref fRow) = true)
    (aSg : PySem.W.nsIn K mainGlobals "_law_sign" = some (some (.ref fSg)))
    (lSg : K.lookup fSg = some ⟨ocSg, odSg, .func (PySem.W.fnOf "_law_sign" "_law_sign" (defArgs lSign) (defBody lSign) (defScope lSign) .none kVSg dcSg pmSg anSg cdSg ctSg), slSg⟩)
    (cSg : PySem.W.codeIn K cdSg "_law_sign" = true)
    (kSg : PySem.W.keepIn K (.ref fSg) = true)
    (aAl : PySem.W.nsIn K mainGlobals "_law_cells" = some (some (.ref fAl)))
    (lAl : K.lookup fAl = some ⟨ocAl, odAl, .func (PySem.W.fnOf "_law_cells" "_law_cells" (defArgs lCells) (defBody lCells) (defScope lCells) .none kVAl dcAl pmAl anAl cdAl ctAl), slAl⟩)
    (cAl : PySem.W.codeIn K cdAl "_law_cells" = true)
    (kAl : PySem.W.keepIn K (.ref fAl) = true)
    (aSl : PySem.W.nsIn K mainGlobals "_law_stones" = some (some (.ref fSl)))
    (lSl : K.lookup fSl = some ⟨ocSl, odSl, .func (PySem.W.fnOf "_law_stones" "_law_stones" (defArgs lStones) (defBody lStones) (defScope lStones) .none kVSl dcSl pmSl anSl cdSl ctSl), slSl⟩)
    (cSl : PySem.W.codeIn K cdSl "_law_stones" = true)
    (kSl : PySem.W.keepIn K (.ref fSl) = true)
    (aRi : PySem.W.nsIn K mainGlobals "_law_region_is" = some (some (.ref fRi)))
    (lRi : K.lookup fRi = some ⟨ocRi, odRi, .func (PySem.W.fnOf "_law_region_is" "_law_region_is" (defArgs lRegionIs) (defBody lRegionIs) (defScope lRegionIs) .none kVRi dcRi pmRi anRi cdRi ctRi), slRi⟩)
    (cRi : PySem.W.codeIn K cdRi "_law_region_is" = true)
    (kRi : PySem.W.keepIn K (.ref fRi) = true)
    (aGrid : PySem.W.nsIn K mainGlobals "_law_big_grid" = some (some (.ref fGrid)))
    (lGrid : K.lookup fGrid = some ⟨ocGrid, odGrid, .func (PySem.W.fnOf "_law_big_grid" "_law_big_grid" (defArgs lBigGrid) (defBody lBigGrid) (defScope lBigGrid) .none kVGrid dcGrid pmGrid anGrid cdGrid ctGrid), slGrid⟩)
    (cGrid : PySem.W.codeIn K cdGrid "_law_big_grid" = true)
    (kGrid : PySem.W.keepIn K (.ref fGrid) = true)
    (aSh : PySem.W.nsIn K mainGlobals "_law_shows" = some (some (.ref fSh)))
    (lSh : K.lookup fSh = some ⟨ocSh, odSh, .func (PySem.W.fnOf "_law_shows" "_law_shows" (defArgs lShows) (defBody lShows) (defScope lShows) .none kVSh dcSh pmSh anSh cdSh ctSh), slSh⟩)
    (cSh : PySem.W.codeIn K cdSh "_law_shows" = true)
    (kSh : PySem.W.keepIn K (.ref fSh) = true)
    (aLaw : PySem.W.nsIn K mainGlobals "law" = some (some (.ref fLaw)))
    (lLaw : K.lookup fLaw = some ⟨ocLaw, odLaw, .func (PySem.W.fnOf "law" "law" (defArgs lLaw) (defBody lLaw) (defScope lLaw) .none kVLaw dcLaw pmLaw anLaw cdLaw ctLaw), slLaw⟩)
    (cLaw : PySem.W.codeIn K cdLaw "law" = true)
    (kLaw : PySem.W.keepIn K (.ref fLaw) = true)
    (zisinstance : PySem.W.nsIn K mainGlobals "isinstance" = some none)
    (zint : PySem.W.nsIn K mainGlobals "int" = some none)
    (zbool : PySem.W.nsIn K mainGlobals "bool" = some none)
    (ztuple : PySem.W.nsIn K mainGlobals "tuple" = some none)
    (zlist : PySem.W.nsIn K mainGlobals "list" = some none)
    (zlen : PySem.W.nsIn K mainGlobals "len" = some none)
    (zrange : PySem.W.nsIn K mainGlobals "range" = some none)
    (zall : PySem.W.nsIn K mainGlobals "all" = some none)
    (zenumerate : PySem.W.nsIn K mainGlobals "enumerate" = some none)
    (zsorted : PySem.W.nsIn K mainGlobals "sorted" = some none)
    (zstr : PySem.W.nsIn K mainGlobals "str" = some none) :
    ∃ fd : FuncData, (∀ (s : Shared) (v : Value), BindsTo s fd ⟨[v], []⟩ [("_law_script", v)]) ∧ ∀ base : Heap, K.In base → base.Ns mainGlobals mg → FnOk l.prog w K mg base CX0 9 fa fd ["_law_script"] (spLaw K) := by
  have e := hfa.symm.trans (PySem.W.mg_of X G aLaw)
  cases e
  have g : ∀ {x : Str} {u : Value}, PySem.W.nsIn K mainGlobals x = some (some u) → mg x = some u := fun z => PySem.W.mg_of X G z
  have n : ∀ {x : Str}, PySem.W.nsIn K mainGlobals x = some none → mg x = none := fun z => PySem.W.mg_none_of X G z
  have clC : L2.Cls K C := ⟨pgC, hdC, poC, saC⟩
  have FI := fun_mk (st := Pm.cPictureInit) lI cI kI
  have bI := FI.binds (ps := ["self", "rows"]) fun _ _ _ _ _ _ us hl => match us, hl with | [_, _], _ => rfl
  have FLi := fun_mk (st := Pm.cPictureLines) lLi cLi kLi
  have bLi := FLi.binds (ps := ["self"]) fun _ _ _ _ _ _ us hl => match us, hl with | [_], _ => rfl
  have FCo := fun_mk (st := Pm.cPictureContains) lCo cCo kCo
  have bCo := FCo.binds (ps := ["self", "x", "y"]) fun _ _ _ _ _ _ us hl => match us, hl with | [_, _, _], _ => rfl
  have FEv := fun_mk (st := Pm.cPictureEveryCell) lEv cEv kEv
  have bEv := FEv.binds (ps := ["self"]) fun _ _ _ _ _ _ us hl => match us, hl with | [_], _ => rfl
  have FGi := fun_mk (st := Pm.cPictureGetitem) lGi cGi kGi
  have bGi := FGi.binds (ps := ["self", "at"]) fun _ _ _ _ _ _ us hl => match us, hl with | [_, _], _ => rfl
  have FQe := fun_mk (st := Pm.cPictureEq) lQe cQe kQe
  have bQe := FQe.binds (ps := ["self", "other"]) fun _ _ _ _ _ _ us hl => match us, hl with | [_, _], _ => rfl
  have FLn := fun_mk (st := Pm.cPictureLen) lLn cLn kLn
  have bLn := FLn.binds (ps := ["self"]) fun _ _ _ _ _ _ us hl => match us, hl with | [_], _ => rfl
  have FSx := fun_mk (st := Pm.cPictureStones) lSx cSx kSx
  have bSx := FSx.binds (ps := ["self"]) fun _ _ _ _ _ _ us hl => match us, hl with | [_], _ => rfl
  have FHx := fun_mk (st := Pm.cPictureHoles) lHx cHx kHx
  have bHx := FHx.binds (ps := ["self"]) fun _ _ _ _ _ _ us hl => match us, hl with | [_], _ => rfl
  have FSr := fun_mk (st := Pm.cPictureStr) lSr cSr kSr
  have bSr := FSr.binds (ps := ["self"]) fun _ _ _ _ _ _ us hl => match us, hl with | [_], _ => rfl
  have FRd := fun_mk (st := Pm.cPictureRead) lRd cRd kRd
  have bRd := FRd.binds (ps := ["cls", "text"]) fun _ _ _ _ _ _ us hl => match us, hl with | [_, _], _ => rfl
  have MRd : ClX.CMet K C (.type "type") "read" pRd fRd := ⟨aRd, ⟨_, rRd⟩, iRd⟩
  have clCR : L2.Cls K CR := ⟨pgCR, hdCR, poCR, saCR⟩
  have FRI := fun_mk (st := Pm.cRegionInit) lRI cRI kRI
  have bRI := FRI.binds (ps := ["self", "cells"]) fun _ _ _ _ _ _ us hl => match us, hl with | [_, _], _ => rfl
  have FRc := fun_mk (st := Pm.cRegionCells) lRc cRc kRc
  have bRc := FRc.binds (ps := ["self"]) fun _ _ _ _ _ _ us hl => match us, hl with | [_], _ => rfl
  have FIs := fun_mk (st := Pm.gIsStone) lIs cIs kIs
  have bIs := FIs.binds (ps := ["sign"]) fun _ _ _ _ _ _ us hl => match us, hl with | [_], _ => rfl
  have FSo := fun_mk (st := Pm.gIsStoneOrHole) lSo cSo kSo
  have bSo := FSo.binds (ps := ["sign"]) fun _ _ _ _ _ _ us hl => match us, hl with | [_], _ => rfl
  have FBa := fun_mk (st := Pm.gIsBadRow) lBa cBa kBa
  have bBa := FBa.binds (ps := ["row", "width"]) fun _ _ _ _ _ _ us hl => match us, hl with | [_, _], _ => rfl
  have FBl := fun_mk (st := Pm.gBadLine) lBl cBl kBl
  have bBl := FBl.binds (ps := ["rows"]) fun _ _ _ _ _ _ us hl => match us, hl with | [_], _ => rfl
  have FEi := fun_mk (st := Pm.cInvalidPictureInit) lEi cEi kEi
  have bEi := FEi.binds (ps := ["self", "line"]) fun _ _ _ _ _ _ us hl => match us, hl with | [_, _], _ => rfl
  have erCI : ErrC K CI := ⟨by rw [cxCI]; rfl, hgCI, hkCI, svCI, haCI, cn, ct, hmCI, hdCI⟩
  have teCI : PySem.W.exmOne K (.ref CI) (.ref CI) = some true := exm_self svCI icCI tyCI sxCI
  have oxCI : OexC K CI := ⟨⟨nmCI, qnCI, nsCI, bsCI, bmCI, snCI, sbCI, abCI, coCI, ddCI, x0CI, x1CI, x2CI, x3CI, x5CI, lkCI, vbCI⟩, saCI, svCI, tyCI, kpCI⟩
  have kitCRC : PySem.W.kitOne K (.ref CR) (.ref C) = some false := kit_cls neCRC cxC tyC sbCRC
  have FBag := fun_mk (st := Pm.lBag) lBag cBag kBag
  have bBag := FBag.binds (ps := ["_law_script"]) fun _ _ _ _ _ _ us hl => match us, hl with | [_], _ => rfl
  have FTake := fun_mk (st := Pm.lTake) lTake cTake kTake
  have bTake := FTake.binds (ps := ["_law_bag_here", "_law_size"]) fun _ _ _ _ _ _ us hl => match us, hl with | [_, _], _ => rfl
  have FIi := fun_mk (st := Pm.lIsInt) lIi cIi kIi
  have bIi := FIi.binds (ps := ["_law_value"]) fun _ _ _ _ _ _ us hl => match us, hl with | [_], _ => rfl
  have FIc := fun_mk (st := Pm.lIsCell) lIc cIc kIc
  have bIc := FIc.binds (ps := ["_law_value"]) fun _ _ _ _ _ _ us hl => match us, hl with | [_], _ => rfl
  have FIz := fun_mk (st := Pm.lIsCells) lIz cIz kIz
  have bIz := FIz.binds (ps := ["_law_value"]) fun _ _ _ _ _ _ us hl => match us, hl with | [_], _ => rfl
  have FPal := fun_mk (st := Pm.lPalette) lPal cPal kPal
  have bPal := FPal.binds (ps := ["_law_bag_here"]) fun _ _ _ _ _ _ us hl => match us, hl with | [_], _ => rfl
  have FRow := fun_mk (st := Pm.lRow) lRow cRow kRow
  have bRow := FRow.binds (ps := ["_law_bag_here", "_law_palette_here", "_law_wide"]) fun _ _ _ _ _ _ us hl => match us, hl with | [_, _, _], _ => rfl
  have FSg := fun_mk (st := Pm.lSign) lSg cSg kSg
  have bSg := FSg.binds (ps := ["_law_rows", "_law_cx", "_law_cy"]) fun _ _ _ _ _ _ us hl => match us, hl with | [_, _, _], _ => rfl
  have FAl := fun_mk (st := Pm.lCells) lAl cAl kAl
  have bAl := FAl.binds (ps := ["_law_rows"]) fun _ _ _ _ _ _ us hl => match us, hl with | [_], _ => rfl
  have FSl := fun_mk (st := Pm.lStones) lSl cSl kSl
  have bSl := FSl.binds (ps := ["_law_rows"]) fun _ _ _ _ _ _ us hl => match us, hl with | [_], _ => rfl
  have FRi := fun_mk (st := Pm.lRegionIs) lRi cRi kRi
  have bRi := FRi.binds (ps := ["_law_region", "_law_due"]) fun _ _ _ _ _ _ us hl => match us, hl with | [_, _], _ => rfl
  have FGrid := fun_mk (st := Pm.lBigGrid) lGrid cGrid kGrid
  have bGrid := FGrid.binds (ps := ["_law_bag_here", "_law_palette_here"]) fun _ _ _ _ _ _ us hl => match us, hl with | [_, _], _ => rfl
  have FSh := fun_mk (st := Pm.lShows) lSh cSh kSh
  have bSh := FSh.binds (ps := ["_law_picture", "_law_rows"]) fun _ _ _ _ _ _ us hl => match us, hl with | [_, _], _ => rfl
  have FLaw := fun_mk (st := Pm.lLaw) lLaw cLaw kLaw
  refine ⟨PySem.W.fnOf "law" "law" (defArgs Pm.lLaw) (defBody Pm.lLaw) (defScope Pm.lLaw) .none kVLaw dcLaw pmLaw anLaw cdLaw ctLaw, fun s v => .of_eq rfl, fun base _ _ => ?_⟩
  have L : LTxt K mg := ⟨n zisinstance, n zint, n zlist, n zlen, n zrange⟩
  have B : BTxt K mg := ⟨n zisinstance, n zbool, n ztuple, n zint, n zlist, n zlen⟩
  have T : PTxt K mg C := ⟨g gC, ⟨_, ⟨rdC, gaC⟩, ⟨_, aHo, rlHo⟩, ⟨_, aEd, rlEd⟩⟩, ⟨_, g aSn, rlSn⟩, ⟨_, g aMo, rlMo⟩, n zall, n zenumerate⟩
  have TC : PCls K C := ⟨clC, nC_rows, nC_width, nC_height⟩
  have Y : PKit K mg C := ⟨g gC, caC, cn, ct, cmC, kit_self⟩
  have TR : RCTxt K mg CR := ⟨⟨clCR, nCR_members, g gCR, n zsorted, n zlist⟩, n zisinstance, caCR, cn, ct, cmCR, kit_self⟩
  have M : Mk K C fI := ⟨mkC, aI, iI, kpC⟩
  have MR : Mk K CR fRI := ⟨mkCR, aRI, iRI, kpCR⟩
  have cIs : Cl l.prog w K mg base CX0 1 "is_stone" ["sign"] spStone fIs _ := ⟨ok_stone FIs L T, kIs, bIs, g aIs⟩
  have cSo : Cl l.prog w K mg base CX0 2 "is_stone_or_hole" ["sign"] spSoh fSo _ := ⟨ok_soh FSo cIs T, kSo, bSo, g aSo⟩
  have cBa : Cl l.prog w K mg base CX0 3 "_is_bad_row" ["row", "width"] spBad fBa _ := ⟨ok_bad FBa cSo L T, kBa, bBa, g aBa⟩
  have cBl : Cl l.prog w K mg base CX0 4 "_bad_line" ["rows"] spLine fBl _ := ⟨ok_line FBl cBa L T, kBl, bBl, g aBl⟩
  have xI : EMk l.prog w K mg base CI "InvalidPicture" ["self", "line"] (spE1 CI "line") fEi _ := ⟨oxCI, atCI, ftCI, okEInvalidPicture FEi oxCI nCI_line, bEi, g gCI⟩
  have OI := ok_init FI cBl xI L TC
  have OIN := ok_initN FI cBl xI L TC
  have OD := ok_read FRd OI M bI
  have OL := ok_lines (P := l.prog) (w := w) (mg := mg) (base := base) FLi L TC
  have OC := ok_contains (P := l.prog) (w := w) (mg := mg) (base := base) FCo TC
  have OE := ok_every (P := l.prog) (w := w) (mg := mg) (base := base) FEv L TC
  have OG := ok_item FGi TC OC ⟨aCo, iCo, kCo⟩ bCo ⟨aEg, rlEg, ggEg, by decide⟩
  have OR := ok_rinit (P := l.prog) (w := w) (mg := mg) (base := base) FRI TR.t
  have ORc := ok_rcells (P := l.prog) (w := w) (mg := mg) (base := base) FRc TR
  have cH : Con K C "HOLE" (.str ".") uHg := ⟨aHg, rlHg, ggHg, by decide⟩
  have OT := ok_stones FSx TC OE ⟨aEv, iEv, kEv⟩ bEv OG ⟨aGi, iGi⟩ fiGi bGi cH OR MR bRI (g gCR)
  have OH := ok_holes FHx TC OE ⟨aEv, iEv, kEv⟩ bEv OG ⟨aGi, iGi⟩ fiGi bGi cH OR MR bRI (g gCR)
  have ON := ok_lenp (P := l.prog) (w := w) (base := base) FLn L TC cH
  have OS := ok_str (P := l.prog) (w := w) (mg := mg) (base := base) FSr TC
  have OQ := ok_peq (P := l.prog) (w := w) (base := base) FQe L TC Y
  have OO := ok_peqO (P := l.prog) (w := w) (base := base) FQe L TC Y
  have cTake : Cl l.prog w K mg base CX0 1 "_law_take" tkNames spTake fTake _ := ⟨ok_take FTake L.len L.int, kTake, bTake, g aTake⟩
  have cRow : Cl l.prog w K mg base CX0 2 "_law_row" ["_law_bag_here", "_law_palette_here", "_law_wide"] spRow fRow _ := ⟨ok_row FRow cTake L, kRow, bRow, g aRow⟩
  have OIc := ok_iscell FIc FIi bIi (g aIi) (P := l.prog) (w := w) (base := base) B
  have OIz := ok_iscells FIz FIc OIc bIc (g aIc) B
  have ORi := ok_regis FRi OIz kIz bIz (g aIz) ORc ⟨aRc, iRc, kRc⟩ bRc TR
  have cAl : Cl l.prog w K mg base CX0 1 "_law_cells" ["_law_rows"] spCellsOf fAl _ := ⟨ok_cellsof FAl L, kAl, bAl, g aAl⟩
  have OSh := ok_shows FSh L B (n zstr) TC OL ⟨aLi, iLi, kLi⟩ bLi OS ⟨aSr, iSr⟩ bSr ON ⟨aLn, iLn⟩ bLn OH ⟨aHx, iHx, kHx⟩ bHx OT ⟨aSx, iSx, kSx⟩ bSx OC ⟨aCo, iCo, kCo⟩ bCo OG ⟨aGi, iGi⟩ fiGi bGi cAl ⟨ok_sign FSg L, kSg, bSg, g aSg⟩ ⟨ok_stonesl FSl cAl, kSl, bSl, g aSl⟩ ⟨ORi, kRi, bRi, g aRi⟩
  exact ok_law FLaw L (n zstr) TC Y ⟨⟨rdC, gaC⟩, MRd, ⟨aHo, rlHo⟩, ⟨aEd, rlEd⟩⟩ ⟨ok_bag FBag L, kBag, bBag, g aBag⟩ ⟨ok_pal FPal cTake L, kPal, bPal, g aPal⟩ ⟨ok_grid FGrid cTake cRow L, kGrid, bGrid, g aGrid⟩ OIN M bI OD bRd OQ OO ⟨aQe, iQe⟩ bQe ⟨icC, tyC, sStr⟩ ⟨icC, tyC, sLst⟩ TR kitCRC sbCRC OS ⟨aSr, iSr⟩ bSr OT ⟨aSx, iSx, kSx⟩ bSx ⟨OSh, kSh, bSh, g aSh⟩
theorem walk {l : PySem.W.OpenLaw} {q : Program} {loose : List Str} {XP : (Str → Option Value) → Heap → Prop} {YP : World → Heap → Prop} {d : DefRec} {K : Params → PySem.W.Frag} (hn : l.most = some 63) (hdf : d.params.defaults = [])
    (hY : ∀ (w : World) (h : Heap), YP w h → (K w.params).In h)
    (F : ∀ (w : World) (mg : Str → Option Value) (fa : Addr) (h : Heap), (K w.params).In h → h.Ns mainGlobals mg → mg d.name = some (.ref fa) →
      ∃ fd : FuncData, (∀ (s : Shared) (u : Value), BindsTo s fd ⟨[u], []⟩ [("_law_script", u)]) ∧ ∀ base : Heap, (K w.params).In base → base.Ns mainGlobals mg → FnOk l.prog w (K w.params) mg base CX0 9 fa fd ["_law_script"] (spLaw (K w.params))) :
    PySem.W.WalkO q loose XP YP l.row.toRowW d [] (fun f vs => PySem.call f vs) :=
  L2.walk_of (n := 63) (k := 9) (x := "_law_script") (CX := fun _ => CX0) (sp := fun w => spLaw (K w.params)) hn (by decide) hdf ⟨rfl, by decide, by decide⟩ hY F (fun _ _ a ns hl _ hS => ⟨a, ns, rfl, hS, hl, fun _ => rfl⟩) fun _ _ _ _ _ z => z
end Pm

open PySem PySem.W PyProof.Rows in
set_option maxRecDepth 100000 in
set_option maxHeartbeats 0 in
theorem PySem.Challenge.cw_smalti_k04_picture_signs_holds : PySem.Challenge.rw_smalti_k04_picture_signs.Holds := by
  w_on; o_law; k_head; (case hw => w_witness2)
  k_fill
  refine Pm.walk (l := PySem.Challenge.rw_smalti_k04_picture_signs) rfl rfl (fun w h Y => PySem.W.kIn_of Y) ?F
  case F =>
    intro w mg fa h KX G hmg
    refine' Pm.all_mk KX G hmg ?cn ?ct ?gC ?pgC ?hdC ?poC ?saC ?mkC ?kpC ?nC_rows ?nC_width ?nC_height ?rdC ?gaC ?aHo ?rlHo ?aEd ?rlEd ?aHg ?rlHg ?ggHg ?aEg ?rlEg ?ggEg ?caC ?cmC ?subC ?neqC ?sfC ?aI ?iI ?lI ?cI ?kI ?aLi ?iLi ?lLi ?cLi ?kLi ?aCo ?iCo ?lCo ?cCo ?kCo ?aEv ?iEv ?lEv ?cEv ?kEv ?aGi ?iGi ?lGi ?cGi ?kGi ?fiGi ?aQe ?iQe ?lQe ?cQe ?kQe ?aLn ?iLn ?lLn ?cLn ?kLn ?aSx ?iSx ?lSx ?cSx ?kSx ?aHx ?iHx ?lHx ?cHx ?kHx ?aSr ?iSr ?lSr ?cSr ?kSr ?aRd ?rRd ?iRd ?lRd ?cRd ?kRd ?gCR ?pgCR ?hdCR ?poCR ?saCR ?mkCR ?kpCR ?nCR_members ?caCR ?cmCR ?aRI ?iRI ?lRI ?cRI ?kRI ?aRc ?iRc ?lRc ?cRc ?kRc ?aSn ?rlSn ?aMo ?rlMo ?aIs ?lIs ?cIs ?kIs ?aSo ?lSo ?cSo ?kSo ?aBa ?lBa ?cBa ?kBa ?aBl ?lBl ?cBl ?kBl ?gCI ?lkCI ?vbCI ?atCI ?ftCI ?lEi ?cEi ?kEi ?cxCI ?tyCI ?hgCI ?hkCI ?svCI ?sxCI ?icCI ?haCI ?hmCI ?hdCI ?kpCI ?nCI_line ?saCI ?cxC ?tyC ?icC ?sStr ?sLst ?sbCRC ?neCRC ?aBag ?lBag ?cBag ?kBag ?aTake ?lTake ?cTake ?kTake ?aIi ?lIi ?cIi ?kIi ?aIc ?lIc ?cIc ?kIc ?aIz ?lIz ?cIz ?kIz ?aPal ?lPal ?cPal ?kPal ?aRow ?lRow ?cRow ?kRow ?aSg ?lSg ?cSg ?kSg ?aAl ?lAl ?cAl ?kAl ?aSl ?lSl ?cSl ?kSl ?aRi ?lRi ?cRi ?kRi ?aGrid ?lGrid ?cGrid ?kGrid ?aSh ?lSh ?cSh ?kSh ?aLaw ?lLaw ?cLaw ?kLaw ?zisinstance ?zint ?zbool ?ztuple ?zlist ?zlen ?zrange ?zall ?zenumerate ?zsorted ?zstr
    (case cn => k_is)
    (case ct => k_is)
    (case gC => k_is)
    (case pgC => k_is)
    (case hdC => k_is)
    (case poC => k_is)
    (case saC => k_is)
    (case mkC => k_is)
    (case kpC => k_is)
    (case nC_rows => k_is)
    (case nC_width => k_is)
    (case nC_height => k_is)
    (case rdC => k_is)
    (case gaC => k_is)
    (case aHo => k_is)
    (case rlHo => exact ⟨_, rfl⟩)
    (case aEd => k_is)
    (case rlEd => exact ⟨_, rfl⟩)
    (case aHg => k_is)
    (case rlHg => exact ⟨_, rfl⟩)
    (case ggHg => k_is)
    (case aEg => k_is)
    (case rlEg => exact ⟨_, rfl⟩)
    (case ggEg => k_is)
    (case caC => k_is)
    (case cmC => k_is)
    (case subC => k_is)
    (case neqC => k_is)
    (case sfC => k_is)
    (case aI => k_is)
    (case iI => k_is)
    (case lI => k_is)
    (case cI => k_is)
    (case kI => k_is)
    (case aLi => k_is)
    (case iLi => k_is)
    (case lLi => k_is)
    (case cLi => k_is)
    (case kLi => k_is)
    (case aCo => k_is)
    (case iCo => k_is)
    (case lCo => k_is)
    (case cCo => k_is)
    (case kCo => k_is)
    (case aEv => k_is)
    (case iEv => k_is)
    (case lEv => k_is)
    (case cEv => k_is)
    (case kEv => k_is)
    (case aGi => k_is)
    (case iGi => k_is)
    (case lGi => k_is)
    (case cGi => k_is)
    (case kGi => k_is)
    (case fiGi => k_is)
    (case aQe => k_is)
    (case iQe => k_is)
    (case lQe => k_is)
    (case cQe => k_is)
    (case kQe => k_is)
    (case aLn => k_is)
    (case iLn => k_is)
    (case lLn => k_is)
    (case cLn => k_is)
    (case kLn => k_is)
    (case aSx => k_is)
    (case iSx => k_is)
    (case lSx => k_is)
    (case cSx => k_is)
    (case kSx => k_is)
    (case aHx => k_is)
    (case iHx => k_is)
    (case lHx => k_is)
    (case cHx => k_is)
    (case kHx => k_is)
    (case aSr => k_is)
    (case iSr => k_is)
    (case lSr => k_is)
    (case cSr => k_is)
    (case kSr => k_is)
    (case aRd => k_is)
    (case rRd => k_is)
    (case iRd => k_is)
    (case lRd => k_is)
    (case cRd => k_is)
    (case kRd => k_is)
    (case gCR => k_is)
    (case pgCR => k_is)
    (case hdCR => k_is)
    (case poCR => k_is)
    (case saCR => k_is)
    (case mkCR => k_is)
    (case kpCR => k_is)
    (case nCR_members => k_is)
    (case caCR => k_is)
    (case cmCR => k_is)
    (case aRI => k_is)
    (case iRI => k_is)
    (case lRI => k_is)
    (case cRI => k_is)
    (case kRI => k_is)
    (case aRc => k_is)
    (case iRc => k_is)
    (case lRc => k_is)
    (case cRc => k_is)
    (case kRc => k_is)
    (case aSn => k_is)
    (case rlSn => exact ⟨_, rfl⟩)
    (case aMo => k_is)
    (case rlMo => exact ⟨_, rfl⟩)
    (case aIs => k_is)
    (case lIs => k_is)
    (case cIs => k_is)
    (case kIs => k_is)
    (case aSo => k_is)
    (case lSo => k_is)
    (case cSo => k_is)
    (case kSo => k_is)
    (case aBa => k_is)
    (case lBa => k_is)
    (case cBa => k_is)
    (case kBa => k_is)
    (case aBl => k_is)
    (case lBl => k_is)
    (case cBl => k_is)
    (case kBl => k_is)
    (case gCI => k_is)
    (case lkCI => k_is)
    (case vbCI => decide +kernel)
    (case atCI => k_is)
    (case ftCI => k_is)
    (case lEi => k_is)
    (case cEi => k_is)
    (case kEi => k_is)
    (case cxCI => k_is)
    (case tyCI => k_is)
    (case hgCI => k_is)
    (case hkCI => k_is)
    (case svCI => k_is)
    (case sxCI => k_is)
    (case icCI => k_is)
    (case haCI => k_is)
    (case hmCI => k_is)
    (case hdCI => k_is)
    (case kpCI => k_is)
    (case nCI_line => k_is)
    (case saCI => k_is)
    (case cxC => k_is)
    (case tyC => k_is)
    (case icC => k_is)
    (case sStr => k_is)
    (case sLst => k_is)
    (case sbCRC => k_is)
    (case neCRC => rfl)
    (case aBag => k_is)
    (case lBag => k_is)
    (case cBag => k_is)
    (case kBag => k_is)
    (case aTake => k_is)
    (case lTake => k_is)
    (case cTake => k_is)
    (case kTake => k_is)
    (case aIi => k_is)
    (case lIi => k_is)
    (case cIi => k_is)
    (case kIi => k_is)
    (case aIc => k_is)
    (case lIc => k_is)
    (case cIc => k_is)
    (case kIc => k_is)
    (case aIz => k_is)
    (case lIz => k_is)
    (case cIz => k_is)
    (case kIz => k_is)
    (case aPal => k_is)
    (case lPal => k_is)
    (case cPal => k_is)
    (case kPal => k_is)
    (case aRow => k_is)
    (case lRow => k_is)
    (case cRow => k_is)
    (case kRow => k_is)
    (case aSg => k_is)
    (case lSg => k_is)
    (case cSg => k_is)
    (case kSg => k_is)
    (case aAl => k_is)
    (case lAl => k_is)
    (case cAl => k_is)
    (case kAl => k_is)
    (case aSl => k_is)
    (case lSl => k_is)
    (case cSl => k_is)
    (case kSl => k_is)
    (case aRi => k_is)
    (case lRi => k_is)
    (case cRi => k_is)
    (case kRi => k_is)
    (case aGrid => k_is)
    (case lGrid => k_is)
    (case cGrid => k_is)
    (case kGrid => k_is)
    (case aSh => k_is)
    (case lSh => k_is)
    (case cSh => k_is)
    (case kSh => k_is)
    (case aLaw => k_is)
    (case lLaw => k_is)
    (case cLaw => k_is)
    (case kLaw => k_is)
    (case zisinstance => k_is)
    (case zint => k_is)
    (case zbool => k_is)
    (case ztuple => k_is)
    (case zlist => k_is)
    (case zlen => k_is)
    (case zrange => k_is)
    (case zall => k_is)
    (case zenumerate => k_is)
    (case zsorted => k_is)
    (case zstr => k_is)
