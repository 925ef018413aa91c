import PyProof.Rows.All
import Wide.All
import OpenK.AllK
import Wide.FinOn
import HandS.ForMost
import HandS.Codes
import HandS.Deep
import HandS.ClsMeth
import HandS.Conv
import HandS.Small
import HandS.IsInst
import KE.GoesMore
import KE.GoesEnumKw
import PyProof.Draws
import PyProof.Rows.CallKwBuiltin
import HandS.Walk
import HandS.Exc
import HandS.ExcInit
import HandS.ExcField
import HandS.ExcIs
import HandS.TryMany
import HandS.WordsExc
import HandS.ExcValue
import KE.KExcIs
import HandS.ExcOwn
import HandS.More
import HandS.HotCalls
import PyProof.StrBlock2
import PyProof.Rows.StrJoinRep
import KE.KCallOwn
import PySem.Challenge.RW_smalti_k06_picture_with_sign
set_option Elab.async false
set_option linter.all false
set_option maxRecDepth 100000
set_option maxHeartbeats 8000000
namespace Pm
open PySem L2
/-! ### the text by places -/
def top (i : Nat) : Stmt := PySem.Challenge.pw_smalti_k06_picture_with_sign.main.body.getD i (.Pass ⟨0, 0, 0, 0⟩)
abbrev gWall : Stmt := top 0
abbrev gDecimal : Stmt := top 4
abbrev cRegionInit : Stmt := inClass (top 5) 0
abbrev cRegionOf : Stmt := inClass (top 5) 1
abbrev cRegionCells : Stmt := inClass (top 5) 2
abbrev cRegionWithin : Stmt := inClass (top 5) 3
abbrev cRegionOr : Stmt := inClass (top 5) 4
abbrev cRegionAnd : Stmt := inClass (top 5) 5
abbrev cRegionSub : Stmt := inClass (top 5) 6
abbrev cRegionXor : Stmt := inClass (top 5) 7
abbrev cRegionEq : Stmt := inClass (top 5) 8
abbrev cRegionContains : Stmt := inClass (top 5) 9
abbrev cRegionLen : Stmt := inClass (top 5) 10
abbrev cRegionBool : Stmt := inClass (top 5) 11
abbrev cRegionStr : Stmt := inClass (top 5) 12
abbrev cInvalidPictureInit : Stmt := inClass (top 8) 0
abbrev cInvalidSignInit : Stmt := inClass (top 9) 0
abbrev cOutOfPictureInit : Stmt := inClass (top 10) 0
abbrev gIsStone : Stmt := top 15
abbrev gIsStoneOrHole : Stmt := top 16
abbrev gCheckSign : Stmt := top 17
abbrev gIsBadRow : Stmt := top 18
abbrev gBadLine : Stmt := top 19
abbrev cPictureInit : Stmt := inClass (top 20) 2
abbrev cPictureRead : Stmt := inClass (top 20) 3
abbrev cPicturePlain : Stmt := inClass (top 20) 4
abbrev cPictureLines : Stmt := inClass (top 20) 5
abbrev cPictureEveryCell : Stmt := inClass (top 20) 6
abbrev cPictureStones : Stmt := inClass (top 20) 7
abbrev cPictureHoles : Stmt := inClass (top 20) 8
abbrev cPictureContains : Stmt := inClass (top 20) 9
abbrev cPictureWithSign : Stmt := inClass (top 20) 10
abbrev cPictureGetitem : Stmt := inClass (top 20) 11
abbrev cPictureIter : Stmt := inClass (top 20) 12
abbrev cPictureLen : Stmt := inClass (top 20) 13
abbrev cPictureEq : Stmt := inClass (top 20) 14
abbrev cPictureSub : Stmt := inClass (top 20) 15
abbrev cPictureStr : Stmt := inClass (top 20) 16
abbrev gCheckCell : Stmt := top 21
abbrev lBag : Stmt := top 23
abbrev lTake : Stmt := top 24
abbrev lPalette : Stmt := top 25
abbrev lRow : Stmt := top 26
abbrev lSign : Stmt := top 27
abbrev lPut : Stmt := top 28
abbrev lBigGrid : Stmt := top 29
abbrev lText : Stmt := top 30
abbrev lChanged : Stmt := top 31
abbrev lPlain : Stmt := top 32
abbrev lGood : Stmt := top 33
abbrev lLaw : Stmt := top 34
end Pm
namespace Pm
open PySem PySem.Spec PyProof.Rows L2
/-- all that stood stands, but r -/
def SameBut (r : Addr) (H H' : Hp) : Prop := ∀ b o, b ≠ r → H b = some o → H' b = some o
theorem tyes {σ : L2.St} {G : Hp} {R : Bool → Hp → Prop} (h : R true G) : tYes σ G R := h
theorem same_upd {H : Hp} {p : Addr} {o : HO} (h : H p = none) : Same H (upd H p o) := fun b x e => by
  rw [upd_ne (ne_of_none e h)]
  exact e
theorem back {H H' : Hp} (s : Same H H') {t : Addr} (h : H' t = none) : H t = none := by
  cases z : H t with
  | none => rfl
  | some o =>
    rw [s _ _ z] at h
    cases h
theorem but_back {b : Addr} {H H' : Hp} {xs : List V} (hb : H b = some (.lst xs)) (s : SameBut b H H') {t : Addr} (ne : t ≠ b) (h : H' t = none) : H t = none := by
  cases z : H t with
  | none => rfl
  | some o =>
    rw [s _ _ ne z] at h
    cases h
theorem cut_to (xs : List V) (n : Nat) : cutV xs none (some (n : Int)) = xs.take n := by
  unfold cutV
  rw [HT.sIx_none, HT.sIx_nat, List.drop_zero, Nat.sub_zero]
  rcases Nat.le_total n xs.length with h | h
  · rw [Nat.min_eq_left h]
  · rw [Nat.min_eq_right h, List.take_of_length_le (Nat.le_refl _), List.take_of_length_le h]
theorem iteFe {b : Bool} {p q : Prop} (h : b = false) (z : q) : if b = true then p else q := by
  subst h
  exact iteF z
theorem iteTe {b : Bool} {p q : Prop} (h : b = true) (z : p) : if b = true then p else q := by
  subst h
  exact iteT z
/-- the built-ins by their names -/
structure LTxt (K : PySem.W.Frag) (mg : Str → Option Value) : Prop where
  isi : mg "isinstance" = none
  int : mg "int" = none
  lst : mg "list" = none
  len : mg "len" = none
  rng : mg "range" = none
/-- a def that may be called by its name -/
structure Cl (P : Program) (w : World) (K : PySem.W.Frag) (mg : Str → Option Value) (base : Heap) (CX : CXT) (k : Nat) (name : Str) (ps : List Str) (sp : Sp) (f : Addr) (fd : FuncData) : Prop where
  ok : FnOk P w K mg base CX k f fd ps sp
  kp : PySem.W.keepIn K (.ref f) = true
  bd : Binds K fd ps []
  gl : mg name = some (.ref f)
/-! ### the bag of drawn numbers -/
/-- the bag at b: four places; the first a list of ints, the second a place in it or its end, the third at least 0 -/
abbrev BagL (H : Hp) (b l : Addr) : Prop := ∃ (ns : List Int) (i p q : Int),
  H b = some (.lst [.ref l, .int i, .int p, .int q]) ∧ H l = some (.lst (ns.map V.int)) ∧ 0 ≤ i ∧ 0 ≤ p ∧ l ≠ b ∧ ns.length ≤ 63
/-- all but b stands as it stood -/
def But (b : Addr) (H H' : Hp) : Prop := ∀ a, a ≠ b → H' a = H a
theorem But.refl (b : Addr) (H : Hp) : But b H H := fun _ _ => rfl
theorem But.trans {b : Addr} {H H1 H2 : Hp} (x : But b H H1) (y : But b H1 H2) : But b H H2 := fun a h => (y a h).trans (x a h)
theorem But.upd {b : Addr} {H : Hp} {o : HO} : But b H (upd H b o) := fun _ h => upd_ne h
def spTake : Sp := fun vs H Q _ => ∃ (b l : Addr) (size : Int), vs = [.ref b, .int size] ∧ BagL H b l ∧ 0 < size ∧ size < 1073741824 ∧
  ∀ (n : Int) (H' : Hp), 0 ≤ n → n < size → But b H H' → BagL H' b l → Q (.int n) H'
theorem scTake : FnScope ["_law_bag_here", "_law_size", "_law_cell", "_law_digit"] ["_law_bag_here", "_law_size"] (defScope lTake) := ⟨rfl, rfl, rfl, by decide +kernel, rfl, by decide +kernel, by decide +kernel⟩
theorem at4 {a b c d : V} : atI [a, b, c, d] 0 = some a ∧ atI [a, b, c, d] 1 = some b ∧ atI [a, b, c, d] 2 = some c ∧ atI [a, b, c, d] 3 = some d := ⟨rfl, rfl, rfl, rfl⟩
section
variable {P : Program} {w : World} {K : PySem.W.Frag} {mg : Str → Option Value} {base : Heap}
theorem ok_take {f : Addr} {fd : FuncData} (F : Fun K "_law_take" "_law_take" lTake f fd) (mlen : mg "len" = none) (mint : mg "int" = none) : FnOk P w K mg base CX0 1 f fd ["_law_bag_here", "_law_size"] spTake := by
  refine F.ok scTake (fun vs H Q E h => ?_) (fun cdv A outer s H vs Q E hr h => ?_)
  · obtain ⟨b, l, size, rfl, _⟩ := h
    rfl
  · obtain ⟨b, l, size, rfl, ⟨ns, i, p, q, hb, hl, i0, p0, nlb, n63⟩, s0, s1, k⟩ := h
    refine ⟨_, C8.pss_cut (ps_if (PW.pt (pw_and (pt_cmpR op_eq (pe_ix ix_list (pv 0) pe_int (fun _ _ => rfl)) pe_int (nomark _))
          (pw_and1 (pt_cmpR op_lt (pe_ix ix_list (pv 0) pe_int (fun _ _ => rfl)) (pe_callB call_len_seq (by rfl) mlen PySem.boot_len (pa_cons (pe_ix ix_list (pv 0) pe_int (fun _ _ => rfl)) pa_nil)) (nomark _)))))
        (pss_cons (ps_set (i := 2) scTake.nd rfl (.inl rfl) (pe_ix ix_list (pe_ix ix_list (pv 0) pe_int (fun _ _ => rfl)) (pe_ix ix_list (pv 0) pe_int (fun _ _ => rfl)) (fun _ _ => rfl)))
        (pss_cons (ps_asg (pe_op op_add (pe_ix ix_list (pv 0) pe_int (fun _ _ => rfl)) pe_int) (pg_sub (pv 0) pe_int set_list))
        (pss_one (ps_if (pt_cmpR op_ge (pv 2) (pe_op op_pow pe_int pe_int) (nomark _))
          (pss_one (ps_asg (pv 2) (pg_sub (pv 0) pe_int set_list)))
          (pss_one (ps_asg (pe_op op_mod (pe_callTy call_int1 (by rfl) mint (by decide +kernel) (pa_cons (pe_op op_add (pe_op op_add (pe_op op_mul (pe_ix ix_list (pv 0) pe_int (fun _ _ => rfl)) pe_int) (pe_op op_mul (pv 2) pe_int)) pe_int) pa_nil)) pe_int) (pg_sub (pv 0) pe_int set_list)))))))
        pss_nil)
      (pss_cons (ps_if (pt_cmpR op_gt (pe_ix ix_list (pv 0) pe_int (fun _ _ => rfl)) pe_int (nomark _))
        (pss_cons (ps_set (i := 3) scTake.nd rfl (.inl rfl) (pe_op op_mod (pe_callTy call_int1 (by rfl) mint (by decide +kernel) (pa_cons (pe_ix ix_list (pv 0) pe_int (fun _ _ => rfl)) pa_nil)) (pv 1)))
        (pss_cons (ps_asg (pe_op op_fdiv (pe_ix ix_list (pv 0) pe_int (fun _ _ => rfl)) (pv 1)) (pg_sub (pv 0) pe_int set_list))
        (pss_one (ps_ret (pv 3)))))
        pss_nil)
      (pss_cons (ps_asg (pe_op op_mod (pe_callTy call_int1 (by rfl) mint (by decide +kernel) (pa_cons (pe_op op_add (pe_op op_mul (pe_ix ix_list (pv 0) pe_int (fun _ _ => rfl)) pe_int) pe_int) pa_nil)) pe_int) (pg_sub (pv 0) pe_int set_list))
      (pss_one (ps_ret (pe_op op_mod (pe_callTy call_int1 (by rfl) mint (by decide +kernel) (pa_cons (pe_op op_fdiv (pe_ix ix_list (pv 0) pe_int (fun _ _ => rfl)) pe_int) pa_nil)) (pv 1)))))), ?_⟩
    have seven : ∀ q' : Int, (0 : Int) < 2147483647 := fun _ => by decide
    refine ⟨fun σ H1 => ∃ (c : Option V) (i' p' q' : Int), σ = [some (.ref b), some (.int size), c, Option.none] ∧ But b H H1 ∧ H1 b = some (.lst [.ref l, .int i', .int p', .int q']) ∧ 0 ≤ i' ∧ 0 ≤ p', ?_, ?_⟩
    · -- if bag[2] == 0 and bag[1] < len(bag[0])
      refine ⟨_, rfl, b, _, 2, _, rfl, rfl, SqL.of hb, rfl, rfl, _, rfl, ite2 (fun _ => ?_) (fun _ => ⟨_, i, p, q, rfl, But.refl b H, hb, i0, p0⟩)⟩
      refine ⟨_, rfl, b, _, 1, _, rfl, rfl, SqL.of hb, rfl, _, rfl, b, _, 0, _, rfl, rfl, SqL.of hb, rfl, l, _, rfl, .inl (SqL.of hl), _, _, rfl, rfl, _, rfl, ite2 (fun e => ?_) (fun _ => ⟨_, i, p, q, rfl, But.refl b H, hb, i0, p0⟩)⟩
      have elt : i < ((ns.map V.int).length : Int) := of_decide_eq_true e
      rw [List.length_map] at elt
      obtain ⟨j, rfl⟩ : ∃ j : Nat, i = (j : Int) := ⟨i.toNat, by omega⟩
      have hj : j < ns.length := by omega
      have gj : (ns.map V.int)[j]? = some (.int ns[j]) := by
        rw [List.getElem?_map, List.getElem?_eq_getElem hj]
        rfl
      -- cell = bag[0][bag[1]]
      refine ⟨_, rfl, b, _, 0, _, rfl, rfl, SqL.of hb, rfl, _, rfl, b, _, 1, _, rfl, rfl, SqL.of hb, rfl, l, _, (j : Int), _, rfl, rfl, SqL.of hl, atI_nat gj, ?_⟩
      -- bag[1] = bag[1] + 1
      refine ⟨_, rfl, b, _, 1, _, rfl, rfl, SqL.of hb, rfl, _, _, rfl, rfl, _, rfl, b, _, 1, 1, rfl, rfl, hb, rfl, ?_⟩
      have hb1 : (upd H b (.lst [.ref l, .int ((j : Int) + 1), .int p, .int q])) b = some (.lst [.ref l, .int ((j : Int) + 1), .int p, .int q]) := upd_same
      have bu : But b H (upd H b (.lst [.ref l, .int ((j : Int) + 1), .int p, .int q])) := But.upd
      refine ⟨_, rfl, _, _, rfl, rfl, ⟨by decide, by decide, by decide⟩, _, _, rfl, rfl, _, rfl, ite2 (fun e2 => ?_) (fun _ => ?_)⟩
      · have big : (10 : Int) ^ (18 : Int).toNat ≤ ns[j] := of_decide_eq_true e2
        have pos : (0 : Int) ≤ (10 : Int) ^ (18 : Int).toNat := by decide
        refine ⟨_, rfl, _, rfl, b, _, 2, 2, rfl, rfl, hb1, rfl, ?_⟩
        exact ⟨_, (j : Int) + 1, ns[j], q, rfl, bu.trans But.upd, upd_same, by omega, by omega⟩
      · refine ⟨_, rfl, b, _, 3, _, rfl, rfl, SqL.of hb1, rfl, _, _, rfl, rfl, .inr ⟨by decide, by decide⟩, _, rfl, _, _, rfl, rfl, .inr ⟨by decide, by decide⟩, _, _, rfl, rfl, _, _, rfl, rfl, .inl ⟨_, rfl, _, _, rfl, rfl, seven 0, _, rfl, b, _, 3, 3, rfl, rfl, hb1, rfl, ?_⟩⟩
        exact ⟨_, (j : Int) + 1, p, _, rfl, bu.trans But.upd, upd_same, by omega, p0⟩
    · rintro σ H1 ⟨c, i', p', q', rfl, bu, hb1, i1, p1⟩
      have hl1 : H1 l = some (.lst (ns.map V.int)) := (bu l nlb).trans hl
      refine ⟨_, rfl, b, _, 2, _, rfl, rfl, SqL.of hb1, rfl, _, _, rfl, rfl, _, rfl, ite2 (fun _ => ?_) (fun _ => ?_)⟩
      · -- digit = int(bag[2]) % size; bag[2] = bag[2] // size; return digit
        refine ⟨_, rfl, b, _, 2, _, rfl, rfl, SqL.of hb1, rfl, .inl ⟨_, rfl, _, rfl, _, _, rfl, rfl, s0, ?_⟩⟩
        refine ⟨_, rfl, b, _, 2, _, rfl, rfl, SqL.of hb1, rfl, _, rfl, _, _, rfl, rfl, ⟨s0, s1⟩, _, rfl, b, _, 2, 2, rfl, rfl, hb1, rfl, _, rfl, ?_⟩
        refine k _ _ (Int.emod_nonneg _ (by omega)) (Int.emod_lt_of_pos _ s0) (bu.trans But.upd) ⟨ns, i', p' / size, q', upd_same, ?_, i1, Int.ediv_nonneg p1 (by omega), nlb, n63⟩
        rw [upd_ne nlb]
        exact hl1
      · refine ⟨_, rfl, b, _, 3, _, rfl, rfl, SqL.of hb1, rfl, _, _, rfl, rfl, .inr ⟨by decide, by decide⟩, _, _, rfl, rfl, .inl ⟨_, rfl, _, _, rfl, rfl, seven 0, _, rfl, b, _, 3, 3, rfl, rfl, hb1, rfl, ?_⟩⟩
        have hb2 : (upd H1 b (.lst [.ref l, .int i', .int p', .int ((q' * 48271 + 11) % 2147483647)])) b = some (.lst [.ref l, .int i', .int p', .int ((q' * 48271 + 11) % 2147483647)]) := upd_same
        refine ⟨_, rfl, b, _, 3, _, rfl, rfl, SqL.of hb2, rfl, _, _, rfl, rfl, ⟨by decide, by decide⟩, .inl ⟨_, rfl, _, rfl, _, _, rfl, rfl, s0, ?_⟩⟩
        refine k _ _ (Int.emod_nonneg _ (by omega)) (Int.emod_lt_of_pos _ s0) (bu.trans But.upd) ⟨ns, i', p', _, upd_same, ?_, i1, p1, nlb, n63⟩
        rw [upd_ne nlb]
        exact hl1
def spBag (K : PySem.W.Frag) : Sp := fun vs H Q _ => ∃ (a : Addr) (ns : List Int), vs = [.ref a] ∧ SqL K H a (ns.map V.int) ∧ ns.length ≤ 63 ∧ ∀ b l H', Same H H' → H b = none → BagL H' b l → Q (.ref b) H'
abbrev nBag : List Str := ["_law_script", "_law_cell"]
theorem scBag : FnScope nBag ["_law_script"] (defScope lBag) := ⟨rfl, rfl, rfl, by decide +kernel, rfl, by decide +kernel, by decide +kernel⟩
theorem ok_bag {f : Addr} {fd : FuncData} (F : Fun K "_law_bag" "_law_bag" lBag f fd) (T : LTxt K mg) : FnOk P w K mg base CX0 1 f fd ["_law_script"] (spBag K) := by
  refine F.ok scBag (fun vs H Q E h => ?_) (fun cdv A outer s H vs Q E hr h => ?_)
  · obtain ⟨a, ns, rfl, _⟩ := h
    rfl
  · obtain ⟨a, ns, rfl, ha, few, k⟩ := h
    refine ⟨_, pss_one (ps_ret (pe_lst (pa_cons (pe_lc (own := [("_law_cell", 1)]) (g := gName 1) (tt := tYes) rfl scBag.nd (pi_list (pe_slice sl_list (pv 0) po_none (po_some pe_int)))
      (blkOk_by (own := [("_law_cell", 1)]) (N := nBag) (sc := defScope lBag) (by decide +kernel)) (fun _ _ _ _ _ => pg_name (i := 1) scBag.nd rfl (Or.inl rfl)) (fun _ _ _ _ _ => pts_nil)
      (fun _ _ _ _ _ => pe_callTy call_int1 (by rfl) T.int (by decide +kernel) (pa_cons (pv 1) pa_nil))) (pa_cons pe_int (pa_cons pe_int (pa_cons pe_int pa_nil)))))), ?_⟩
    refine ⟨_, rfl, 63, rfl, a, _, rfl, ha, fun q nq => ?_⟩
    have ec : cutV (ns.map V.int) none (some 63) = ns.map V.int := by
      rw [show (some 63 : Option Int) = some ((63 : Nat) : Int) from rfl, cut_to, List.take_of_length_le (by rw [List.length_map]; exact few)]
    rw [ec]
    have s1 := same_upd (o := .lst (ns.map V.int)) nq
    refine ⟨q, rfl, ⟨_, SqL.of upd_same⟩, fun D nD => lc_list (K := K) (a := q) (xs := ns.map V.int) (fun i G => Same (upd H q (.lst (ns.map V.int))) G ∧ G D = some (.lst ((ns.take i).map V.int))) ⟨same_upd nD, upd_same⟩ (fun i G _ ⟨sm, _⟩ => SqL.of (sm _ _ upd_same)) ?_ ?_⟩
    · rintro i x G hx ⟨sm, hD⟩
      rw [List.getElem?_map] at hx
      cases e : ns[i]? with
      | none =>
        rw [e] at hx
        cases hx
      | some n =>
        rw [e] at hx
        cases hx
        refine ⟨rfl, tyes (iteT ⟨_, rfl, .inl ⟨n, rfl, _, hD, ?_, fun b o eb => ?_, ?_⟩⟩)⟩
        · rw [List.length_map, List.length_take]
          exact small1000 (by omega)
        · rw [upd_ne (ne_of_none eb nD)]
          exact sm _ _ eb
        · rw [upd_same, List.take_add_one, e, List.map_append]
          rfl
    · rintro G ⟨sm, hD⟩
      rw [List.length_map, List.take_of_length_le (Nat.le_refl _)] at hD
      refine ⟨(by show 4 ≤ sizeLine; decide), fun b nb => ?_⟩
      have nb0 : H b = none := by
        cases z : H b with
        | none => rfl
        | some o =>
          rw [sm _ _ (s1 _ _ z)] at nb
          cases nb
      have ndb : D ≠ b := ne_of_none hD nb
      exact k b D _ (fun x o e => by
        rw [upd_ne (ne_of_none (sm _ _ (s1 _ _ e)) nb)]
        exact sm _ _ (s1 _ _ e)) nb0 ⟨ns, 0, 0, 7, upd_same, by rw [upd_ne ndb]; exact hD, by decide, by decide, ndb, few⟩
end
end Pm
namespace Pm
open PySem PySem.Spec PyProof.Rows L2 SX
/-! ### signs -/
abbrev alphaS : Str := "abcdefghijklmnopqrstuvwxyz"
def Let (c : Nat) : Prop := 97 ≤ c ∧ c ≤ 122
def Good (c : Nat) : Prop := c = 46 ∨ Let c
instance (c : Nat) : Decidable (Let c) := by unfold Let; infer_instance
instance (c : Nat) : Decidable (Good c) := by unfold Good; infer_instance
theorem alpha_at : ∀ n : Nat, n < 26 → alphaS.cps.toList[n]? = some (97 + n) := by decide +kernel
theorem alpha_mem (c : Nat) : c ∈ alphaS.cps.toList ↔ Let c := by
  have e : alphaS.cps.toList = List.range' 97 26 := by decide +kernel
  rw [e, List.mem_range'_1]
  unfold Let
  omega
theorem alpha_len : alphaS.length = 26 := by decide +kernel
theorem len_S (a : List Nat) : (S a).length = a.length := S_len a
theorem small_line {n : Nat} (h : n ≤ 1000) : n ≤ sizeLine := Nat.le_of_lt (small1000 h)
theorem dot_S : ("." : Str) = S [46] := by decide +kernel
/-- three letters -/
def Pal (z : List Nat) : Prop := ∃ c d e, z = [c, d, e] ∧ Let c ∧ Let d ∧ Let e
theorem Pal.len {z : List Nat} (h : Pal z) : z.length = 3 := by
  obtain ⟨c, d, e, rfl, _⟩ := h
  rfl
theorem Pal.good {z : List Nat} (h : Pal z) {c : Nat} (m : c ∈ z) : Let c := by
  obtain ⟨a, b, e, rfl, ha, hb, he⟩ := h
  simp only [List.mem_cons, List.not_mem_nil, or_false] at m
  rcases m with rfl | rfl | rfl <;> assumption
theorem draw_at {z : List Nat} (h : Pal z) {n : Int} (n0 : 0 ≤ n) (n7 : n < 7) : ∃ c, atI ([46] ++ z ++ z) n = some c ∧ Good c := by
  obtain ⟨j, rfl⟩ : ∃ j : Nat, n = (j : Int) := ⟨n.toNat, by omega⟩
  have len : ([46] ++ z ++ z).length = 7 := by simp [h.len]
  have hj : j < ([46] ++ z ++ z).length := by omega
  refine ⟨([46] ++ z ++ z)[j], atI_nat (List.getElem?_eq_getElem hj), ?_⟩
  have m := List.getElem_mem hj
  rcases List.mem_append.mp m with m | m
  · rcases List.mem_append.mp m with m | m
    · exact .inl (by simpa using m)
    · exact .inr (h.good m)
  · exact .inr (h.good m)
section
variable {P : Program} {w : World} {K : PySem.W.Frag} {mg : Str → Option Value} {base : Heap}
def spPal : Sp := fun vs H Q _ => ∃ b l, vs = [.ref b] ∧ BagL H b l ∧ ∀ z H', Pal z → But b H H' → BagL H' b l → Q (.str (S z)) H'
theorem scPal : FnScope ["_law_bag_here", "_law_letters", "_law_first", "_law_second", "_law_third"] ["_law_bag_here"] (defScope lPalette) := ⟨rfl, rfl, rfl, by decide +kernel, rfl, by decide +kernel, by decide +kernel⟩
abbrev tkNames : List Str := ["_law_bag_here", "_law_size"]
theorem ok_pal {f t : Addr} {fd td : FuncData} (F : Fun K "_law_palette" "_law_palette" lPalette f fd) (T : Cl P w K mg base CX0 1 "_law_take" tkNames spTake t td) (L : LTxt K mg) : FnOk P w K mg base CX0 2 f fd ["_law_bag_here"] spPal := by
  refine F.ok scPal (fun vs H Q E h => ?_) (fun cdv A outer s H vs Q E hr h => ?_)
  · obtain ⟨b, l, rfl, _⟩ := h
    rfl
  · obtain ⟨b, l, rfl, hb, k⟩ := h
    refine ⟨_, pss_cons (ps_set (i := 1) scPal.nd rfl (.inl rfl) pe_str)
      (pss_cons (ps_set (i := 2) scPal.nd rfl (.inl rfl) (pe_call T.ok hr (by rfl) T.gl T.kp T.bd .nil pass0 (pa_cons (pv 0) (pa_cons pe_int pa_nil))))
      (pss_cons (ps_set (i := 3) scPal.nd rfl (.inl rfl) (pe_op op_mod (pe_callTy call_int1 (by rfl) L.int (by decide +kernel) (pa_cons (pe_op op_add (pe_op op_add (pv 2) pe_int) (pe_call T.ok hr (by rfl) T.gl T.kp T.bd .nil pass0 (pa_cons (pv 0) (pa_cons pe_int pa_nil)))) pa_nil)) pe_int))
      (pss_cons (ps_set (i := 4) scPal.nd rfl (.inl rfl) (pe_op op_mod (pe_callTy call_int1 (by rfl) L.int (by decide +kernel) (pa_cons (pe_op op_add (pe_op op_add (pv 3) pe_int) (pe_call T.ok hr (by rfl) T.gl T.kp T.bd .nil pass0 (pa_cons (pv 0) (pa_cons pe_int pa_nil)))) pa_nil)) pe_int))
      (pss_one (ps_ret (pe_op op_add_str (pe_op op_add_str (pe_ix ix_str (pv 1) (pv 2) (fun _ _ => rfl)) (pe_ix ix_str (pv 1) (pv 3) (fun _ _ => rfl))) (pe_ix ix_str (pv 1) (pv 4) (fun _ _ => rfl)))))))), ?_⟩
    refine ⟨_, rfl, b, l, 26, rfl, hb, by decide, by decide, fun n H1 n0 n1 u1 b1 => ?_⟩
    refine ⟨_, rfl, _, _, rfl, rfl, _, rfl, b, l, 25, rfl, b1, by decide, by decide, fun n2 H2 p0 p1 u2 b2 => ⟨_, _, rfl, rfl, .inl ⟨_, rfl, _, _, rfl, rfl, (by show (0 : Int) < 26; decide), ?_⟩⟩⟩
    refine ⟨_, rfl, _, _, rfl, rfl, _, rfl, b, l, 25, rfl, b2, by decide, by decide, fun n3 H3 q0 q1 u3 b3 => ⟨_, _, rfl, rfl, .inl ⟨_, rfl, _, _, rfl, rfl, (by show (0 : Int) < 26; decide), ?_⟩⟩⟩
    have at_ : ∀ m : Int, 0 ≤ m → m < 26 → ∃ c, atI alphaS.cps.toList m = some c ∧ Let c := fun m h0 h1 => by
      obtain ⟨j, rfl⟩ : ∃ j : Nat, m = (j : Int) := ⟨m.toNat, by omega⟩
      exact ⟨97 + j, atI_nat (alpha_at j (by omega)), by unfold Let; omega⟩
    obtain ⟨c, ec, hc⟩ := at_ n n0 n1
    obtain ⟨d, ed, hd⟩ := at_ _ (Int.emod_nonneg (n + 1 + n2) (show (26 : Int) ≠ 0 by decide)) (Int.emod_lt_of_pos (n + 1 + n2) (show (0 : Int) < 26 by decide))
    obtain ⟨e, ee, he⟩ := at_ _ (Int.emod_nonneg ((n + 1 + n2) % 26 + 1 + n3) (show (26 : Int) ≠ 0 by decide)) (Int.emod_lt_of_pos ((n + 1 + n2) % 26 + 1 + n3) (show (0 : Int) < 26 by decide))
    have al : alphaS.length ≤ sizeLine := by rw [alpha_len]; exact small_line (by decide)
    refine ⟨_, rfl, _, rfl, _, _, _, rfl, rfl, al, ec, ?_⟩
    refine ⟨_, rfl, _, rfl, _, _, _, rfl, rfl, al, ed, _, _, rfl, rfl, by show 1 + 1 ≤ sizeLine; decide, ?_⟩
    refine ⟨_, rfl, _, rfl, _, _, _, rfl, rfl, al, ee, _, _, rfl, rfl, by show 2 + 1 ≤ sizeLine; decide, ?_⟩
    have z : (S [c] ++ S [d]) ++ S [e] = S [c, d, e] := by rw [S_cat, S_cat]; rfl
    have y := k [c, d, e] H3 ⟨c, d, e, rfl, hc, hd, he⟩ ((u1.trans u2).trans u3) b3
    rw [← z] at y
    exact y
def spRow : Sp := fun vs H Q _ => ∃ b l z w, vs = [.ref b, .str (S z), .int w] ∧ BagL H b l ∧ Pal z ∧ 0 ≤ w ∧ w ≤ 8 ∧
  ∀ r H', (r.length : Int) = w → (∀ c ∈ r, Good c) → But b H H' → BagL H' b l → Q (.str (S r)) H'
theorem scRow : FnScope ["_law_bag_here", "_law_palette_here", "_law_wide", "_law_row_here", "_law_k"] ["_law_bag_here", "_law_palette_here", "_law_wide"] (defScope lRow) := ⟨rfl, rfl, rfl, by decide +kernel, rfl, by decide +kernel, by decide +kernel⟩
theorem ok_row {f t : Addr} {fd td : FuncData} (F : Fun K "_law_row" "_law_row" lRow f fd) (T : Cl P w K mg base CX0 1 "_law_take" tkNames spTake t td) (L : LTxt K mg) : FnOk P w K mg base CX0 2 f fd ["_law_bag_here", "_law_palette_here", "_law_wide"] spRow := by
  refine F.ok scRow (fun vs H Q E h => ?_) (fun cdv A outer s H vs Q E hr h => ?_)
  · obtain ⟨b, l, z, w, rfl, _⟩ := h
    rfl
  · obtain ⟨b, l, z, w, rfl, hb, hz, w0, w8, k⟩ := h
    refine ⟨_, pss_cons (ps_set (i := 3) scRow.nd rfl (.inl rfl) pe_str)
      (pss_cons (ps_for PassesOwn.never rfl (pi_range1 (by rfl) L.rng (pa_cons (pv 2) pa_nil)) (pg_name (i := 4) scRow.nd rfl (.inl rfl))
        (pss_one (ps_set (i := 3) scRow.nd rfl (.inl rfl) (pe_op op_add_str (pv 3) (pe_ix ix_str (pe_op op_add_str (pe_op op_add_str pe_str (pv 1)) (pv 1)) (pe_call T.ok hr (by rfl) T.gl T.kp T.bd .nil pass0 (pa_cons (pv 0) (pa_cons pe_int pa_nil))) (fun _ _ => rfl))))))
      (pss_one (ps_ret (pv 3)))), ?_⟩
    have lz := hz.len
    refine ⟨_, rfl, w, rfl, by omega, by omega, for_range (lo := 0) (n := w.toNat) (fun i σ G => ∃ y r, σ = [some (.ref b), some (.str (S z)), some (.int w), some (.str (S r)), y] ∧ r.length = i ∧ (∀ c ∈ r, Good c) ∧ But b H G ∧ BagL G b l)
      ⟨_, [], rfl, rfl, (fun c m => nomatch m), But.refl b H, hb⟩ ?_ ?_⟩
    · rintro i σ G hi ⟨y, r, rfl, lr, gr, bu, bG⟩
      have e1 : ("." : Str) ++ S z ++ S z = S ([46] ++ z ++ z) := by rw [dot_S, S_cat, S_cat]
      refine ⟨_, rfl, _, rfl, _, _, rfl, rfl, by rw [dot_S, len_S, len_S, lz]; decide, _, rfl, _, _, rfl, rfl, by rw [dot_S, S_cat, len_S, len_S]; simp [lz]; decide, _, rfl, b, l, 7, rfl, bG, by decide, by decide, fun n G1 n0 n1 u1 b1 => ?_⟩
      obtain ⟨c, ec, gc⟩ := draw_at hz n0 n1
      refine ⟨_, n, c, rfl, rfl, by rw [e1, len_S]; simp [lz]; exact small_line (by decide), by rw [e1]; exact ec, _, _, rfl, rfl, ?_, some (.int (0 + (i : Int))), r ++ [c], ?_, ?_, ?_, bu.trans u1, b1⟩
      · rw [len_S]
        show r.length + 1 ≤ sizeLine
        exact small_line (by omega)
      · exact congrArg (fun x => [some (V.ref b), some (V.str (S z)), some (V.int w), some (V.str x), some (V.int (0 + (i : Int)))]) (S_cat r [c])
      · rw [List.length_append, lr]
        rfl
      · intro d hd
        rcases List.mem_append.mp hd with m | m
        · exact gr d m
        · rw [List.mem_singleton.mp m]
          exact gc
    · rintro σ G ⟨y, r, rfl, lr, gr, bu, bG⟩
      exact ⟨_, rfl, k r G (by omega) gr bu bG⟩
/-! ### grids -/
abbrev Rows := List (List Nat)
def rowsV (R : Rows) : List V := R.map fun r => V.str (S r)
structure Grid (R : Rows) (w : Nat) : Prop where
  w1 : 1 ≤ w
  w8 : w ≤ 8
  h1 : 1 ≤ R.length
  h8 : R.length ≤ 8
  row : ∀ r ∈ R, r.length = w
  sgn : ∀ r ∈ R, ∀ c ∈ r, Good c
theorem rowsV_len (R : Rows) : (rowsV R).length = R.length := List.length_map _
theorem bag_upd {H : Hp} {b l t : Addr} {o : HO} (h : BagL H b l) (n : H t = none) : BagL (upd H t o) b l := by
  obtain ⟨ns, i, p, q, hb, hl, r⟩ := h
  exact ⟨ns, i, p, q, by rw [upd_ne (ne_of_none hb n)]; exact hb, by rw [upd_ne (ne_of_none hl n)]; exact hl, r⟩
theorem bag_b {H : Hp} {b l : Addr} (h : BagL H b l) : ∃ xs, H b = some (.lst xs) := by
  obtain ⟨_, _, _, _, hb, _⟩ := h
  exact ⟨_, hb⟩
theorem bag_ne {H : Hp} {b l t : Addr} {o : HO} (h : BagL H b l) (tb : t ≠ b) (tl : t ≠ l) : BagL (upd H t o) b l := by
  obtain ⟨ns, i, p, q, hb, hl, r⟩ := h
  exact ⟨ns, i, p, q, by rw [upd_ne (Ne.symm tb)]; exact hb, by rw [upd_ne (Ne.symm tl)]; exact hl, r⟩
theorem bag_l {H : Hp} {b l : Addr} (h : BagL H b l) : ∃ xs, H l = some (.lst xs) := by
  obtain ⟨_, _, _, _, _, hl, _⟩ := h
  exact ⟨_, hl⟩
theorem but_same {b : Addr} {H H' : Hp} (h : But b H H') : SameBut b H H' := fun a o ha e => (h a ha).trans e
theorem sb_trans {b : Addr} {H H1 H2 : Hp} (h : SameBut b H H1) (k : SameBut b H1 H2) : SameBut b H H2 := fun a o ha e => k a o ha (h a o ha e)
theorem sb_refl (b : Addr) (H : Hp) : SameBut b H H := fun _ _ _ e => e
theorem same_sb {b : Addr} {H H' : Hp} (h : Same H H') : SameBut b H H' := fun a o _ e => h a o e
def spGrid : Sp := fun vs H Q _ => ∃ b l z, vs = [.ref b, .str (S z)] ∧ BagL H b l ∧ Pal z ∧
  ∀ p R w H', Grid R w → SameBut b H H' → BagL H' b l → H p = none → H' p = some (.lst (rowsV R)) → Q (.ref p) H'
abbrev nGrid : List Str := ["_law_bag_here", "_law_palette_here", "_law_wide", "_law_k"]
theorem scGrid : FnScope nGrid ["_law_bag_here", "_law_palette_here"] (defScope lBigGrid) := ⟨rfl, rfl, rfl, by decide +kernel, rfl, by decide +kernel, by decide +kernel⟩
theorem ok_grid {f t g : Addr} {fd td gd : FuncData} (F : Fun K "_law_big_grid" "_law_big_grid" lBigGrid f fd) (T : Cl P w K mg base CX0 1 "_law_take" tkNames spTake t td) (R : Cl P w K mg base CX0 2 "_law_row" ["_law_bag_here", "_law_palette_here", "_law_wide"] spRow g gd) (L : LTxt K mg) :
    FnOk P w K mg base CX0 3 f fd ["_law_bag_here", "_law_palette_here"] spGrid := by
  refine F.ok scGrid (fun vs H Q E h => ?_) (fun cdv A outer s H vs Q E hr h => ?_)
  · obtain ⟨b, l, z, rfl, _⟩ := h
    rfl
  · obtain ⟨b, l, z, rfl, hb, hz, k⟩ := h
    have hr1 : Room 1 _ := hr.mono (by decide)
    refine ⟨_, pss_cons (ps_set (i := 2) scGrid.nd rfl (.inr rfl) (pe_op op_add pe_int (pe_call T.ok hr1 (by rfl) T.gl T.kp T.bd .nil pass0 (pa_cons (pv 0) (pa_cons pe_int pa_nil)))))
      (pss_one (ps_ret (pe_lc (own := [("_law_k", 3)]) (g := gName 3) (tt := tYes) rfl scGrid.nd (pi_range1 (by rfl) L.rng (pa_cons (pe_op op_add pe_int (pe_call T.ok hr1 (by rfl) T.gl T.kp T.bd .nil pass0 (pa_cons (pv 0) (pa_cons pe_int pa_nil)))) pa_nil)) (blkOk_by (N := nGrid) (sc := defScope lBigGrid) (by decide +kernel)) (fun _ _ _ _ _ => pg_name (i := 3) scGrid.nd rfl (.inl rfl)) (fun _ _ _ _ _ => pts_nil)
        (fun _ _ _ _ _ => pe_call R.ok hr (by rfl) R.gl R.kp R.bd .nil pass0 (pa_cons (pv 0) (pa_cons (pv 1) (pa_cons (pv 2) pa_nil))))))), ?_⟩
    refine ⟨_, rfl, b, l, 8, rfl, hb, by decide, by decide, fun n H1 n0 n1 u1 b1 => ⟨_, _, rfl, rfl, ?_⟩⟩
    refine ⟨_, rfl, b, l, 8, rfl, b1, by decide, by decide, fun m H2 m0 m1 u2 b2 => ⟨_, _, rfl, rfl, 1 + m, rfl, by omega, by omega, fun D nD => ?_⟩⟩
    have s2 : SameBut b H H2 := but_same (u1.trans u2)
    have nDb : D ≠ b := fun e => by
      obtain ⟨xs, e2⟩ := bag_b b2
      rw [e, e2] at nD
      cases nD
    have nDl : D ≠ l := fun e => by
      obtain ⟨xs, e2⟩ := bag_l b2
      rw [e, e2] at nD
      cases nD
    have nD0 : H D = none := by
      obtain ⟨xs, e2⟩ := bag_b hb
      exact but_back e2 s2 nDb nD
    refine lc_range (lo := 0) (n := (1 + m).toNat) (fun i G => ∃ R : Rows, R.length = i ∧ (∀ r ∈ R, (r.length : Int) = 1 + n ∧ ∀ c ∈ r, Good c) ∧ SameBut b H G ∧ BagL G b l ∧ G D = some (.lst (rowsV R))) ⟨[], rfl, (fun r hr => nomatch hr), fun a o ha e => ?_, bag_upd b2 nD, upd_same⟩ ?_ ?_
    · rw [upd_ne (ne_of_none (s2 a o ha e) nD)]
      exact s2 a o ha e
    · rintro i G hi ⟨R, lR, gR, sG, bG, hD⟩
      refine ⟨rfl, tyes (iteT ⟨_, rfl, _, rfl, _, rfl, b, l, z, 1 + n, rfl, bG, hz, by omega, by omega, fun r G1 lr gr u3 b3 => ⟨rowsV R, (u3 D nDb).trans hD, ?_, R ++ [r], ?_, ?_, fun a o ha e => ?_, ?_, ?_⟩⟩)⟩
      · rw [rowsV_len]
        exact small1000 (by omega)
      · rw [List.length_append, lR]
        rfl
      · intro q hq
        rcases List.mem_append.mp hq with y | y
        · exact gR q y
        · rw [List.mem_singleton.mp y]
          exact ⟨lr, gr⟩
      · rw [upd_ne (ne_of_none e nD0)]
        exact (u3 a ha).trans (sG a o ha e)
      · exact bag_ne b3 nDb nDl
      · rw [upd_same]
        unfold rowsV
        rw [List.map_append]
        rfl
    · rintro G ⟨R, lR, gR, sG, bG, hD⟩
      refine k D R (1 + n).toNat G ⟨by omega, by omega, by omega, by omega, fun r hr => by have := (gR r hr).1; omega, fun r hr => (gR r hr).2⟩ sG bG nD0 hD
end
end Pm
namespace Pm
open PySem PySem.Spec PyProof.Rows L2 SX
/-! ### for i, x in enumerate(xs, start=1) -/
/-- the list at a, item by item, each with its number counted from 1, in a new pair -/
def ItS (K : PySem.W.Frag) (a : Addr) : It where
  go := fun i H => ∃ (xs : List V) (x : V), SqL K H a xs ∧ xs[i]? = some x
  yld := fun i H v H' => ∃ T x, v = .ref T ∧ H T = none ∧ H' = upd H T (.tup [.int ((i : Int) + 1), x]) ∧ ∀ xs, SqL K H a xs → xs[i]? = some x
  stop := fun i H => ∃ xs : List V, SqL K H a xs ∧ xs.length = i
/-- a list's draws, counted from 1 -/
theorem draws1 {prog : Program} {w : World} {A : Around} (hh : A.handled = none) (it l : Addr) (ne : l ≠ it) (xs : Array Value) :
    Draws prog w A it [it, l] (xs.size + 1) (fun i v => xs[i - 1]? = some v) (fun i h => 1 ≤ i ∧ h.IsListIter it l (i - 1) ∧ h.IsList l xs) := by
  have D := Draws.list (prog := prog) (w := w) hh it l ne xs
  refine ⟨fun i h st => D.live (i - 1) h st.2, fun i h g st k => ⟨st.1, D.frame (i - 1) h g st.2 k⟩, ?_, fun s Q E st q => D.done s Q E st.2 q⟩
  intro i s Q E lt st q
  obtain ⟨j, rfl⟩ : ∃ j, i = j + 1 := ⟨i - 1, by have := st.1; omega⟩
  exact D.item j s Q E (by omega) st.2 fun x g tk px sx sb => q x g tk px ⟨by omega, sx⟩ sb
theorem apartL {h : Heap} {a it : Addr} {xs : Array Value} {i : Nat} (isl : h.IsList a xs) (h2 : h.IsListIter it a i) : a ≠ it := fun z => by
  obtain ⟨o, y, yc, n, yd⟩ := isl
  obtain ⟨o', y', _, yd'⟩ := h2
  rw [z, y'] at y
  cases y
  rw [yd'] at yd
  cases yd
theorem apartE {h : Heap} {a e it : Addr} {xs : Array Value} {i : Int} {w : Value} (isl : h.IsList a xs) (h1 : IsEnum h e it i w) : e ≠ a := fun z => by
  obtain ⟨o, y, yc, n, yd⟩ := isl
  rw [← z, h1] at y
  cases y
  cases yd
def tnS (e it a : Addr) (i : Nat) (h : Heap) : Prop := (∃ o, IsEnum h e it ((i + 1 : Nat) : Int) o) ∧ h.IsListIter it a i ∧ e ≠ it
theorem turnS {P : Program} {w : World} {K : PySem.W.Frag} {es : List Expr} {kk : Nat} {tp : Pos} (a e it : Addr) : Turn P w K (.Tuple es kk tp) (ItS K a) [e, it] e (tnS e it a) := by
  have two : ∀ {b : Addr}, b ∈ [e, it] → b = e ∨ b = it := fun m => by simpa using m
  constructor
  case mem => exact List.mem_cons_self
  case obj =>
    rintro i h ⟨⟨o1, h1⟩, ⟨o2, h2, _, d2⟩, _⟩ b m
    rcases two m with rfl | rfl
    · exact ⟨_, h1, fun v q => nomatch q⟩
    · refine ⟨o2, h2, fun v q => ?_⟩
      rw [d2] at q
      cases q
  case keep =>
    rintro i h g ⟨⟨o1, h1⟩, h2, ne⟩ k
    exact ⟨⟨o1, k e (by simp) _ h1⟩, h2.at fun o y => k it (by simp) o y, ne⟩
  case self =>
    rintro A i s Q E ⟨⟨_, h1⟩, _⟩ q
    exact wpAny_pyIter_enum h1 q
  case done =>
    rintro X rfl rfl rfl calm i pins s σ H E I free ⟨⟨o1, h1⟩, h2, ne⟩ ⟨xs, hx, rfl⟩
    obtain ⟨us, rv, isl, _⟩ := I.list hx
    obtain ⟨f0, f1, f2, f3, f4, f5⟩ := free it (by simp)
    have D := draws1 (prog := X.prog) (w := X.w) (A := X.A.in1) (I.ok.hd calm) it a (apartL isl.isList h2) us.toArray
    have e5 : us.toArray.size = xs.length := by simpa using rv.length.symm
    rw [e5] at D
    exact wpAny_pyNext_enum_endD D h1 ⟨by omega, h2, isl.isList⟩ fun g eb => ⟨rfl, I.turned (t' := s.toks) (fun b o nb y => eb b o nb y) f0 f1 f3 f4 f5⟩
  case item =>
    rintro X rfl rfl rfl calm i pins s σ H E I free ⟨⟨o1, h1⟩, h2, ne⟩ ⟨xs, x, hx, gx⟩
    obtain ⟨us, rv, isl, _⟩ := I.list hx
    obtain ⟨u, gu, ru⟩ := rv.get gx
    have nl := apartL isl.isList h2
    have D := draws1 (prog := X.prog) (w := X.w) (A := X.A.in1) (I.ok.hd calm) it a nl us.toArray
    have big : e < s.heap.objs.size := Heap.lt_size h1
    have sz : i < us.length := by
      rcases List.getElem?_eq_some_iff.mp gu with ⟨y, _⟩
      exact y
    refine wpAny_pyNext_enum_itemD (i := i + 1) D h1 ⟨by omega, h2, isl.isList⟩ (by simpa using sz) ne (fun m => ?_) fun v g tk pv eo st gT gs gk => ?_
    · rcases List.mem_cons.mp m with z | z
      · exact ne z
      · exact apartE isl.isList h1 (List.mem_singleton.mp z)
    · have ev : v = u := by
        have y : us.toArray[i]? = some v := pv
        rw [List.getElem?_toArray, gu] at y
        exact (Option.some.inj y).symm
      subst ev
      refine ⟨_, rfl, wpAny_letOwnedTupleGo_enum (s := { s with heap := g, toks := tk + 1 }) eo fun g2 e2 sb => ?_⟩
      have T2 : g2.get? s.heap.objs.size = some { cls := .type "tuple", data := .seq #[.int ((i + 1 : Nat) : Int) tk, v] } :=
        (sb.2 _ (Nat.ne_of_gt big)).trans gT
      have fresh : H s.heap.objs.size = none := I.hok.fresh (Nat.le_refl _)
      have pair : ObjOk X.prog X.w (upd H s.heap.objs.size (.tup [.int ((i : Int) + 1), x])) g2 s.heap.objs.size (.tup [.int ((i : Int) + 1), x]) :=
        ⟨small_line (by show 2 ≤ 1000; decide), [.int ((i + 1 : Nat) : Int) tk, v], .cons ⟨_, rfl⟩ (.cons ru .nil), ⟨_, T2, rfl, _, rfl⟩⟩
      have J : L2.Inv X pins σ (upd H s.heap.objs.size (.tup [.int ((i : Int) + 1), x])) { s with heap := g2, toks := tk + 1 } :=
        I.turnedNew (ch := [e, it]) (fun b o nb y => (sb.2 b (fun z => nb (by simp [z]))).trans (gk b o (fun z => nb (by simp [z])) (fun z => nb (by simp [z])) y)) free (Nat.le_refl _) pair
      refine ⟨.ref s.heap.objs.size, _, J, rfl, ⟨_, x, rfl, fresh, rfl, fun ys hy => ?_⟩, ⟨⟨v, e2⟩, st.2.1.at fun o y => (sb.2 it (Ne.symm ne)).trans y, ne⟩, fun b m => ?_⟩
      · rw [I.list_inj hy hx]
        exact gx
      · rw [upd_ne (fun z => ?_)]
        · exact (free b m).1
        · rcases two m with y | y
          · rw [y] at z
            rw [← z] at big
            exact Nat.lt_irrefl _ big
          · have lt2 : it < s.heap.objs.size := by
              obtain ⟨_, y2, _⟩ := h2
              exact Heap.lt_size y2
            rw [y] at z
            rw [← z] at lt2
            exact Nat.lt_irrefl _ lt2
/-! ### its making -/
section
variable {M : Model} {A : Around} {E : Value → Shared → Prop} {s : Shared} {env : Env}
theorem kw_type {pos : Pos} {T : String} {e : Expr} {es : List Expr} {kws : List Keyword} {Q : Value → Shared → Prop}
    (h : wpAny M A (spliced (backTo pos (starEach (e :: es) env))) (fun us s1 => wpAny M A (evalAll ((backToKw pos (keywordEach kws env)).map (·.2)))
      (fun ks s2 => wpAny M A (call (.type T) us (((backToKw pos (keywordEach kws env)).filterMap (·.1)).zip ks)) Q E s2) E s1) E s)
    (h1 : backTo pos (starEach (e :: es) env) = (false, eval e env) :: backTo pos (starEach es env) := by rfl) (h2 : (backTo pos (starEach (e :: es) env)).any (·.1) = false := by rfl)
    (h3 : (backToKw pos (keywordEach kws env)).all (·.1.isSome) = true := by rfl) (h4 : (backToKw pos (keywordEach kws env)).any (·.1.isNone) = false := by rfl) :
    wpAny M A (callWith pos (.type T) [] (backTo pos (starEach (e :: es) env)) (backToKw pos (keywordEach kws env))) Q E s := by
  have go : wpAny M A (evalArgs (.type T) true (backTo pos (starEach (e :: es) env)) (backToKw pos (keywordEach kws env))) (fun a s1 => wpAny M A (call (.type T) ([] ++ a.pos) a.kw) Q E s1) E s := by
    rw [h1] at h ⊢
    exact evalArgs_kwB h3 h
  unfold callWith
  refine wpAny_bind (wpAny_holding (wpAny_mono go (fun a s1 r => wpAny_bind (wpAny_standAt ?_)) fun _ _ y => y))
  simp only [h2, h4, Bool.or_false]
  exact wpAny_bind (wpAny_pure (wpAny_bind (wpAny_mono r (fun u s2 q => wpAny_bind (wpAny_holding (wpAny_point (wpAny_pure q)))) fun _ _ y => y)))
end
def iEnS (K : PySem.W.Frag) (ta tk : TA) : TI := fun σ H R => ta σ H fun vs H1 => tk σ H1 fun zs H2 => ∃ a xs, vs = [.ref a] ∧ zs = [.int 1] ∧ SqL K H2 a xs ∧ R (ItS K a) H2
theorem pi_enumS {X : Cx} {e ke : Expr} {ta tk : TA} {p kp pos tp : Pos} {es : List Expr} {kk : Nat} (hg : Gl X "enumerate") (hm : X.mg "enumerate" = none) (ha : PA X [e] ta) (hk : PK X [⟨some "start", ke, kp⟩] tk)
    (h1 : backTo pos (starEach [e] X.env) = (false, eval e X.env) :: backTo pos (starEach [] X.env) := by rfl) (h2 : (backTo pos (starEach [e] X.env)).any (·.1) = false := by rfl) :
    PI X (.Tuple es kk tp) (.Call (.Name "enumerate" p) [e] [⟨some "start", ke, kp⟩] pos) (iEnS X.K ta tk) := by
  refine ⟨fun pins s σ H R I h => ?_⟩
  refine wpAny_Call_Name_kw (ld_blt I hg hm boot_enumerate (kw_type (thn (ha.run pos pins s σ H _ I h) fun us s1 ⟨vs, H1, I1, r1, q1⟩ => thn (hk.run pos pins s1 σ H1 _ I1 q1) fun ks s2 ⟨zs, H2, I2, r2, a, xs, ev, ez, hx, q⟩ => ?_) h1 h2) (by decide) (by decide))
  subst ev ez
  match r1, r2 with
  | .cons ra .nil, .cons rk .nil =>
    cases ra
    obtain ⟨t, rfl⟩ := rk
    obtain ⟨vals, rv, isl, _⟩ := I2.list hx
    refine enum_begins_start (begins_list a vals.toArray) isl.isList (by decide) (by decide) fun g he hi hz hk2 => wpAny_pyIter_enum he ?_
    have J : L2.Inv X pins σ H2 { s2 with heap := g } := I2.kept (t' := s2.toks) hk2
    refine ⟨s2.heap.objs.size + 1, [s2.heap.objs.size + 1, s2.heap.objs.size], _, ItS X.K a, H2, rfl, J, turnS a (s2.heap.objs.size + 1) s2.heap.objs.size, ⟨⟨.none, he⟩, ⟨_, hi, rfl, rfl⟩, Nat.succ_ne_self _⟩, fun b m => ?_, q⟩
    have le : s2.heap.objs.size ≤ b := by
      rcases List.mem_cons.mp m with y | y
      · rw [y]
        exact Nat.le_succ _
      · rw [List.mem_singleton.mp y]
        exact Nat.le_refl _
    exact I2.fpOk le (I2.hok.fresh le)
end Pm
namespace Pm
open PySem PySem.Spec PyProof.Rows L2 SX
/-! ### which rows are good -/
def stoneB : List Nat → Bool
  | [c] => decide (Let c)
  | _ => false
def goodB : List Nat → Bool
  | [c] => decide (Good c)
  | _ => false
def okB (w : Int) (z : List Nat) : Bool := (decide (1 ≤ z.length) && decide (z.length ≤ 8) && decide ((z.length : Int) = w)) && z.all fun c => decide (Good c)
def lineOf : Rows → Int
  | [] => 1
  | r :: R => match ((r :: R).take 8).findIdx? (fun z => !okB (r.length : Int) z) with
    | some i => (i : Int) + 1
    | none => if 8 < (r :: R).length then 9 else 0
structure PTxt (K : PySem.W.Frag) (mg : Str → Option Value) (C : Addr) : Prop where
  gC : mg "Picture" = some (.ref C)
  cr : ∃ mc, ClX.CRead K C mc ∧ (∃ u, ClX.CVal K C mc "HOLE" (.str ".") u) ∧ ∃ u, ClX.CVal K C mc "EDGE" (.str "#") u
  stones : ∃ u, mg "STONES" = some u ∧ RelV (.str alphaS) u
  most : ∃ u, mg "MOST" = some u ∧ RelV (.int 8) u
  all : mg "all" = none
  enum : mg "enumerate" = none
theorem len_one {z : List Nat} (h : z.length = 1) : ∃ c, z = [c] := match z, h with | [c], _ => ⟨c, rfl⟩
theorem stoneB_ne {z : List Nat} (h : z.length ≠ 1) : stoneB z = false := by
  match z, h with
  | [], _ => rfl
  | [_], h => exact absurd rfl h
  | _ :: _ :: _, _ => rfl
theorem goodB_ne {z : List Nat} (h : z.length ≠ 1) : goodB z = false := by
  match z, h with
  | [], _ => rfl
  | [_], h => exact absurd rfl h
  | _ :: _ :: _, _ => rfl
section
variable {P : Program} {w : World} {K : PySem.W.Frag} {mg : Str → Option Value} {base : Heap} {C : Addr}
def spStone : Sp := fun vs H Q _ => ∃ z, vs = [.str (S z)] ∧ z.length ≤ 1000 ∧ Q (.bl (stoneB z)) H
theorem scStone : FnScope ["sign"] ["sign"] (defScope gIsStone) := ⟨rfl, rfl, rfl, by decide +kernel, rfl, by decide +kernel, by decide +kernel⟩
theorem ok_stone {f : Addr} {fd : FuncData} (F : Fun K "is_stone" "is_stone" gIsStone f fd) (L : LTxt K mg) (T : PTxt K mg C) : FnOk P w K mg base CX0 1 f fd ["sign"] spStone := by
  refine F.ok scStone (fun vs H Q E h => ?_) (fun cdv A outer s H vs Q E hr h => ?_)
  · obtain ⟨z, rfl, _⟩ := h
    rfl
  · obtain ⟨z, rfl, few, k⟩ := h
    obtain ⟨u, hu, ru⟩ := T.stones
    refine ⟨_, pss_one (ps_ret (pe_and (pe_cmpR op_eq (pe_callB call_len_str (by rfl) L.len PySem.boot_len (pa_cons (pv 0) pa_nil)) pe_int (nomark _)) (pe_one (pe_cmpR op_in_sign (pv 0) (pe_glob (by rfl) hu ru) (by rfl))))), ?_⟩
    refine ⟨_, rfl, _, rfl, by rw [len_S]; exact small_line few, rfl, _, rfl, ite2 (fun e => ?_) (fun e => ?_)⟩
    · have e1 : z.length = 1 := by
        have := of_decide_eq_true e
        simp only [V.int.injEq] at this
        rw [len_S] at this
        omega
      obtain ⟨c, rfl⟩ := len_one e1
      refine ⟨_, rfl, c, _, rfl, rfl, ?_⟩
      have y : decide (c ∈ alphaS.cps.toList) = stoneB [c] := decide_eq_decide.mpr (alpha_mem c)
      rw [y]
      exact k
    · have e1 : z.length ≠ 1 := fun y => e (decide_eq_true (by rw [len_S, y]; rfl))
      rw [stoneB_ne e1] at k
      exact k
def spSoh : Sp := fun vs H Q _ => ∃ z, vs = [.str (S z)] ∧ z.length ≤ 1000 ∧ Q (.bl (goodB z)) H
theorem scSoh : FnScope ["sign"] ["sign"] (defScope gIsStoneOrHole) := ⟨rfl, rfl, rfl, by decide +kernel, rfl, by decide +kernel, by decide +kernel⟩
theorem ok_soh {f g : Addr} {fd gd : FuncData} (F : Fun K "is_stone_or_hole" "is_stone_or_hole" gIsStoneOrHole f fd) (G : Cl P w K mg base CX0 1 "is_stone" ["sign"] spStone g gd) (T : PTxt K mg C) : FnOk P w K mg base CX0 2 f fd ["sign"] spSoh := by
  refine F.ok scSoh (fun vs H Q E h => ?_) (fun cdv A outer s H vs Q E hr h => ?_)
  · obtain ⟨z, rfl, _⟩ := h
    rfl
  · obtain ⟨z, rfl, few, k⟩ := h
    obtain ⟨mc, cr, ⟨u, hu⟩, _⟩ := T.cr
    refine ⟨_, pss_one (ps_ret (pe_or (pe_cmpR op_eq (pv 0) (ClX.pe_cval (pe_glob (v := .ref C) (by rfl) T.gC rfl)) (nomark _)) (pe_one (pe_call G.ok hr (by rfl) G.gl G.kp G.bd .nil pass0 (pa_cons (pv 0) pa_nil))))), ?_⟩
    refine ⟨_, rfl, C, mc, _, u, rfl, cr, hu, rfl, _, rfl, ite2 (fun e => ?_) (fun e => ⟨_, rfl, z, rfl, few, ?_⟩)⟩
    · have e1 : z = [46] := by
        have := of_decide_eq_true e
        simp only [V.str.injEq] at this
        rw [dot_S] at this
        exact S_inj this
      subst e1
      exact k
    · have e1 : z ≠ [46] := fun y => e (decide_eq_true (by rw [y, dot_S]))
      have e2 : stoneB z = goodB z := by
        by_cases l1 : z.length = 1
        · obtain ⟨c, rfl⟩ := len_one l1
          refine decide_eq_decide.mpr ⟨.inr, fun y => ?_⟩
          rcases y with y | y
          · exact absurd (by rw [y]) e1
          · exact y
        · rw [stoneB_ne l1, goodB_ne l1]
      rw [e2]
      exact k
/-! ### a bad row -/
def spBad : Sp := fun vs H Q _ => ∃ z w, vs = [.str (S z), .int w] ∧ z.length ≤ 1000 ∧ ∀ H', Same H H' → Q (.bl (!okB w z)) H'
abbrev nBad : List Str := ["row", "width", "sign"]
theorem scBad : FnScope nBad ["row", "width"] (defScope gIsBadRow) := ⟨rfl, rfl, rfl, by decide +kernel, rfl, by decide +kernel, by decide +kernel⟩
theorem all_good (z : List Nat) : (z.map fun c => goodB [c]).all id = z.all fun c => decide (Good c) := by
  rw [List.all_map]
  rfl
theorem ok_bad {f g : Addr} {fd gd : FuncData} (F : Fun K "_is_bad_row" "_is_bad_row" gIsBadRow f fd) (G : Cl P w K mg base CX0 2 "is_stone_or_hole" ["sign"] spSoh g gd) (L : LTxt K mg) (T : PTxt K mg C) : FnOk P w K mg base CX0 3 f fd ["row", "width"] spBad := by
  refine F.ok scBad (fun vs H Q E h => ?_) (fun cdv A outer s H vs Q E hr h => ?_)
  · obtain ⟨z, w, rfl, _⟩ := h
    rfl
  · obtain ⟨z, w, rfl, few, k⟩ := h
    obtain ⟨um, hm, rm⟩ := T.most
    refine ⟨_, pss_cons (ps_if (PW.pt (pw_or (pt_not (pt_chain op_le op_le pe_int (pe_callB call_len_str (by rfl) L.len PySem.boot_len (pa_cons (pv 0) pa_nil)) (pe_glob (by rfl) hm rm))) (pw_or1 (pt_cmpR op_ne (pe_callB call_len_str (by rfl) L.len PySem.boot_len (pa_cons (pv 0) pa_nil)) (pv 1) (nomark _))))) (pss_one (ps_ret pe_bl)) pss_nil)
      (pss_one (ps_ret (pe_not (pe_callB (cr_all rfl) (by rfl) T.all (by decide +kernel) (pa_cons (pe_lc (own := [("sign", 2)]) (g := gName 2) (tt := tYes) rfl scBad.nd (pi_str (pv 0)) (blkOk_by (N := nBad) (sc := defScope gIsBadRow) (by decide +kernel)) (fun _ _ _ _ _ => pg_name (i := 2) scBad.nd rfl (.inl rfl)) (fun _ _ _ _ _ => pts_nil)
        (fun _ _ _ _ _ => pe_call G.ok hr (by rfl) G.gl G.kp G.bd .nil pass0 (pa_cons (pv 2) pa_nil))) pa_nil))))), ?_⟩
    have line : (S z).length ≤ sizeLine := by rw [len_S]; exact small_line few
    have body : okB w z = (z.all fun c => decide (Good c)) → ∀ H1, Same H H1 → Q (.bl (!(z.all fun c => decide (Good c)))) H1 := fun e H1 s1 => by
      rw [← e]
      exact k H1 s1
    -- what stands behind the test, where it does not hold
    have go : (1 ≤ z.length ∧ z.length ≤ 8 ∧ (z.length : Int) = w) → okB w z = (z.all fun c => decide (Good c)) := fun ⟨a, b, c⟩ => by
      unfold okB
      rw [decide_eq_true a, decide_eq_true b, decide_eq_true c]
      rfl
    have no : ¬ (1 ≤ z.length ∧ z.length ≤ 8 ∧ (z.length : Int) = w) → okB w z = false := fun y => by
      unfold okB
      by_cases a : 1 ≤ z.length
      · by_cases b : z.length ≤ 8
        · by_cases c : (z.length : Int) = w
          · exact absurd ⟨a, b, c⟩ y
          · rw [decide_eq_false c, Bool.and_false]
            rfl
        · rw [decide_eq_false b, Bool.and_false]
          rfl
      · rw [decide_eq_false a]
        rfl
    have yes : ¬ (1 ≤ z.length ∧ z.length ≤ 8 ∧ (z.length : Int) = w) → Q (.bl true) H := fun y => by
      have q := k H (Same.refl H)
      rw [no y] at q
      exact q
    refine ⟨_, rfl, _, rfl, line, _, _, rfl, rfl, _, rfl, ite2 (fun a => ?_) (fun a => ?_)⟩
    · have a1 : 1 ≤ z.length := by
        have y := of_decide_eq_true a
        rw [len_S] at y
        omega
      refine ⟨_, _, rfl, rfl, _, rfl, ?_⟩
      by_cases b : z.length ≤ 8
      · refine iteFe (by rw [len_S]; simp; omega) ⟨_, rfl, _, rfl, line, _, rfl, rfl, _, rfl, ?_⟩
        by_cases c : (z.length : Int) = w
        · refine iteFe (by rw [len_S]; simp [c]) ⟨_, rfl, _, rfl, fun D nD => lc_it walk_str (fun i G => Same H G ∧ G D = some (.lst (((z.take i).map fun c => goodB [c]).map V.bl))) ⟨same_upd nD, upd_same⟩ (fun _ _ _ _ => trivial) ?_ ?_⟩
          · rintro i x G G' hi ⟨sG, hD⟩ ⟨rfl, d, gd, rfl⟩
            have gd2 : z[i]? = some d := by
              have y : z.toArray[i]? = some d := gd
              rwa [List.getElem?_toArray] at y
            refine ⟨rfl, tyes (iteT ⟨_, rfl, [d], rfl, (show 1 ≤ 1000 by decide), _, hD, ?_, ?_, ?_⟩)⟩
            · rw [List.length_map, List.length_map, List.length_take]
              exact small1000 (by omega)
            · exact fun b o e => by
                rw [upd_ne (ne_of_none e nD)]
                exact sG b o e
            · rw [upd_same, List.take_add_one, gd2]
              simp
          · rintro G ⟨sG, hD⟩
            have e1 : (S z).cps.size = z.length := by simp
            rw [e1, List.take_of_length_le (Nat.le_refl _)] at hD
            refine ⟨D, _, rfl, SqL.of hD, _, rfl, ?_⟩
            rw [all_good]
            exact body (go ⟨a1, b, c⟩) G sG
        · exact iteTe (by rw [len_S]; simp [c]) (yes fun y => c y.2.2)
      · exact iteTe (by rw [len_S]; simp; omega) (iteT (yes fun y => b y.2.1))
    · refine ⟨_, rfl, iteT (iteT (yes fun y => a (decide_eq_true ?_)))⟩
      rw [len_S]
      have := y.1
      omega
/-! ### the first bad line -/
def spLine : Sp := fun vs H Q _ => ∃ a R, vs = [.ref a] ∧ H a = some (.lst (rowsV R)) ∧ R.length ≤ 1000 ∧ (∀ r ∈ R, r.length ≤ 1000) ∧ ∀ H', Same H H' → Q (.int (lineOf R)) H'
theorem scLine : FnScope ["rows", "line", "row"] ["rows"] (defScope gBadLine) := ⟨rfl, rfl, rfl, by decide +kernel, rfl, by decide +kernel, by decide +kernel⟩
theorem walkS {K : PySem.W.Frag} {a : Addr} {xs : List V} : Walk (ItS K a) xs.length (fun H => SqL K H a xs) (fun i H v H' => ∃ T x, v = .ref T ∧ H T = none ∧ H' = upd H T (.tup [.int ((i : Int) + 1), x]) ∧ xs[i]? = some x) :=
  ⟨fun i H hi h => ⟨xs, xs[i], h, List.getElem?_eq_getElem hi⟩, fun H h => ⟨xs, h, rfl⟩, fun i H v H' _ h ⟨T, x, a, b, c, d⟩ => ⟨T, x, a, b, c, d xs h⟩⟩
theorem row0 (r : List Nat) (R : Rows) : atI (rowsV (r :: R)) 0 = some (.str (S r)) := atI_nat (j := 0) (by rfl)
theorem rowsV_at {R : Rows} {i : Nat} {x : V} (h : (rowsV R)[i]? = some x) : ∃ r, R[i]? = some r ∧ x = .str (S r) := by
  unfold rowsV at h
  rw [List.getElem?_map] at h
  cases e : R[i]? with
  | none =>
    rw [e] at h
    cases h
  | some r =>
    rw [e] at h
    cases h
    exact ⟨r, rfl, rfl⟩
theorem lineOf_cons {r : List Nat} {R : Rows} : lineOf (r :: R) = match ((r :: R).take 8).findIdx? (fun z => !okB (r.length : Int) z) with
    | some i => (i : Int) + 1
    | none => if 8 < (r :: R).length then 9 else 0 := rfl
theorem find_some {p : List Nat → Bool} : ∀ {l : Rows} {i : Nat} {z : List Nat}, l[i]? = some z → p z = true → (∀ j y, j < i → l[j]? = some y → p y = false) → l.findIdx? p = some i
  | [], i, z, h, _, _ => by simp at h
  | y :: l, 0, z, h, hz, _ => by
    have e : y = z := by simpa using h
    subst e
    rw [List.findIdx?_cons, hz]
    rfl
  | y :: l, i + 1, z, h, hz, hp => by
    have e := find_some (l := l) (i := i) (z := z) (by simpa using h) hz fun j x hj hx => hp (j + 1) x (by omega) (by simpa using hx)
    rw [List.findIdx?_cons, hp 0 y (by omega) rfl, e]
    rfl
theorem find_none {p : List Nat → Bool} {l : Rows} (h : ∀ (j : Nat) (y : List Nat), l[j]? = some y → p y = false) : l.findIdx? p = none := by
  rw [List.findIdx?_eq_none_iff]
  intro x hx
  obtain ⟨j, hj⟩ := List.mem_iff_getElem?.mp hx
  exact h j x hj
theorem ok_line {f g : Addr} {fd gd : FuncData} (F : Fun K "_bad_line" "_bad_line" gBadLine f fd) (G : Cl P w K mg base CX0 3 "_is_bad_row" ["row", "width"] spBad g gd) (L : LTxt K mg) (T : PTxt K mg C) : FnOk P w K mg base CX0 4 f fd ["rows"] spLine := by
  refine F.ok scLine (fun vs H Q E h => ?_) (fun cdv A outer s H vs Q E hr h => ?_)
  · obtain ⟨a, R, rfl, _⟩ := h
    rfl
  · obtain ⟨a, R, rfl, ha, few, each, k⟩ := h
    obtain ⟨um, hm, rm⟩ := T.most
    refine ⟨_, pss_cons (ps_if (pt_not (pt_truth (pv 0) (fun _ => rfl))) (pss_one (ps_ret pe_int)) pss_nil)
      (pss_cons (ps_for PassesOwn.never rfl (pi_enumS (by rfl) T.enum (pa_cons (pe_slice sl_list (pv 0) po_none (po_some (pe_glob (by rfl) hm rm))) pa_nil) (pk_cons pe_int pk_nil)) (pg_tup rfl (pgs_cons (pg_name (i := 1) scLine.nd rfl (.inl rfl)) (pgs_cons (pg_name (i := 2) scLine.nd rfl (.inl rfl)) pgs_nil)))
        (pss_one (ps_if (pt_val (pe_call G.ok hr (by rfl) G.gl G.kp G.bd .nil pass0 (pa_cons (pv 2) (pa_cons (pe_callB call_len_str (by rfl) L.len PySem.boot_len (pa_cons (pe_ix ix_list (pv 0) pe_int (fun _ _ => rfl)) pa_nil)) pa_nil)))) (pss_one (ps_ret (pv 1))) pss_nil)))
      (pss_one (ps_ret (pe_ifExp (pt_cmpR op_gt (pe_callB call_len_seq (by rfl) L.len PySem.boot_len (pa_cons (pv 0) pa_nil)) (pe_glob (by rfl) hm rm) (nomark _)) (pe_op op_add (pe_glob (by rfl) hm rm) pe_int) pe_int)))), ?_⟩
    match R, ha, few, each, k with
    | [], ha, few, each, k =>
      exact ⟨_, rfl, _, .inl ⟨_, SqL.of ha, rfl⟩, iteT (k H (Same.refl H))⟩
    | r :: R, ha, few, each, k =>
      refine ⟨_, rfl, _, .inl ⟨_, SqL.of ha, rfl⟩, iteF ?_⟩
      refine ⟨_, rfl, _, rfl, a, _, rfl, SqL.of ha, fun p np => ?_⟩
      have e8 : cutV (rowsV (r :: R)) none (some 8) = rowsV ((r :: R).take 8) := by
        rw [show (some 8 : Option Int) = some ((8 : Nat) : Int) from rfl, cut_to]
        exact (List.map_take).symm
      rw [e8]
      have s1 := same_upd (o := .lst (rowsV ((r :: R).take 8))) np
      have hp : (upd H p (.lst (rowsV ((r :: R).take 8)))) p = some (.lst (rowsV ((r :: R).take 8))) := upd_same
      generalize upd H p (.lst (rowsV ((r :: R).take 8))) = H1 at s1 hp
      refine ⟨p, _, rfl, rfl, SqL.of hp, for_it walkS (fun i σ G => ∃ y z, σ = [some (.ref a), y, z] ∧ Same H1 G ∧ ∀ j x, j < i → ((r :: R).take 8)[j]? = some x → okB (r.length : Int) x = true) ⟨_, _, rfl, Same.refl _, fun j x hj => absurd hj (by omega)⟩ (fun i σ G _ ⟨_, _, _, sG, _⟩ => SqL.of (sG _ _ hp)) ?_ ?_⟩
      · rintro i x σ G G' hi ⟨y, z, rfl, sG, ok⟩ ⟨T1, x1, rfl, nT, rfl, gx⟩
        obtain ⟨q, gq, rfl⟩ := rowsV_at gx
        have s2 := sG.trans (same_upd (o := .tup [.int ((i : Int) + 1), .str (S q)]) nT)
        refine ⟨T1, _, rfl, SqT.of upd_same, rfl, _, _, rfl, _, _, rfl, rfl, ?_⟩
        have mq : q ∈ r :: R := List.mem_of_mem_take (List.mem_of_getElem? gq)
        refine ⟨_, rfl, _, rfl, a, _, 0, _, rfl, rfl, SqL.of (s2 _ _ (s1 _ _ ha)), row0 r R, _, rfl, by rw [len_S]; exact small_line (each r List.mem_cons_self), q, _, rfl, each q mq, fun G2 sg => ⟨_, rfl, ?_⟩⟩
        rw [len_S]
        by_cases b : okB (r.length : Int) q = true
        · rw [b]
          refine iteF ⟨_, _, rfl, s2.trans sg, fun j x hj hx => ?_⟩
          rcases Nat.lt_succ_iff_lt_or_eq.mp hj with z | z
          · exact ok j x z hx
          · rw [z, gq] at hx
            cases hx
            exact b
        · have b : okB (r.length : Int) q = false := by simpa using b
          rw [b]
          refine iteT ⟨_, rfl, ?_⟩
          have e : lineOf (r :: R) = (i : Int) + 1 := by
            rw [lineOf_cons, find_some gq (by rw [b]; rfl) fun j y hj hy => by rw [ok j y hj hy]; rfl]
          have q2 := k G2 (s1.trans (s2.trans sg))
          rw [e] at q2
          exact q2
      · rintro σ G ⟨y, z, rfl, sG, ok⟩
        have e : lineOf (r :: R) = if 8 < (r :: R).length then 9 else 0 := by
          rw [lineOf_cons, find_none fun j y hy => by
            rw [ok j y ?_ hy]
            · rfl
            · rw [rowsV_len]
              rcases List.getElem?_eq_some_iff.mp hy with ⟨h1, _⟩
              exact h1]
        have q2 := k G (s1.trans sG)
        rw [e] at q2
        refine ⟨_, rfl, a, _, rfl, .inl (SqL.of (sG _ _ (s1 _ _ ha))), _, _, rfl, rfl, _, rfl, ?_⟩
        rw [rowsV_len]
        by_cases b : 8 < (r :: R).length
        · rw [if_pos b] at q2
          exact iteTe (decide_eq_true (by omega)) ⟨_, _, rfl, rfl, q2⟩
        · rw [if_neg b] at q2
          exact iteFe (decide_eq_false (by omega)) q2
end
end Pm
namespace Pm
open PySem PySem.Spec PyProof.Rows L2 SX
/-! ### errors that are raised with fields of their own -/
/-- an error class at C that may be raised: its __init__ at f keeps sp -/
structure EMk (P : Program) (w : World) (K : PySem.W.Frag) (mg : Str → Option Value) (base : Heap) (C : Addr) (name : Str) (ps : List Str) (sp : Sp) (f : Addr) (fd : FuncData) : Prop where
  T : OexC K C
  at_ : PySem.W.findIn K (.ref C) "__init__" = some (some (.ref f))
  ty : PySem.W.typeIn K (.ref f) = some (.type "function")
  ok : FnOk P w K mg base CX0 1 f fd ps sp
  bd : Binds K fd ps []
  gl : mg name = some (.ref C)
def spE1 (C : Addr) (n : Str) : Sp := fun vs H Q _ => ∃ a v, vs = [.ref a, v] ∧ H a = some (exo a C none) ∧ ∀ H' d, H' a = some (exo a C (some d)) → H' d = some (exd d [(n, v)]) → H d = none → d ≠ a → SameBut a H H' → Q .non H'
def spE2 (C : Addr) : Sp := fun vs H Q _ => ∃ a v u, vs = [.ref a, v, u] ∧ H a = some (exo a C none) ∧ ∀ H' d, H' a = some (exo a C (some d)) → H' d = some (exd d [("y", u), ("x", v)]) → H d = none → d ≠ a → SameBut a H H' → Q .non H'
/-- what was there stands when the error is on its way -/
theorem on_way {H H2 : Hp} {a d : Addr} {o : HO} {fs : List (Str × V)} (n : H a = none) (nd : (upd H a o) d = none) (ne : d ≠ a) (s : SameBut a (upd H a o) H2) : Same H (upd (del H2 a) d (.xd fs)) := fun b u e => by
  have nba : b ≠ a := ne_of_none e n
  have nbd : b ≠ d := fun z => by
    rw [z] at e
    rw [upd_ne ne, e] at nd
    cases nd
  rw [upd_ne nbd, del_ne nba]
  exact s b u nba (by rw [upd_ne nba]; exact e)
theorem passF {X : Cx} : Passes (L2.CX X.prog X.w) X E0 := fun _ _ _ _ _ _ _ c => by
  obtain ⟨_, _, _, _, _, _, _, _, _, _, _, _, z⟩ := c
  exact z.elim
/-- an error of the class at C with the fields fs is let out -/
def Lets (E : XK) (C : Addr) (fs : List (Str × V)) (H : Hp) : Prop := ∀ d H', H d = none → H' d = some (.xd fs) → Same H H' → E (.ref C) (some d) H'
/-! ### the error that a suite holds -/
structure ErrC (K : PySem.W.Frag) (D : Addr) : Prop where
  cl : (PySem.W.clsIn K D).isSome = true
  hg : PySem.W.findIn K (.ref D) "__getattribute__" = some (some (.builtin "BaseException.__getattribute__"))
  hk : PySem.W.findIn K (.ref D) "__getattr__" = some none
  hs : PySem.W.subIn K (.ref D) (.type "BaseException") = some true
  ha : PySem.W.findIn K (.ref D) "__class__" = some (some (.builtin "object.__class__"))
  hn : PySem.W.specialIn K (.builtin "object.__class__") "__get__" = some (some (.builtin "getset_descriptor.__get__"))
  ht : PySem.W.takesIn K (.builtin "object.__class__") = some true
  hm : PySem.W.mroIn K D (.type "object") = some true
  hd : PySem.W.hasDictIn K D = true
theorem ErrC.xf {K : PySem.W.Frag} {D : Addr} (C : ErrC K D) : XfC K D := ⟨C.hg, C.hk, C.hs, C.hd⟩
/-- isinstance(e, c), e the error that the suite holds at a, its class cls, its dict d -/
def rIsX (K : PySem.W.Frag) (a : Addr) (cls : Value) (d : Option Addr) : List V → Hp → VK → Prop := fun xs H Q => ∃ (D dd : Addr) (fs : List (Str × V)) (c : V) (cv : Value) (b : Bool),
  xs = [.ref a, c] ∧ cls = .ref D ∧ d = some dd ∧ ErrC K D ∧ H dd = some (.xd fs) ∧ (∀ u, RelV c u → u = cv) ∧ PySem.W.kitOne K (.ref D) cv = some b ∧ Q (.bl b) H
theorem call_isX {X : Cx} {a : Addr} {cls : Value} {d : Option Addr} {oe : Obj} {pn : List (Addr × Obj)} (hz : Zc cls d oe) (hf : ∃ vs, oe.data = .fields vs) : CallR (X.suite a ((a, oe) :: pn)) (.builtin "isinstance") (rIsX X.K a cls d) := by
  intro pins s σ H xs us Q I r h
  obtain ⟨D, dd, fs, c, cv, b, rfl, rfl, rfl, C, hdd, hcv, e, q⟩ := h
  match r with
  | .cons rx (.cons rt .nil) =>
    cases rx
    cases hcv _ rt
    obtain ⟨at_, _⟩ := I.pin (a, oe) (List.mem_append_left _ List.mem_cons_self)
    obtain ⟨vs, hd⟩ := hf
    have own : ObjOk X.prog X.w H s.heap dd (.xd fs) := I.hok dd _ hdd
    obtain ⟨mA, hns, _⟩ := own
    obtain ⟨od, ho, _⟩ := lookIn_ns hns
    have J : PySem.W.InstAt s.heap a oe D (some od) := ⟨at_, hz.1, by unfold PySem.W.notCls; rw [hd] <;> rfl, by rw [hz.2]; exact ho⟩
    exact PySem.W.kia_one (PySem.W.kitx_exc C.cl C.hg C.hk C.hs C.ha C.hn C.ht C.hm) I.kIn J e (fun z => nomatch z) fun tk => ⟨.bl b, H, I.kept (t' := tk) fun _ _ z => z, rfl, q⟩
/-- e.f of that error, whatever its class -/
def tErrX (K : PySem.W.Frag) (a : Addr) (cls : Value) (d : Option Addr) (f : Str) (te : TE) : TE := fun σ H Q => te σ H fun x H1 => ∃ (D dd : Addr) (fs : List (Str × V)) (v : V), x = .ref a ∧ cls = .ref D ∧ d = some dd ∧ ErrC K D ∧ PySem.W.findIn K (.ref D) f = some none ∧ H1 dd = some (.xd fs) ∧ fs.lookup f = some v ∧ Q v H1
theorem pe_errX {X : Cx} {a : Addr} {oe : Obj} {cls : Value} {d : Option Addr} {pn : List (Addr × Obj)} {e : Expr} {te : TE} {pos : Pos} {n : Str} (hz : Zc cls d oe) (hf : ∃ vs, oe.data = .fields vs) (he : PE (X.suite a ((a, oe) :: pn)) e te)
    (hb : attributeBase e n X.env (eval e X.env) = eval e X.env := by rfl) : PE (X.suite a ((a, oe) :: pn)) (.Attribute e n pos) (tErrX X.K a cls d n te) := by
  refine ⟨fun pins s σ H Q I h => attr_of hb (thn (he.run pins s σ H _ I h) fun u s1 ⟨x, H1, I1, rx, D, dd, fs, v, ex, ec, ed, C, hno, hdd, l, q⟩ => ?_)⟩
  subst ex ec ed
  obtain rfl : u = Value.ref a := rx
  obtain ⟨at_, _⟩ := I1.pin (a, oe) (List.mem_append_left _ List.mem_cons_self)
  obtain ⟨vs, hd⟩ := hf
  have own : ObjOk X.prog X.w H1 s1.heap dd (.xd fs) := I1.hok dd _ hdd
  obtain ⟨mA, hns, rel⟩ := own
  obtain ⟨od, ho, hl⟩ := lookIn_ns hns
  have rl := rel n
  rw [l] at rl
  obtain ⟨u, hu, ru⟩ := RelO.some_of (v := v) (o := mA n) rl
  have J : PySem.W.InstAt s1.heap a oe D (some od) := ⟨at_, hz.1, by unfold PySem.W.notCls; rw [hd] <;> rfl, by rw [hz.2]; exact ho⟩
  exact HandSPX.exc_get I1.kIn J C.hg C.hk C.hs (PySem.W.findObj_own C.hd hno rfl (by rw [hl, hu])) (handed_of ru) ⟨v, H1, I1.tok _, ru, q⟩
end Pm
namespace Pm
open PySem PySem.Spec PyProof.Rows L2 SX
section
variable {P : Program} {w : World} {K : PySem.W.Frag} {mg : Str → Option Value} {base : Heap} {C CI : Addr}
theorem scEInvalidPicture : FnScope ["self", "line"] ["self", "line"] (defScope cInvalidPictureInit) := ⟨rfl, rfl, rfl, by decide +kernel, rfl, by decide +kernel, by decide +kernel⟩
theorem okEInvalidPicture {f C : Addr} {fd : FuncData} (F : Fun K "__init__" "InvalidPicture.__init__" cInvalidPictureInit f fd) (T : OexC K C) (nx : PySem.W.findIn K (.ref C) "line" = some none) : FnOk P w K mg base CX0 1 f fd ["self", "line"] (spE1 C "line") := by
  refine F.ok scEInvalidPicture (fun vs H Q E h => ?_) (fun cdv A outer s H vs Q E hr h => ?_)
  · obtain ⟨a, v, rfl, _⟩ := h
    rfl
  · obtain ⟨a, v, rfl, ha, k⟩ := h
    refine ⟨_, pss_one (ps_ost (pv 0) (pv 1)), ?_⟩
    refine ⟨_, rfl, _, rfl, a, C, rfl, T, nx, .inl ⟨ha, fun dx nd ne => ?_⟩⟩
    refine k _ dx upd_same (by rw [upd_ne ne, upd_same]) nd ne fun b o nb e => ?_
    rw [upd_ne nb, upd_ne (ne_of_none e nd)]
    exact e
/-! ### a picture -/
def wideOf (R : Rows) : Int := ((R.headD []).length : Int)
def PicAt (C : Addr) (H : Hp) (r : Addr) (R : Rows) : Prop := ∃ dx l, H r = some (.ins C dx [("_rows", .ref l), ("width", .int (wideOf R)), ("height", .int (R.length : Int))]) ∧ H l = some (.lst (rowsV R))
structure PCls (K : PySem.W.Frag) (C : Addr) : Prop where
  cl : L2.Cls K C
  nR : NoAttr K C "_rows"
  nW : NoAttr K C "width"
  nH : NoAttr K C "height"
def spInit (C CI : Addr) : Sp := fun vs H Q E => ∃ r dx a R, vs = [.ref r, .ref a] ∧ H r = some (.ins C dx []) ∧ H a = some (.lst (rowsV R)) ∧ R.length ≤ 1000 ∧ (∀ z ∈ R, z.length ≤ 1000) ∧
  (0 < lineOf R → Lets E CI [("line", .int (lineOf R))] H) ∧ (lineOf R = 0 → ∀ H', PicAt C H' r R → SameBut r H H' → Q .non H')
theorem lineOf_nonneg (R : Rows) : 0 ≤ lineOf R := by
  match R with
  | [] => exact Int.le_of_lt (by decide)
  | r :: R =>
    rw [lineOf_cons]
    split
    · exact Int.add_nonneg (Int.natCast_nonneg _) (by decide)
    · split <;> decide
theorem scInit : FnScope ["self", "rows", "line"] ["self", "rows"] (defScope cPictureInit) := ⟨rfl, rfl, rfl, by decide +kernel, rfl, by decide +kernel, by decide +kernel⟩
theorem ok_init {f g e : Addr} {fd gd ed : FuncData} (F : Fun K "__init__" "Picture.__init__" cPictureInit f fd) (G : Cl P w K mg base CX0 4 "_bad_line" ["rows"] spLine g gd) (Ex : EMk P w K mg base CI "InvalidPicture" ["self", "line"] (spE1 CI "line") e ed) (L : LTxt K mg) (T : PCls K C) :
    FnOk P w K mg base (L2.CX P w) 5 f fd ["self", "rows"] (spInit C CI) := by
  refine F.okX scInit (fun vs H Q E h => ?_) (fun cdv A outer s H vs Q E hr h => ?_)
  · obtain ⟨r, dx, a, R, rfl, _⟩ := h
    rfl
  · obtain ⟨r, dx, a, R, rfl, hR, ha, few, each, bad, good⟩ := h
    refine ⟨_, pss_cons (ps_set (i := 2) scInit.nd rfl (.inl rfl) (pe_call G.ok hr (by rfl) G.gl G.kp G.bd .nil pass0 (pa_cons (pv 1) pa_nil)))
      (pss_cons (ps_if (pt_cmpR op_gt (pv 2) pe_int (nomark _)) (pss_one (ps_raise rfl (takes_of rfl rfl rfl rfl) (pmk_oex Ex.T Ex.at_ Ex.ty Ex.ok (hr.mono (by decide)) Ex.bd .nil pass0 (by rfl) Ex.gl (pa_cons (pv 2) pa_nil)))) pss_nil)
      (pss_cons (ps_fld (pv 0) (pe_callTy call_list_of (by rfl) L.lst (by decide +kernel) (pa_cons (pv 1) pa_nil)) rfl)
      (pss_cons (ps_fld (pv 0) (pe_callB call_len_str (by rfl) L.len PySem.boot_len (pa_cons (pe_ix ix_list (pv 1) pe_int (fun _ _ => rfl)) pa_nil)) rfl)
      (pss_one (ps_fld (pv 0) (pe_callB call_len_seq (by rfl) L.len PySem.boot_len (pa_cons (pv 1) pa_nil)) rfl))))), ?_⟩
    refine ⟨_, rfl, a, R, rfl, ha, few, each, fun H1 s1 => ?_⟩
    refine ⟨_, rfl, _, _, rfl, rfl, _, rfl, ite2 (fun p => ?_) (fun p => ?_)⟩
    · have pos : 0 < lineOf R := of_decide_eq_true p
      refine ⟨_, rfl, by show 1 ≤ 1000; decide, fun x nx => ⟨x, _, rfl, upd_same, fun H2 d h1 h2 nd ne sb => ⟨rfl, d, _, h1, h2, ?_, ?_⟩⟩⟩
      · rwa [upd_ne ne] at nd
      · have nd1 : H1 d = none := by rwa [upd_ne ne] at nd
        exact bad pos d _ (back s1 nd1) upd_same (s1.trans (on_way nx nd ne sb))
    · have zero : lineOf R = 0 := by
        have y := lineOf_nonneg R
        have z : ¬ 0 < lineOf R := fun y => p (decide_eq_true y)
        omega
      match R, ha, few, each, bad, good, zero with
      | q :: R, ha, few, each, bad, good, zero =>
        refine ⟨_, rfl, a, _, rfl, .inl (SqL.of (s1 _ _ ha)), fun l nl => ⟨_, rfl, r, C, dx, [], rfl, same_upd nl _ _ (s1 _ _ hR), T.cl, T.nR, by show 0 < 1000; decide, ?_⟩⟩
        have nra : a ≠ r := ne_of (s1 _ _ ha) (s1 _ _ hR) (by intro z; cases z)
        have nlr : l ≠ r := Ne.symm (ne_of_none (s1 _ _ hR) nl)
        have nla : l ≠ a := Ne.symm (ne_of_none (s1 _ _ ha) nl)
        refine ⟨_, rfl, a, _, 0, _, rfl, rfl, SqL.of (by rw [upd_ne nra, upd_ne nla.symm]; exact s1 _ _ ha), row0 q R, _, rfl, by rw [len_S]; exact small_line (each q List.mem_cons_self), _, rfl, r, C, dx, _, rfl, upd_same, T.cl, T.nW, by show 1 < 1000; decide, ?_⟩
        refine ⟨_, rfl, a, _, rfl, .inl (SqL.of (by rw [upd_ne nra, upd_ne nra, upd_ne nla.symm]; exact s1 _ _ ha)), _, rfl, r, C, dx, _, rfl, upd_same, T.cl, T.nH, by show 2 < 1000; decide, ?_⟩
        refine good zero _ ⟨dx, l, ?_, ?_⟩ fun b o nb e => ?_
        · rw [upd_same, rowsV_len, len_S]
          rfl
        · rw [upd_ne nlr, upd_ne nlr, upd_ne nlr]
          exact upd_same
        · rw [upd_ne nb, upd_ne nb, upd_ne nb]
          exact same_upd nl _ _ (s1 _ _ e)
end
end Pm
namespace Pm
open PySem PySem.Spec PyProof.Rows L2 SX
/-! ### calls whose errors are wished for at the caller's slots -/
section
variable {X : Cx} {CXf : CXT} {k : Nat} {f C : Addr} {fd : FuncData} {ps : List Str} {sp : Sp} {E : L2.St → XK} {x m : Str} {p pos apos : Pos} {e o : Expr} {es : List Expr} {ta : TE} {t : TA} {pins : List (Addr × Obj)} {σ : L2.St} {H : Hp} {s : Shared} {Q : VK} {us : List Value} {vs : List V}
/-- how a callee's end is taken -/
theorem end_of {r : Result} {s' : Shared} (I : L2.Inv X pins σ H s) (hx : PassesAt CXf X σ (E σ)) (h : match r with | .ok (.ret v) => EP X pins σ Q v s' | .ok _ => False | .error er => CXf X.stack H s (E σ) er s') :
    match r with | .ok (.ret v) => EP X pins σ Q v s' | .ok _ => False | .error er => X.xe er s' := by
  cases r with
  | error er => exact hx pins H s er s' I h
  | ok fl =>
    cases fl with
    | ret u => exact h
    | next => exact h
    | brk => exact h
    | cont => exact h
theorem make_runS (M : Mk X.K C f) (F : FnOk X.prog X.w X.K X.mg X.base CXf k f fd ps sp) (hr : Room (k + 1) X.A) (hb : Binds X.K fd ps []) (hx : PassesAt CXf X σ (E σ)) (I : L2.Inv X pins σ H s) (rv : Vals vs us)
    (h : ∀ x dx, H x = none → H dx = none → dx ≠ x → sp (.ref x :: vs) (upd (upd H dx (.own x)) x (.ins C dx [])) (fun v H2 => v = .non ∧ Q (.ref x) H2) (E σ)) : wpAny (model X.prog X.w) X.A (call (.ref C) us) (EP X pins σ Q) X.xe s := by
  have big : s.heap.objs.size ≤ s.heap.objs.size + 1 := Nat.le_succ _
  have asked := h (s.heap.objs.size + 1) s.heap.objs.size (I.hok.fresh big) (I.hok.fresh (Nat.le_refl _)) (Nat.ne_of_lt (Nat.lt_succ_self _))
  have J := Inv.made (C := C) I
  have rs : Vals (V.ref (s.heap.objs.size + 1) :: vs) (Value.ref (s.heap.objs.size + 1) :: us) := .cons rfl rv
  have len : (Value.ref (s.heap.objs.size + 1) :: us ++ []).length = ps.length := by
    rw [List.append_nil, ← rs.length]
    exact F.len _ _ _ _ asked
  have env := J.env0.make C us []
  have bind := hb _ (Value.ref (s.heap.objs.size + 1) :: us) J.kIn len
  rw [List.append_nil] at bind
  refine wpAny_call (make_map (f := f) I.kIn M.makes M.init (beq_iff_eq.mp M.fn) (codeAny_mono (F.run _ X.stack _ _ ⟨Value.ref (s.heap.objs.size + 1) :: us, []⟩ (Value.ref (s.heap.objs.size + 1) :: us) _ _ (E σ) (hr.make C us []) env bind rs asked) fun r s' z => ?_))
  cases r with
  | error er => exact hx pins _ _ er s' J z
  | ok fl =>
    cases fl with
    | ret u =>
      obtain ⟨v, H', I3, rv3, ev, q3⟩ := J.after z
      subst ev
      exact ⟨rv3, .ref (s.heap.objs.size + 1), H', I3, rfl, q3⟩
    | next => exact z.elim
    | brk => exact z.elim
    | cont => exact z.elim
def tMakeS (C : Addr) (sp : Sp) (E : L2.St → XK) (t : TA) : TE := fun σ H Q => t σ H fun vs H1 => ∀ x dx, H1 x = none → H1 dx = none → dx ≠ x → sp (.ref x :: vs) (upd (upd H1 dx (.own x)) x (.ins C dx [])) (fun v H2 => v = .non ∧ Q (.ref x) H2) (E σ)
/-- C(e, ..), C a name of the module -/
theorem pe_makeS (M : Mk X.K C f) (F : FnOk X.prog X.w X.K X.mg X.base CXf k f fd ps sp) (hr : Room (k + 1) X.A) (hg : Gl X x) (hm : X.mg x = some (.ref C)) (hb : Binds X.K fd ps []) (hx : ∀ σ, PassesAt CXf X σ (E σ)) (ha : PA X (e :: es) t)
    (dbg : (x == ("__debug__" : Str)) = false := by decide) (st : starEach (e :: es) X.env = (false, eval e X.env) :: starEach es X.env := by rfl) (pl : (backTo pos (starEach es X.env)).any (·.1) = false := by rfl) :
    PE X (.Call (.Name x p) (e :: es) [] pos) (tMakeS C sp E t) := by
  refine ⟨fun pins s σ H Q I h => wpAny_Call_Name_kw (ld_glob I hg hm ?_ dbg)⟩
  refine PySem.W.callWith_K (h₀ := X.base) I.ok.mod.kin M.kp (thn (ha.run pos pins s σ H _ I h) fun us s1 ⟨vs, H1, I1, rv, q⟩ => ⟨I1.kIn, ?_⟩) st pl
  exact make_runS M F hr hb (hx σ) I1 rv q
def tMakeV (i : Nat) (C : Addr) (sp : Sp) (E : L2.St → XK) (t : TA) : TE := fun σ H Q => σ[i]? = some (some (.ref C)) ∧ tMakeS C sp E t σ H Q
/-- c(e, ..), the class at C in slot i -/
theorem pe_makeV {i : Nat} (M : Mk X.K C f) (F : FnOk X.prog X.w X.K X.mg X.base CXf k f fd ps sp) (hr : Room (k + 1) X.A) (hN : X.N[i]? = some x) (hv : Vis X.env.scope x) (hb : Binds X.K fd ps []) (hx : ∀ σ, PassesAt CXf X σ (E σ)) (ha : PA X (e :: es) t)
    (dbg : (x == ("__debug__" : Str)) = false := by decide) (hcd : (x == ("__classdict__" : Str)) = false := by decide) (st : starEach (e :: es) X.env = (false, eval e X.env) :: starEach es X.env := by rfl) (pl : (backTo pos (starEach es X.env)).any (·.1) = false := by rfl) :
    PE X (.Call (.Name x p) (e :: es) [] pos) (tMakeV i C sp E t) := by
  refine ⟨fun pins s σ H Q I ⟨hs, h⟩ => ?_⟩
  refine wpAny_Call_Name_kw (thn ((pe_var (pos := p) hN hv dbg hcd).run pins s σ H (fun v H1 => v = .ref C ∧ H1 = H) I ⟨.ref C, hs, rfl, rfl⟩) fun u s0 ⟨v, H0, I0, r0, ev, eh⟩ => ?_)
  subst ev eh
  obtain rfl : u = Value.ref C := r0
  refine PySem.W.callWith_K (h₀ := X.base) I.ok.mod.kin M.kp (thn (ha.run pos pins s0 σ _ _ I0 h) fun us s1 ⟨vs, H1, I1, rv, q⟩ => ⟨I1.kIn, ?_⟩) st pl
  exact make_runS M F hr hb (hx σ) I1 rv q
def tMethE (C : Addr) (m : Str) (sp : Sp) (E : L2.St → XK) (ta : TE) (t : TA) : TE := fun σ H Q => ta σ H fun x H1 => ∃ a dx fs, x = .ref a ∧ H1 a = some (.ins C dx fs) ∧ fs.lookup m = none ∧ t σ H1 fun vs H2 => sp (x :: vs) H2 Q (E σ)
/-- o.m(e, ..) -/
theorem pe_methE {pl : Sem Bool} (he : PE X o ta) (c : L2.Cls X.K C) (hm : Meth X.K C m f) (F : FnOk X.prog X.w X.K X.mg X.base CXf k f fd ps sp) (hr : Room k X.A) (hb : Binds X.K fd ps []) (hx : ∀ σ, PassesAt CXf X σ (E σ)) (ha : PA X (e :: es) t)
    (st : starEach (e :: es) X.env = (false, eval e X.env) :: starEach es X.env := by rfl) (pl2 : (backTo pos (starEach es X.env)).any (·.1) = false := by rfl)
    (ht : eval (.Call (.Attribute o m apos) (e :: es) [] pos) X.env = (do
      let ov ← eval o X.env
      standAt apos.atName
      let (f, first) ← holding [ov] (getMethod ov m pl)
      callWith pos f first (backTo pos (starEach (e :: es) X.env)) (backToKw pos (keywordEach [] X.env))) := by rfl) :
    PE X (.Call (.Attribute o m apos) (e :: es) [] pos) (tMethE C m sp E ta t) := by
  refine ⟨fun pins s σ H Q I h => PySem.W.methodCall_KW (pl := pl) (thn (he.run pins s σ H _ I h) fun u s1 ⟨x, H1, I1, rx, a, dx, fs, ex, ea, l, q⟩ => ?_) ht⟩
  subst ex
  obtain rfl : u = Value.ref a := rx
  refine getmeth_ok I1 ea c hm l (PySem.W.callWith_K (first := [.ref a]) (h₀ := X.base) I.ok.mod.kin hm.kp (thn (ha.run pos pins s1 σ H1 _ I1 q) fun us s2 ⟨vs, H2, I2, rv, q2⟩ => ⟨I2.kIn, ?_⟩) st pl2)
  exact run_fnS (us := .ref a :: us) (vs := .ref a :: vs) F hr hb (hx σ) I2 (.cons rfl rv) q2
/-! ### a classmethod -/
open ClX in
def tCMethE (C : Addr) (sp : Sp) (E : L2.St → XK) (ta : TE) (t : TA) : TE := fun σ H Q => ta σ H fun x H1 => x = .ref C ∧ t σ H1 fun vs H2 => sp (.ref C :: vs) H2 Q (E σ)
open ClX in
theorem run_cmE {q g : Addr} (F : FnR X.prog X.w X.K X.mg X.base CXf k g sp) (hr : Room k X.A) (hx : PassesAt CXf X σ (E σ)) (I : L2.Inv X ((q, PySem.W.methodObj (.ref g) (.ref C)) :: pins) σ H s)
    (rv : Vals vs us) (h : sp (.ref C :: vs) H Q (E σ)) : wpAny (model X.prog X.w) X.A (call (.ref q) us) (EP X pins σ Q) X.xe s := by
  have go : wpAny (model X.prog X.w) X.A (call (.ref q) us) (EP X ((q, PySem.W.methodObj (.ref g) (.ref C)) :: pins) σ Q) X.xe s := by
    refine wpAny_call (PySem.W.method_call (pin_at I) (codeAny_mono (F X.A X.stack s H (.ref C :: us) (.ref C :: vs) Q (E σ) hr I.env0 (.cons rfl rv) h) fun r s' z => ?_))
    cases r with
    | error er => exact hx _ H s er s' I z
    | ok fl =>
      cases fl with
      | ret u => exact I.after z
      | next => exact z.elim
      | brk => exact z.elim
      | cont => exact z.elim
  exact thn go fun _ _ y => unpinE y
open ClX in
theorem pe_cmethE {g c : Addr} {mc : Value} {pl : Sem Bool} (he : PE X o ta) (r : CRead X.K C mc) (cm : CMet X.K C mc m c g) (F : FnR X.prog X.w X.K X.mg X.base CXf k g sp) (hr : Room k X.A) (hx : ∀ σ, PassesAt CXf X σ (E σ)) (ha : PA X (e :: es) t)
    (st : starEach (e :: es) X.env = (false, eval e X.env) :: starEach es X.env := by rfl) (pl2 : (backTo pos (starEach es X.env)).any (·.1) = false := by rfl)
    (ht : eval (.Call (.Attribute o m apos) (e :: es) [] pos) X.env = (do
      let ov ← eval o X.env
      standAt apos.atName
      let (f, first) ← holding [ov] (getMethod ov m pl)
      callWith pos f first (backTo pos (starEach (e :: es) X.env)) (backToKw pos (keywordEach [] X.env))) := by rfl) :
    PE X (.Call (.Attribute o m apos) (e :: es) [] pos) (tCMethE C sp E ta t) := by
  refine ⟨fun pins s σ H Q I h => PySem.W.methodCall_KW (pl := pl) (thn (he.run pins s σ H _ I h) fun u s1 ⟨x, H1, I1, rx, ex, q⟩ => ?_) ht⟩
  subst ex
  obtain rfl : u = Value.ref C := rx
  refine getmethcm_ok I1 r cm fun s2 I2 => ?_
  refine callwith_cm I2 (base_none I1 (Nat.le_refl _)) cm.fi (thn (ha.run pos _ s2 σ H1 _ I2 q) fun us s3 ⟨vs, H2, I3, rv, q2⟩ => ⟨⟨pin_at I3, I3.kIn⟩, ?_⟩) st pl2
  exact run_cmE F hr (hx σ) I3 rv q2
end
end Pm
namespace Pm
open PySem PySem.Spec PyProof.Rows L2 SX
/-! ### a def that is called where an error is handled, whatever error it is -/
structure FnW (P : Program) (w : World) (K : PySem.W.Frag) (mg : Str → Option Value) (base : Heap) (CXf : CXT) (k : Nat) (f : Addr) (fd : FuncData) (ps : List Str) (sp : Sp) : Prop where
  len : ∀ vs H Q E, sp vs H Q E → vs.length = ps.length
  run : ∀ (A : Around) (outer : List Env) (s : Shared) (H : Hp) (args : Args) (us : List Value) (vs : List V) (Q : VK) (E : XK) (p : Addr × Obj), L2H.RoomH k A → L2H.PinOk outer H s p → Env0 P w K mg base A outer s H →
    BindsTo s fd args (ps.zip us) → Vals vs us → sp vs H Q E → codeAny (model P w) A (.call (.ref f) args) (CR CXf outer P w H s Q E) s
theorem fnW_of {CXf : CXT} {P : Program} {w : World} {K : PySem.W.Frag} {mg : Str → Option Value} {base : Heap} {k : Nat} {x qual : Str} {st : Stmt} {f : Addr} {fd : FuncData} {N ps : List Str} {sp : Sp} (F : Fun K x qual st f fd) (S : FnScope N ps (defScope st))
    (len : ∀ vs H Q E, sp vs H Q E → vs.length = ps.length)
    (body : ∀ (cdv : Value) (A : Around) (outer : List Env) (s : Shared) (H : Hp) (vs : List V) (Q : VK) (E : XK) (p : Addr × Obj), L2H.RoomH k (A.deeper (envOfC qual (defScope st) s.heap.objs.size f cdv)) → sp vs H Q E →
      ∃ t, PSs (L2H.cxH CXf P w K mg base N qual (defScope st) f cdv A outer s H E p) (defBody st) t ∧ t { nx := fun _ G => Q .non G, rt := Q } (L2.start N vs) H) : FnW P w K mg base CXf (k + 1) f fd ps sp := by
  obtain ⟨oc, od, kV, doc, pm, an, cdv, ct, osl, rfl, lk, hcd⟩ := F.ex
  constructor
  case len => exact len
  case run =>
    intro A outer s H args us vs Q E p room pin env0 bind rv asked
    have few := len _ _ _ _ asked
    have kin : K.In s.heap := env0.mod.kin.keeps fun b o e => (env0.bs b o e).1
    have unlimited : s.heap.NoLimit := env0.mod.nolimit.keeps fun b o e => (env0.bs b o e).1
    have kinds : ∀ y ∈ ps.zip us, (defScope st).names.lookup y.1 = some .local ∨ ((defScope st).names.lookup y.1 = some .cell ∧ ((cellsFrom (s.heap.objs.size + 1) (defScope st).names []).lookup y.1).isSome = true) := by
      rintro ⟨n, v⟩ hy
      rcases S.par n (List.of_mem_zip hy).1 with q | q
      · exact Or.inl q
      · exact Or.inr ⟨q, PySem.W.cellsFrom_some _ _ _ (.inl q)⟩
    refine codeAny_call_function room.depth (kin _ _ lk) rfl S.co S.gen rfl (PySem.W.codeRec_of kin hcd) (bind _ _ _ _ (wpAny_newFunctionEnv_cells S.kind kinds fun env he s1 call => ?_))
    subst he
    refine ⟨unlimited.keeps call.toInCall.keep, codeAny_func ?_⟩
    obtain ⟨t, ht, read⟩ := body cdv A outer s H vs Q E p (room.deeper _) asked
    have I := L2H.inv_startH (CX := CXf) (E := E) S pin env0 few rv call
    refine wpAny_mono (ht.run [] s1 (L2.start N vs) H _ I read) (fun fl s2 z => ?_) fun _ _ z => z
    cases fl with
    | ret u =>
      obtain ⟨v, _, G, J, ru, q⟩ := z
      exact ⟨v, G, J.os, J.bare, J.base, J.hok, ru, q⟩
    | next =>
      obtain ⟨_, G, J, q⟩ := z
      exact ⟨V.non, G, J.os, J.bare, J.base, J.hok, rfl, q⟩
    | brk =>
      obtain ⟨_, _, _, q⟩ := z
      exact q.elim
    | cont =>
      obtain ⟨_, _, _, q⟩ := z
      exact q.elim
section
variable {X : Cx} {CXf : CXT} {k : Nat} {f : Addr} {fd : FuncData} {ps : List Str} {sp : Sp} {x : Str} {q pos : Pos} {e : Expr} {es : List Expr} {t : TA}
/-- f(e, ..) where something is pinned; nothing that is raised leaves f -/
theorem pe_callW {p : Addr × Obj} (F : FnW X.prog X.w X.K X.mg X.base CX0 k f fd ps sp) (hr : L2H.RoomH k X.A) (hp : p ∈ X.pn) (hg : Gl X x) (hm : X.mg x = some (.ref f)) (hk : PySem.W.keepIn X.K (.ref f) = true) (hb : Binds X.K fd ps []) (ha : PA X (e :: es) t)
    (dbg : (x == ("__debug__" : Str)) = false := by decide) (st : starEach (e :: es) X.env = (false, eval e X.env) :: starEach es X.env := by rfl) (pl : (backTo pos (starEach es X.env)).any (·.1) = false := by rfl) :
    PE X (.Call (.Name x q) (e :: es) [] pos) (tCall sp [] E0 t) := by
  refine ⟨fun pins s σ H Q I h => wpAny_Call_Name_kw (ld_glob I hg hm ?_ dbg)⟩
  refine PySem.W.callWith_K (h₀ := X.base) I.ok.mod.kin hk (thn (ha.run pos pins s σ H _ I h) fun us s1 ⟨vs, H1, I1, rv, asked⟩ => ⟨I1.kIn, ?_⟩) st pl
  have asked : sp (vs ++ []) H1 Q E0 := asked
  rw [List.append_nil] at asked
  show wpAny _ _ (call (.ref f) us) _ _ _
  have len : us.length = ps.length := rv.length.symm.trans (F.len _ _ _ _ asked)
  have bind := hb s1 us I1.kIn (by rw [List.append_nil]; exact len)
  rw [List.append_nil] at bind
  obtain ⟨p1, p2, p3, p4, p5⟩ := I1.pin p (List.mem_append_left _ hp)
  have pin : L2H.PinOk X.stack H1 s1 p := ⟨p1, p2, fun hm => (List.mem_cons.mp (I1.stkSub p.1 hm)).elim p3 p4, p5⟩
  refine wpAny_call (codeAny_mono (F.run X.A X.stack s1 H1 ⟨us, []⟩ us vs Q E0 p hr pin I1.env0 bind rv asked) fun r s2 z => ?_)
  cases r with
  | error er => exact z.elim
  | ok fl =>
    cases fl with
    | ret u => exact I1.after z
    | next => exact z.elim
    | brk => exact z.elim
    | cont => exact z.elim
end
end Pm
namespace Pm
open PySem PySem.Spec PyProof.Rows L2 SX
/-! ### try with several clauses «except C as e», all with the same name -/
abbrev Suites := List (Value × (Addr → Value → Option Addr → TS))
/-- what the clauses wish, one after the other; the error goes into slot i, which is empty behind the suite -/
def wClauses (K : PySem.W.Frag) (i : Nat) (Wout : WX) (D : Ends) : Suites → WX
  | [] => Wout
  | (c, ts) :: r => fun cls d σ H => ∃ b, PySem.W.exmOne K cls c = some b ∧
      (b = true → ∀ a, H a = none → ts a cls d ⟨fun σ2 H2 => D.nx (σ2.set i none) H2, D.rt, fun σ2 H2 => D.bk (σ2.set i none) H2, fun σ2 H2 => D.ct (σ2.set i none) H2⟩ (σ.set i (some (.ref a))) H) ∧ (b = false → wClauses K i Wout D r cls d σ H)
inductive Clauses (X : Cx) (n : Str) : List ExceptHandler → Suites → Prop
  | nil : Clauses X n [] []
  | cons {x : Str} {c : Value} {ts : Addr → Value → Option Addr → TS} {s0 : Stmt} {ss : List Stmt} {p1 p2 : Pos} {hds : List ExceptHandler} {l : Suites} (named : Names X x c)
      (suite : ∀ (a : Addr) (oe : Obj) (cls : Value) (d : Option Addr) (pn : List (Addr × Obj)), Zc cls d oe → (∃ vs, oe.data = .fields vs) → PSs (X.suite a ((a, oe) :: pn)) (s0 :: ss) (ts a cls d)) (rest : Clauses X n hds l) :
      Clauses X n (.ExceptHandler (some (.Name x p1)) (some n) (s0 :: ss) p2 :: hds) ((c, ts) :: l)
section
variable {X : Cx} {n : Str} {i : Nat} {body : List Stmt} {h0 : ExceptHandler} {hds : List ExceptHandler} {l : Suites} {pos : Pos} {tb : WX → TS} {Wout : WX}
theorem ps_try_clauses (stk : X.stack = X.env :: X.outer) (fr : X.env.frame = some X.env.locals) (nd : X.N.Nodup) (slot : X.N[i]? = some n) (loc : X.env.kindOf n = some .local) (out : Takes X Wout)
    (hbody : ∀ (W : WX) (pn : List (Addr × Obj)) (xe : Value → Shared → Prop), Takes (X.tr pn xe) W → PassesOwn (model X.prog X.w) X.A X.env xe → PSs (X.tr pn xe) body (tb W)) (hcl : Clauses X n (h0 :: hds) l) :
    PS X (.Try body (h0 :: hds) [] [] pos) (fun D σ H => tb (wClauses X.K i Wout D l) D σ H) := by
  constructor
  intro pins s σ H D I asked
  have good := I.ok
  have frames : X.A.frames = some (X.env :: X.outer) := by rw [good.frames, stk]
  have lc : Loc X.env.scope n := Or.inl loc
  refine wpAny_Try_except ?_
  refine wpAny_mono ((hbody (wClauses X.K i Wout D l) (X.pn ++ pins) (fun e s1 => wpAny (model X.prog X.w) X.A (noteFrame e X.env) (fun _ s2 => wpAny (model X.prog X.w) X.A (setFlight e none)
    (fun _ s3 => wpAny (model X.prog X.w) X.A (handleBy e X.env (h0 :: hds)) (SP X pins D) X.xe s3) X.xe s2) X.xe s1) (fun u s1 raised => ?_) PassesOwn.looking).run [] s σ H D (I.toTry _) asked) (fun fl s1 z => ?_) (fun _ _ z => z)
  case _ =>
    obtain ⟨a, B, sI, pins1, σ1, H1, cls, d, rfl, J0, nb, up, sky, na, os, bare, wish⟩ := raised
    have J : L2.Inv X pins σ1 H1 sI := J0.ofTry good
    show wpAny (model X.prog X.w) X.A (noteFrame (.ref a) X.env) _ _ _
    refine Sky.land Zc.steady frames fr (by rw [← stk]; exact sky) fun g fly up2 => ?_
    have J1 : L2.Inv X pins σ1 H1 { s1 with heap := g } := J.landed nb fly.1 (up.trans up2) os bare
    obtain ⟨o1, v1, at1, z1, d1⟩ := fly.there
    have outside : a ∉ frs (X.env :: X.outer) := fun m => by
      obtain ⟨_, o, eo, nf⟩ := fly.2.2.1.mem m
      rw [at1] at eo
      cases eo
      exact nf _ d1
    have notL : a ≠ X.env.locals := fun z => outside (List.mem_filterMap.mpr ⟨X.env, List.mem_cons_self, by rw [fr, z]⟩)
    have notF : a ∉ X.fs := fun m => by
      obtain ⟨e, me, y⟩ := List.mem_filterMap.mp m
      exact outside (List.mem_filterMap.mpr ⟨e, List.mem_cons_of_mem _ me, y⟩)
    have inSuite := J1.suite at1 d1 na notL notF
    have types : PySem.W.Looks (model X.prog X.w) g (typeOf (.ref a)) cls := fun A Q E s k q => wpAny_typeOf_ref (k _ _ at1) (by rw [z1.1]; exact q)
    clear asked hbody
    -- the clauses in turn
    have turn : ∀ (hd2 : List ExceptHandler) (l2 : Suites), Clauses X n hd2 l2 → wClauses X.K i Wout D l2 cls d σ1 H1 → wpAny (model X.prog X.w) X.A (handleBy (.ref a) X.env hd2) (SP X pins D) X.xe { s1 with heap := g } := by
      intro hd2 l2 cl
      induction cl with
      | nil =>
        intro wish
        refine wpAny_handleBy_nil ?_
        obtain ⟨_, _, _, oe, vs, T, oT, ts2, e1, e2, e3, e4, e5⟩ := id fly
        unfold PySem.passOn
        refine wpAny_bind (wpAny_field e1 e3 e4 ?_)
        rw [if_neg (show ¬ ((Value.ref T == Value.none) = true) from by simp)]
        have leave : wpAny (model X.prog X.w) X.A (setFlight (.ref a) X.env.frame) (fun _ s2 => wpAny (model X.prog X.w) X.A (throw (.ref a) : Sem Flow) (SP X pins D) X.xe s2) X.xe { s1 with heap := g } := by
          rw [fr]
          refine HandSPX.setFlight_upZ fly fun g2 held up3 => wpAny_throw (out _ _ ⟨a, B, sI, pins, σ1, H1, cls, d, rfl, J, nb, (up.trans up2).trans up3, .inr (.inr (by rw [stk]; exact held)), na, os, bare, wish⟩)
        first
          | exact wpAny_bind (wpAny_pure (wpAny_bind leave))
          | exact wpAny_bind leave
      | @cons x c ts s0 ss p1 p2 hd3 l3 named suite rest ih =>
        rintro ⟨b, eb, yes, no⟩
        have meets := PySem.W.exm_one (M := model X.prog X.w) J1.kIn types eb
        refine wpAny_handleBy_cons (codeAny_handlers_test ?_) (fun z => nomatch z)
        have name : ∀ {Q : Value → Shared → Prop} {E : Value → Shared → Prop}, Q c { s1 with heap := g } → wpAny (model X.prog X.w) (X.A.mark (some (.ref a))) (eval (.Name x p1) X.env) Q E { s1 with heap := g } := by
          intro Q E q
          obtain ⟨hg, dbg, hm⟩ := named
          rcases hm with hm | ⟨hm, hv, hn⟩
          · exact ld_glob (X := X.suite a ((a, o1) :: (X.pn ++ pins))) inSuite hg hm q dbg
          · exact ld_blt (X := X.suite a ((a, o1) :: (X.pn ++ pins))) inSuite hg hm hv q hn dbg
        refine name (meets.here ?_)
        cases b with
        | false => exact ih (no rfl)
        | true =>
          refine codeAny_handlers_suite_as (HandSPX.lands_againZ fly fun g2 fly2 up3 => ?_)
          have J2 : L2.Inv X pins σ1 H1 { s1 with heap := g2 } := J.landed nb fly2.1 ((up.trans up2).trans up3) os bare
          obtain ⟨o2, v2, at2, z2, d2⟩ := fly2.there
          refine store_ok (X := X.suite a ((a, o2) :: (X.pn ++ pins))) (v := .ref a) (J2.suite at2 d2 na notL notF) nd slot lc rfl (fun s2 S2 => ?_) (.inr loc)
          refine wpAny_mono ((suite a o2 cls d (X.pn ++ pins) z2 ⟨_, d2⟩).run [] s2 _ H1 _ S2 (yes rfl a na)) (fun fl s3 z => ?_) (fun _ _ z => False.elim z)
          have gone : ∀ {σ3 : L2.St} {H3 : Hp} {Q : Shared → Prop}, L2.Inv (X.suite a ((a, o2) :: (X.pn ++ pins))) [] σ3 H3 s3 → (∀ s4, L2.Inv X pins (σ3.set i none) H3 s4 → Q s4) →
              wpAny (model X.prog X.w) X.A (do bindName X.env n .none; unbindBehindTheSuite X.env n p2) (fun _ s4 => Q s4) X.xe s3 := fun S3 q => gone_ok (S3.unsuite good) nd slot loc q
          cases fl with
          | ret u =>
            obtain ⟨v, _, _, S3, rv, q⟩ := z
            exact gone S3 fun _ J4 => ⟨_, _, _, J4, rv, q⟩
          | next =>
            obtain ⟨_, _, S3, q⟩ := z
            exact gone S3 fun _ J4 => ⟨_, _, J4, q⟩
          | brk =>
            obtain ⟨_, _, S3, q⟩ := z
            exact gone S3 fun _ J4 => ⟨_, _, J4, q⟩
          | cont =>
            obtain ⟨_, _, S3, q⟩ := z
            exact gone S3 fun _ J4 => ⟨_, _, J4, q⟩
    exact turn _ _ hcl wish
  cases fl with
  | ret u =>
    obtain ⟨v, σ2, H2, J2, rv, q⟩ := z
    exact ⟨v, σ2, H2, J2.ofTry good, rv, q⟩
  | next =>
    obtain ⟨σ2, H2, J2, q⟩ := z
    exact wpAny_execs_nil ⟨σ2, H2, J2.ofTry good, q⟩
  | brk =>
    obtain ⟨σ2, H2, J2, q⟩ := z
    exact ⟨σ2, H2, J2.ofTry good, q⟩
  | cont =>
    obtain ⟨σ2, H2, J2, q⟩ := z
    exact ⟨σ2, H2, J2.ofTry good, q⟩
end
end Pm
namespace Pm
open PySem PySem.Spec PyProof.Rows L2 SX
/-! ### a text times an int -/
theorem mul_fit {x : Str} {n : Int} (hx : x.length ≤ 1000) (n0 : 0 ≤ n) (n1 : n ≤ 1000) : MulOk x n := by
  have nn : (n.toNat : Int) = n := Int.toNat_of_nonneg n0
  have hm : x.length * n.toNat ≤ 1000 * 1000 := Nat.mul_le_mul hx (by omega)
  refine ⟨?_, fun a _ => ?_, fun _ _ => ?_⟩
  · rw [decide_eq_false (by omega), decide_eq_false (by omega)]
    rfl
  · have e : (x.length : Int) * n ≤ 2 ^ 63 - 1 := by
      rw [← nn]
      have y : ((x.length * n.toNat : Nat) : Int) ≤ ((1000 * 1000 : Nat) : Int) := Int.ofNat_le.mpr hm
      rw [Int.natCast_mul] at y
      exact Int.le_trans y (by decide)
    have := Int.le_ediv_of_mul_le (by omega) e
    omega
  · show decide (x.length * n.toNat > sizeLine) = false
    refine decide_eq_false ?_
    have : (1000 * 1000 : Nat) ≤ sizeLine := by decide
    omega
theorem op_mul_str {X : Cx} : OpR X (binaryOp .Mult) (fun x y H Q => ∃ i n, x = .str i ∧ y = .int n ∧ i.length ≤ 1000 ∧ 0 ≤ n ∧ n ≤ 1000 ∧ Q (.str (Txt.mul i n)) H) := by
  intro pins s σ H x y v u Q I rx ry h
  obtain ⟨i, n, rfl, rfl, hi, n0, n1, q⟩ := h
  obtain ⟨t, rfl⟩ := rx
  obtain ⟨t2, rfl⟩ := ry
  exact SB.mul (mul_fit hi n0 n1) fun t3 tk => ⟨.str (Txt.mul i n), H, I.tok _, ⟨_, rfl⟩, q⟩
theorem mul3 {z : List Nat} (h : Pal z) : Txt.mul (S z) 3 = S (z ++ z ++ z) := by
  obtain ⟨c, d, e, rfl, _⟩ := h
  rfl
theorem mul1 (c : Nat) (n : Int) : Txt.mul (S [c]) n = S (List.replicate n.toNat c) := by
  have e := mul_one_list c n
  have y : S (Txt.mul (S [c]) n).cps.toList = Txt.mul (S [c]) n := S_tl _
  rw [← y, e]
end Pm
namespace Pm
open PySem PySem.Spec PyProof.Rows L2 SX
section
variable {P : Program} {w : World} {K : PySem.W.Frag} {mg : Str → Option Value} {base : Heap} {C CI : Addr}
theorem PicAt.same {C : Addr} {H H' : Hp} {r : Addr} {R : Rows} (h : PicAt C H r R) (s : Same H H') : PicAt C H' r R := by
  obtain ⟨dx, l, a, b⟩ := h
  exact ⟨dx, l, s _ _ a, s _ _ b⟩
theorem made_same {C : Addr} {H : Hp} {x dx : Addr} (nx : H x = none) (nd : H dx = none) : Same H (upd (upd H dx (.own x)) x (.ins C dx [])) := fun b o e => by
  rw [upd_ne (ne_of_none e nx), upd_ne (ne_of_none e nd)]
  exact e
theorem made_but {C : Addr} {H H' : Hp} {x dx : Addr} (nx : H x = none) (nd : H dx = none) (s : SameBut x (upd (upd H dx (.own x)) x (.ins C dx [])) H') : Same H H' := fun b o e => by
  have ne : b ≠ x := ne_of_none e nx
  exact s b o ne (made_same nx nd _ _ e)
theorem lets_made {E : XK} {D : Addr} {fs : List (Str × V)} {H H' : Hp} (h : Lets E D fs H) (s : Same H H') : Lets E D fs H' := fun d G nd hd sg => h d G (back s nd) hd (s.trans sg)
def spLines (C : Addr) : Sp := fun vs H Q _ => ∃ r R, vs = [.ref r] ∧ PicAt C H r R ∧ ∀ p H', Same H H' → H p = none → H' p = some (.lst (rowsV R)) → Q (.ref p) H'
theorem scLines : FnScope ["self"] ["self"] (defScope cPictureLines) := ⟨rfl, rfl, rfl, by decide +kernel, rfl, by decide +kernel, by decide +kernel⟩
theorem ok_lines {f : Addr} {fd : FuncData} (F : Fun K "lines" "Picture.lines" cPictureLines f fd) (L : LTxt K mg) (T : PCls K C) : FnOk P w K mg base CX0 1 f fd ["self"] (spLines C) := by
  refine F.ok scLines (fun vs H Q E h => ?_) (fun cdv A outer s H vs Q E hr h => ?_)
  · obtain ⟨r, R, rfl, _⟩ := h
    rfl
  · obtain ⟨r, R, rfl, ⟨dx, l, hr1, hl⟩, k⟩ := h
    refine ⟨_, pss_one (ps_ret (pe_callTy call_list_of (by rfl) L.lst (by decide +kernel) (pa_cons (pe_fld (pv 0) rfl) pa_nil))), ?_⟩
    refine ⟨_, rfl, r, C, dx, _, _, rfl, hr1, T.cl, T.nR, rfl, l, _, rfl, .inl (SqL.of hl), fun p np => k p _ (same_upd np) np upd_same⟩
/-! ### contains -/
def inB (R : Rows) (x y : Int) : Bool := decide (0 ≤ x ∧ x < wideOf R) && decide (0 ≤ y ∧ y < (R.length : Int))
def spContains (C : Addr) : Sp := fun vs H Q _ => ∃ r R x y, vs = [.ref r, .int x, .int y] ∧ PicAt C H r R ∧ Q (.bl (inB R x y)) H
theorem scContains : FnScope ["self", "x", "y"] ["self", "x", "y"] (defScope cPictureContains) := ⟨rfl, rfl, rfl, by decide +kernel, rfl, by decide +kernel, by decide +kernel⟩
theorem ok_contains {f : Addr} {fd : FuncData} (F : Fun K "contains" "Picture.contains" cPictureContains f fd) (T : PCls K C) : FnOk P w K mg base CX0 1 f fd ["self", "x", "y"] (spContains C) := by
  refine F.ok scContains (fun vs H Q E h => ?_) (fun cdv A outer s H vs Q E hr h => ?_)
  · obtain ⟨r, R, x, y, rfl, _⟩ := h
    rfl
  · obtain ⟨r, R, x, y, rfl, ⟨dx, l, h1, h2⟩, k⟩ := h
    refine ⟨_, pss_one (ps_ret (pe_and (pe_chain op_le op_lt pe_int (pv 1) (pe_fld (pv 0) rfl)) (pe_one (pe_chain op_le op_lt pe_int (pv 2) (pe_fld (pv 0) rfl))))), ?_⟩
    have second : inB R x y = decide (0 ≤ y ∧ y < (R.length : Int)) → tChain (rI0 fun i j => .bl (decide (i ≤ j))) (rI0 fun i j => .bl (decide (i < j))) (tC (.int 0)) (tVar 2) (tFld K (tVar 0) "height") (L2.start ["self", "x", "y"] [.ref r, .int x, .int y]) H Q := fun e => by
      rw [e] at k
      refine ⟨_, rfl, _, _, rfl, rfl, _, rfl, ite2 (fun a => ?_) (fun a => ?_)⟩
      · have a := of_decide_eq_true a
        refine ⟨_, rfl, r, C, dx, _, _, rfl, h1, T.cl, T.nH, rfl, _, _, rfl, rfl, ?_⟩
        have e2 : decide (0 ≤ y ∧ y < (R.length : Int)) = decide (y < (R.length : Int)) := decide_eq_decide.mpr ⟨fun z => z.2, fun z => ⟨a, z⟩⟩
        rw [e2] at k
        exact k
      · have a : ¬ 0 ≤ y := fun z => a (decide_eq_true z)
        rw [decide_eq_false (fun z => a z.1)] at k
        exact k
    refine ⟨_, rfl, _, _, rfl, rfl, _, rfl, ite2 (fun a => ?_) (fun a => ?_)⟩
    · have a := of_decide_eq_true a
      refine ⟨_, rfl, r, C, dx, _, _, rfl, h1, T.cl, T.nW, rfl, _, _, rfl, rfl, _, rfl, ite2 (fun b => ?_) (fun b => ?_)⟩
      · have b := of_decide_eq_true b
        refine second ?_
        unfold inB
        rw [decide_eq_true (show 0 ≤ x ∧ x < wideOf R from ⟨a, b⟩), Bool.true_and]
      · have b : ¬ x < wideOf R := fun z => b (decide_eq_true z)
        unfold inB at k
        rw [decide_eq_false (fun z => b z.2), Bool.false_and] at k
        exact k
    · have a : ¬ 0 ≤ x := fun z => a (decide_eq_true z)
      unfold inB at k
      rw [decide_eq_false (fun z => a z.1), Bool.false_and] at k
      exact ⟨_, rfl, iteF k⟩
end
end Pm
namespace Pm
open PySem PySem.Spec PyProof.Rows L2 SX
/-! ### grids that change -/
def rowAt (R : Rows) (j : Nat) : List Nat := R.getD j []
def putR (R : Rows) (i j : Nat) (z : List Nat) : Rows := R.set j ((rowAt R j).take i ++ z ++ (rowAt R j).drop (i + 1))
theorem good_low {c : Nat} (h : Good c) : c < 256 ∧ c ≠ 10 := by
  unfold Good Let at h
  omega
theorem line_good {r : List Nat} {R : Rows} (ok : ∀ (j : Nat) y, j < 8 → (r :: R)[j]? = some y → okB (r.length : Int) y = true) : lineOf (r :: R) = if 8 < (r :: R).length then 9 else 0 := by
  rw [lineOf_cons, find_none fun j y hy => by
    rw [List.getElem?_take] at hy
    by_cases a : j < 8
    · rw [if_pos a] at hy
      rw [ok j y a hy]
      rfl
    · rw [if_neg a] at hy
      cases hy]
theorem Grid.line {R : Rows} {n : Nat} (g : Grid R n) : lineOf R = 0 := by
  have h1 := g.h1
  have h8 := g.h8
  have w1 := g.w1
  have w8 := g.w8
  match R, g, h1, h8 with
  | r :: R, g, h1, h8 =>
    have ok : ∀ z ∈ r :: R, okB (r.length : Int) z = true := fun z m => by
      have e1 := g.row z m
      have e2 := g.row r List.mem_cons_self
      have e3 : (z.all fun c => decide (Good c)) = true := List.all_eq_true.mpr fun c mc => decide_eq_true (g.sgn z m c mc)
      unfold okB
      rw [e3, decide_eq_true (show 1 ≤ z.length by omega), decide_eq_true (show z.length ≤ 8 by omega), decide_eq_true (show (z.length : Int) = (r.length : Int) by omega)]
      rfl
    rw [line_good fun j y _ hy => ok y (List.mem_of_getElem? hy), if_neg (by omega)]
theorem Grid.wide {R : Rows} {n : Nat} (g : Grid R n) : wideOf R = (n : Int) := by
  match R, g, g.h1 with
  | r :: R, g, _ =>
    show (r.length : Int) = _
    rw [g.row r List.mem_cons_self]
theorem Grid.at {R : Rows} {n : Nat} (g : Grid R n) {j : Nat} (hj : j < R.length) : R[j]? = some (rowAt R j) ∧ rowAt R j ∈ R ∧ (rowAt R j).length = n := by
  have e : R[j]? = some R[j] := List.getElem?_eq_getElem hj
  have y : rowAt R j = R[j] := by
    unfold rowAt
    rw [List.getD_eq_getElem?_getD, e]
    rfl
  rw [y]
  exact ⟨e, List.getElem_mem hj, g.row _ (List.getElem_mem hj)⟩
theorem Grid.inside {R : Rows} {n : Nat} (g : Grid R n) {x y : Int} (h : inB R x y = true) : ∃ i j : Nat, x = (i : Int) ∧ y = (j : Int) ∧ i < n ∧ j < R.length := by
  unfold inB at h
  obtain ⟨a, b⟩ := Bool.and_eq_true_iff.mp h
  have a := of_decide_eq_true a
  have b := of_decide_eq_true b
  rw [g.wide] at a
  exact ⟨x.toNat, y.toNat, by omega, by omega, by omega, by omega⟩
theorem goodB_one {z : List Nat} (h : goodB z = true) : ∃ c, z = [c] ∧ Good c := by
  match z, h with
  | [c], h => exact ⟨c, rfl, of_decide_eq_true h⟩
theorem Grid.put {R : Rows} {n i j c : Nat} (g : Grid R n) (hi : i < n) (hj : j < R.length) (hc : Good c) : Grid (putR R i j [c]) n := by
  obtain ⟨_, m, l⟩ := g.at hj
  have new : ((rowAt R j).take i ++ [c] ++ (rowAt R j).drop (i + 1)).length = n := by
    simp only [List.length_append, List.length_take, List.length_drop, List.length_cons, List.length_nil]
    omega
  refine ⟨g.w1, g.w8, by unfold putR; rw [List.length_set]; exact g.h1, by unfold putR; rw [List.length_set]; exact g.h8, fun z mz => ?_, fun z mz d md => ?_⟩
  · rcases List.mem_or_eq_of_mem_set mz with a | a
    · exact g.row z a
    · rw [a, new]
  · rcases List.mem_or_eq_of_mem_set mz with a | a
    · exact g.sgn z a d md
    · rw [a] at md
      rcases List.mem_append.mp md with y | y
      · rcases List.mem_append.mp y with y | y
        · exact g.sgn _ m d (List.mem_of_mem_take y)
        · rw [List.mem_singleton.mp y]
          exact hc
      · exact g.sgn _ m d (List.mem_of_mem_drop y)
theorem Grid.plain {n m c : Nat} (n1 : 1 ≤ n) (n8 : n ≤ 8) (m1 : 1 ≤ m) (m8 : m ≤ 8) (hc : Good c) : Grid (List.replicate m (List.replicate n c)) n := by
  refine ⟨n1, n8, by rw [List.length_replicate]; exact m1, by rw [List.length_replicate]; exact m8, fun z mz => ?_, fun z mz d md => ?_⟩
  · rw [(List.mem_replicate.mp mz).2, List.length_replicate]
  · rw [(List.mem_replicate.mp mz).2] at md
    rw [(List.mem_replicate.mp md).2]
    exact hc
theorem put_back {R : Rows} {n i j : Nat} {c d : Nat} (g : Grid R n) (hi : i < n) (hj : j < R.length) (hd : (rowAt R j)[i]? = some d) : putR (putR R i j [c]) i j [d] = R := by
  obtain ⟨e, m, l⟩ := g.at hj
  have e1 : rowAt (putR R i j [c]) j = (rowAt R j).take i ++ [c] ++ (rowAt R j).drop (i + 1) := by
    unfold rowAt putR
    rw [List.getD_eq_getElem?_getD, List.getElem?_set_self (by simpa using hj)]
    rfl
  have li : ((rowAt R j).take i).length = i := by rw [List.length_take]; omega
  unfold putR at e1 ⊢
  rw [e1, List.set_set]
  have t : ((rowAt R j).take i ++ [c] ++ (rowAt R j).drop (i + 1)).take i = (rowAt R j).take i := by
    rw [List.append_assoc, List.take_append_of_le_length (by omega), List.take_of_length_le (by omega)]
  have u : ((rowAt R j).take i ++ [c] ++ (rowAt R j).drop (i + 1)).drop (i + 1) = (rowAt R j).drop (i + 1) := by
    have lc : ((rowAt R j).take i ++ [c]).length = i + 1 := by rw [List.length_append, li]; rfl
    rw [← lc, List.drop_left]
  rw [t, u]
  have w : (rowAt R j).take i ++ [d] ++ (rowAt R j).drop (i + 1) = rowAt R j := by
    obtain ⟨h1, h2⟩ := List.getElem?_eq_some_iff.mp hd
    rw [List.append_assoc, List.singleton_append, ← h2, List.getElem_cons_drop, List.take_append_drop]
  rw [w]
  obtain ⟨h1, h2⟩ := List.getElem?_eq_some_iff.mp e
  rw [← h2, List.set_getElem_self]
end Pm
namespace Pm
open PySem PySem.Spec PyProof.Rows L2 SX
section
variable {P : Program} {w : World} {K : PySem.W.Frag} {mg : Str → Option Value} {base : Heap} {CP CO : Addr}
/-! ### check_cell -/
def spCkCell (CP CO : Addr) : Sp := fun vs H Q E => ∃ r R x y, vs = [.ref r, .int x, .int y] ∧ PicAt CP H r R ∧ (inB R x y = false → Lets E CO [("y", .int y), ("x", .int x)] H) ∧ (inB R x y = true → Q .non H)
theorem scCkCell : FnScope ["picture", "x", "y"] ["picture", "x", "y"] (defScope gCheckCell) := ⟨rfl, rfl, rfl, by decide +kernel, rfl, by decide +kernel, by decide +kernel⟩
theorem ok_cell {f fN e : Addr} {fd dN ed : FuncData} (F : Fun K "check_cell" "check_cell" gCheckCell f fd) (TP : PCls K CP)
    (ON : FnOk P w K mg base CX0 1 fN dN ["self", "x", "y"] (spContains CP)) (mN : Meth K CP "contains" fN) (bN : Binds K dN ["self", "x", "y"] [])
    (xo : EMk P w K mg base CO "OutOfPicture" ["self", "x", "y"] (spE2 CO) e ed) : FnOk P w K mg base (L2.CX P w) 3 f fd ["picture", "x", "y"] (spCkCell CP CO) := by
  refine F.okX scCkCell (fun vs H Q E h => ?_) (fun cdv A outer s H vs Q E hr h => ?_)
  · obtain ⟨r, R, x, y, rfl, _⟩ := h
    rfl
  · obtain ⟨r, R, x, y, rfl, hp, kO, k⟩ := h
    have hr1 : Room 1 _ := hr.mono (by decide)
    have hr2 : Room 2 _ := hr
    refine ⟨_, (pss_one (ps_if (pt_not (pt_val (pe_meth (pv 0) TP.cl mN ON hr1 bN .nil pass0 (pa_cons (pv 1) (pa_cons (pv 2) pa_nil))))) (pss_one (ps_raise rfl (takes_of rfl rfl rfl rfl) (pmk_oex xo.T xo.at_ xo.ty xo.ok hr2 xo.bd .nil pass0 (by rfl) xo.gl (pa_cons (pv 1) (pa_cons (pv 2) pa_nil))))) pss_nil)), ?_⟩
    have hp0 := hp
    obtain ⟨px, pl, hq1, hq2⟩ := hp
    refine ⟨_, rfl, r, px, _, rfl, hq1, rfl, _, rfl, _, rfl, r, R, x, y, rfl, hp0, _, rfl, ?_⟩
    cases io : inB R x y with
    | false =>
      refine iteT ⟨_, rfl, _, rfl, by show 2 ≤ 1000; decide, fun a na => ⟨a, _, _, rfl, upd_same, fun H2 d h1 h2 nd ne sb => ⟨rfl, d, _, h1, h2, ?_, ?_⟩⟩⟩
      · rwa [upd_ne ne] at nd
      · exact kO io d _ (by rwa [upd_ne ne] at nd) upd_same (on_way na nd ne sb)
    | true => exact iteF (k io)
end
end Pm
namespace Pm
open PySem PySem.Spec PyProof.Rows L2 SX
section
variable {P : Program} {w : World} {K : PySem.W.Frag} {mg : Str → Option Value} {base : Heap} {CG : Addr}
/-! ### check_sign -/
def spCSign (CG : Addr) : Sp := fun vs H Q E => ∃ z, vs = [.str (S z)] ∧ z.length ≤ 1000 ∧ (goodB z = false → Lets E CG [("sign", .str (S z))] H) ∧ (goodB z = true → Q .non H)
theorem scCSign : FnScope ["sign"] ["sign"] (defScope gCheckSign) := ⟨rfl, rfl, rfl, by decide +kernel, rfl, by decide +kernel, by decide +kernel⟩
theorem ok_csign {f fS eG : Addr} {fd dS xG : FuncData} (F : Fun K "check_sign" "check_sign" gCheckSign f fd) (cS : Cl P w K mg base CX0 2 "is_stone_or_hole" ["sign"] spSoh fS dS)
    (xg : EMk P w K mg base CG "InvalidSign" ["self", "sign"] (spE1 CG "sign") eG xG) : FnOk P w K mg base (L2.CX P w) 3 f fd ["sign"] (spCSign CG) := by
  refine F.okX scCSign (fun vs H Q E h => ?_) (fun cdv A outer s H vs Q E hr h => ?_)
  · obtain ⟨z, rfl, _⟩ := h
    rfl
  · obtain ⟨z, rfl, lz, kG, k⟩ := h
    have hr2 : Room 2 _ := hr
    refine ⟨_, (pss_one (ps_if (pt_not (pt_val (pe_call cS.ok hr2 (by rfl) cS.gl cS.kp cS.bd .nil pass0 (pa_cons (pv 0) pa_nil)))) (pss_one (ps_raise rfl (takes_of rfl rfl rfl rfl) (pmk_oex xg.T xg.at_ xg.ty xg.ok hr2 xg.bd .nil pass0 (by rfl) xg.gl (pa_cons (pv 0) pa_nil)))) pss_nil)), ?_⟩
    refine ⟨_, rfl, z, rfl, lz, _, rfl, ?_⟩
    by_cases go : goodB z = true
    · exact iteFe (by rw [go]; rfl) (k go)
    · have go : goodB z = false := by simpa using go
      refine iteTe (by rw [go]; rfl) ?_
      refine ⟨_, rfl, by show 1 ≤ 1000; decide, fun a na => ⟨a, _, rfl, upd_same, fun H2 d h3 h4 nd ne sb => ⟨rfl, d, _, h3, h4, ?_, ?_⟩⟩⟩
      · rwa [upd_ne ne] at nd
      · exact kG go d _ (by rwa [upd_ne ne] at nd) upd_same (on_way na nd ne sb)
end
end Pm
namespace Pm
open PySem PySem.Spec PyProof.Rows L2 SX
section
variable {P : Program} {w : World} {K : PySem.W.Frag} {mg : Str → Option Value} {base : Heap} {C CI CO CG : Addr}
theorem gone {z : Prop} {E : XK} {D : Addr} {fs : List (Str × V)} {H : Hp} (n : ¬ z) : z → Lets E D fs H := fun y => absurd y n
/-! ### with_sign -/
def spWith (C CO CG : Addr) : Sp := fun vs H Q E => ∃ r R n x y z, vs = [.ref r, .int x, .int y, .str (S z)] ∧ PicAt C H r R ∧ Grid R n ∧ z.length ≤ 1000 ∧
  (inB R x y = false → Lets E CO [("y", .int y), ("x", .int x)] H) ∧ (inB R x y = true → goodB z = false → Lets E CG [("sign", .str (S z))] H) ∧
  (inB R x y = true → goodB z = true → ∀ p H', Same H H' → H p = none → PicAt C H' p (putR R x.toNat y.toNat z) → Q (.ref p) H')
abbrev nWith : List Str := ["self", "x", "y", "sign", "rows"]
theorem scWith : FnScope nWith ["self", "x", "y", "sign"] (defScope cPictureWithSign) := ⟨rfl, rfl, rfl, by decide +kernel, rfl, by decide +kernel, by decide +kernel⟩
theorem ok_with {f fK fG fI : Addr} {fd dK dG dI : FuncData} (F : Fun K "with_sign" "Picture.with_sign" cPictureWithSign f fd) (T : PCls K C) (L : LTxt K mg) (gC : mg "Picture" = some (.ref C))
    (cK : Cl P w K mg base (L2.CX P w) 3 "check_cell" ["picture", "x", "y"] (spCkCell C CO) fK dK) (cG : Cl P w K mg base (L2.CX P w) 3 "check_sign" ["sign"] (spCSign CG) fG dG)
    (OI : FnOk P w K mg base (L2.CX P w) 5 fI dI ["self", "rows"] (spInit C CI)) (M : Mk K C fI) (bI : Binds K dI ["self", "rows"] []) :
    FnOk P w K mg base (L2.CX P w) 7 f fd ["self", "x", "y", "sign"] (spWith C CO CG) := by
  refine F.okX scWith (fun vs H Q E h => ?_) (fun cdv A outer s H vs Q E hr h => ?_)
  · obtain ⟨r, R, n, x, y, z, rfl, _⟩ := h
    rfl
  · obtain ⟨r, R, n, x, y, z, rfl, hp, g, lz, kO, kG, k⟩ := h
    have hr3 : Room 3 _ := hr.mono (by decide)
    refine ⟨_, pss_cons (ps_expr (pe_callS (E := fun _ => E) cK.ok hr3 (by rfl) cK.gl cK.kp cK.bd (fun σ pins H s e s' I c => passes_call (takes_of rfl rfl rfl rfl) (fun _ _ _ _ z => z) pins σ H s e s' I c) (pa_cons (pv 0) (pa_cons (pv 1) (pa_cons (pv 2) pa_nil)))))
      (pss_cons (ps_expr (pe_callS (E := fun _ => E) cG.ok hr3 (by rfl) cG.gl cG.kp cG.bd (fun σ pins H s e s' I c => passes_call (takes_of rfl rfl rfl rfl) (fun _ _ _ _ z => z) pins σ H s e s' I c) (pa_cons (pv 3) pa_nil)))
      (pss_cons (ps_set (i := 4) scWith.nd rfl (.inl rfl) (pe_callTy call_list_of (by rfl) L.lst (by decide +kernel) (pa_cons (pe_fld (pv 0) rfl) pa_nil)))
      (pss_cons (ps_asg (pe_op op_add_str (pe_op op_add_str (pe_slice C8.sl_txt (pe_ix ix_list (pv 4) (pv 2) (fun _ _ => rfl)) po_none (po_some (pv 1))) (pv 3)) (pe_slice C8.sl_txt (pe_ix ix_list (pv 4) (pv 2) (fun _ _ => rfl)) (po_some (pe_op op_add (pv 1) pe_int)) po_none)) (pg_sub (pv 4) (pv 2) set_list))
      (pss_one (ps_ret (pe_makeS (E := fun _ => E) M OI hr (by rfl) gC bI (fun σ pins H s e s' I c => passes_call (takes_of rfl rfl rfl rfl) (fun _ _ _ _ z => z) pins σ H s e s' I c) (pa_cons (pv 4) pa_nil))))))), ?_⟩
    have hp0 := hp
    obtain ⟨dx, l, h1, h2⟩ := hp
    refine ⟨_, rfl, _, rfl, _, rfl, r, R, x, y, rfl, hp0, kO, fun io => ?_⟩
    refine ⟨_, rfl, z, rfl, lz, kG io, fun go => ?_⟩
    obtain ⟨i, j, rfl, rfl, hi, hj⟩ := g.inside io
    obtain ⟨c, rfl, gc⟩ := goodB_one go
    obtain ⟨e1, m1, l1⟩ := g.at hj
    have w8 := g.w8
    have h8 := g.h8
    have ev : (rowsV R)[j]? = some (.str (S (rowAt R j))) := by
      unfold rowsV
      rw [List.getElem?_map, e1]
      rfl
    have line : (S (rowAt R j)).length ≤ sizeLine := by rw [len_S]; exact small_line (by omega)
    refine ⟨_, rfl, r, C, dx, _, _, rfl, h1, T.cl, T.nR, rfl, l, _, rfl, .inl (SqL.of h2), fun p np => ?_⟩
    have s1 := same_upd (o := .lst (rowsV R)) np
    have hq : (upd H p (.lst (rowsV R))) p = some (.lst (rowsV R)) := upd_same
    generalize upd H p (.lst (rowsV R)) = H1 at s1 hq
    have t1 : Txt.slice (S (rowAt R j)) none (some (i : Int)) = S ((rowAt R j).take i) := slice_to (by omega)
    have t2 : Txt.slice (S (rowAt R j)) (some ((i : Int) + 1)) none = S ((rowAt R j).drop (i + 1)) := slice_from (by omega)
    have lt : ((rowAt R j).take i).length ≤ 8 := by rw [List.length_take]; omega
    have ld : ((rowAt R j).drop (i + 1)).length ≤ 8 := by rw [List.length_drop]; omega
    refine ⟨_, rfl, _, rfl, p, _, (j : Int), _, rfl, rfl, SqL.of hq, atI_nat ev, _, rfl, _, rfl, S _, rfl, line, _, rfl, _, _, rfl, rfl, ?_, ?_⟩
    · rw [t1, len_S, len_S]
      show _ + 1 ≤ sizeLine
      exact small_line (by omega)
    refine ⟨_, rfl, _, rfl, p, _, (j : Int), _, rfl, rfl, SqL.of hq, atI_nat ev, _, rfl, _, _, rfl, rfl, _, rfl, S _, rfl, line, _, _, rfl, rfl, ?_, ?_⟩
    · rw [t1, t2, S_cat, len_S, len_S, List.length_append]
      show _ + 1 + _ ≤ sizeLine
      exact small_line (by omega)
    rw [t1, t2, S_cat, S_cat]
    refine ⟨_, rfl, _, rfl, p, _, (j : Int), j, rfl, rfl, hq, by rw [rowsV_len]; exact (by unfold ixN; rw [if_pos (by omega), if_pos (by omega)]; rfl), ?_⟩
    have es : (rowsV R).set j (.str (S ((rowAt R j).take i ++ [c] ++ (rowAt R j).drop (i + 1)))) = rowsV (putR R i j [c]) := by
      unfold rowsV putR
      rw [List.map_set]
    rw [es]
    have gp := g.put hi hj gc
    have s2 : Same H (upd H1 p (.lst (rowsV (putR R i j [c])))) := fun b o e => by
      rw [upd_ne (ne_of_none e np)]
      exact s1 b o e
    have hq2 : (upd H1 p (.lst (rowsV (putR R i j [c])))) p = some (.lst (rowsV (putR R i j [c]))) := upd_same
    generalize upd H1 p (.lst (rowsV (putR R i j [c]))) = H2 at s2 hq2
    refine ⟨_, rfl, fun x dx2 nx nd ne => ⟨x, dx2, p, putR R i j [c], rfl, upd_same, made_same nx nd _ _ hq2, ?_, ?_, gone (by rw [gp.line]; decide), fun _ H' hp' sb => ⟨rfl, k io go x H' (s2.trans (made_but nx nd sb)) (back s2 nx) hp'⟩⟩⟩
    · exact Nat.le_trans gp.h8 (by decide)
    · intro q m
      rw [gp.row q m]
      omega
end
end Pm
namespace Pm
open PySem PySem.Spec PyProof.Rows L2 SX
section
variable {P : Program} {w : World} {K : PySem.W.Frag} {mg : Str → Option Value} {base : Heap} {C CI CO CG : Addr}
/-! ### plain -/
def spPlain (C CG : Addr) : Sp := fun vs H Q E => ∃ n m z, vs = [.ref C, .int n, .int m, .str (S z)] ∧ 1 ≤ n ∧ n ≤ 8 ∧ 1 ≤ m ∧ m ≤ 8 ∧ z.length ≤ 1000 ∧ (goodB z = false → Lets E CG [("sign", .str (S z))] H) ∧
  (∀ c, z = [c] → Good c → ∀ p H', Same H H' → H p = none → PicAt C H' p (List.replicate m.toNat (List.replicate n.toNat c)) → Q (.ref p) H')
theorem scPlain : FnScope ["cls", "width", "height", "sign"] ["cls", "width", "height", "sign"] (defScope cPicturePlain) := ⟨rfl, rfl, rfl, by decide +kernel, rfl, by decide +kernel, by decide +kernel⟩
theorem ok_plain {f fG fI : Addr} {fd dG dI : FuncData} (F : Fun K "plain" "Picture.plain" cPicturePlain f fd) (cG : Cl P w K mg base (L2.CX P w) 3 "check_sign" ["sign"] (spCSign CG) fG dG)
    (OI : FnOk P w K mg base (L2.CX P w) 5 fI dI ["self", "rows"] (spInit C CI)) (M : Mk K C fI) (bI : Binds K dI ["self", "rows"] []) :
    FnOk P w K mg base (L2.CX P w) 7 f fd ["cls", "width", "height", "sign"] (spPlain C CG) := by
  refine F.okX scPlain (fun vs H Q E h => ?_) (fun cdv A outer s H vs Q E hr h => ?_)
  · obtain ⟨n, m, z, rfl, _⟩ := h
    rfl
  · obtain ⟨n, m, z, rfl, n1, n8, m1, m8, lz, kG, k⟩ := h
    have hr3 : Room 3 _ := hr.mono (by decide)
    refine ⟨_, pss_cons (ps_expr (pe_callS (E := fun _ => E) cG.ok hr3 (by rfl) cG.gl cG.kp cG.bd (fun σ pins H s e s' I c => passes_call (takes_of rfl rfl rfl rfl) (fun _ _ _ _ z => z) pins σ H s e s' I c) (pa_cons (pv 3) pa_nil)))
      (pss_one (ps_ret (pe_makeV (i := 0) (E := fun _ => E) M OI hr rfl (.inl rfl) bI (fun σ pins H s e s' I c => passes_call (takes_of rfl rfl rfl rfl) (fun _ _ _ _ z => z) pins σ H s e s' I c) (pa_cons (pe_op op_rep (pe_lst (pa_cons (pe_op op_mul_str (pv 3) (pv 1)) pa_nil)) (pv 2)) pa_nil)))), ?_⟩
    refine ⟨_, rfl, z, rfl, lz, kG, fun go => ?_⟩
    obtain ⟨c, rfl, gc⟩ := goodB_one go
    refine ⟨rfl, _, rfl, _, rfl, S [c], n, rfl, rfl, by rw [len_S]; exact (show 1 ≤ 1000 by decide), by omega, by omega, small_line (by show 1 ≤ 1000; decide), fun q nq => ?_⟩
    rw [mul1]
    refine ⟨_, rfl, q, m, _, rfl, rfl, upd_same, by omega, by omega, small_line (by show 1 * m.toNat ≤ 1000; omega), fun p np => ?_⟩
    have e1 : (List.replicate m.toNat [V.str (S (List.replicate n.toNat c))]).flatten = rowsV (List.replicate m.toNat (List.replicate n.toNat c)) := by
      unfold rowsV
      rw [List.map_replicate, List.flatten_replicate_singleton]
    rw [e1]
    have s1 : Same H (upd (upd H q (.lst [.str (S (List.replicate n.toNat c))])) p (.lst (rowsV (List.replicate m.toNat (List.replicate n.toNat c))))) := (same_upd nq).trans (same_upd np)
    have hp : (upd (upd H q (.lst [.str (S (List.replicate n.toNat c))])) p (.lst (rowsV (List.replicate m.toNat (List.replicate n.toNat c))))) p = some (.lst (rowsV (List.replicate m.toNat (List.replicate n.toNat c)))) := upd_same
    have gp : Grid (List.replicate m.toNat (List.replicate n.toNat c)) n.toNat := Grid.plain (by omega) (by omega) (by omega) (by omega) gc
    have k1 := k c rfl gc
    clear k
    generalize List.replicate m.toNat (List.replicate n.toNat c) = R at *
    intro x dx nx nd ne
    exact ⟨x, dx, p, R, rfl, upd_same, made_same nx nd _ _ hp, Nat.le_trans gp.h8 (by decide), fun q m => by rw [gp.row q m]; omega, gone (by rw [gp.line]; decide), fun _ H' hp' sb => ⟨rfl, k1 x H' (s1.trans (made_but nx nd sb)) (back s1 nx) hp'⟩⟩
/-! ### str -/
theorem nl_S : ("\n" : Str) = S [10] := by decide +kernel
def spStr (C : Addr) : Sp := fun vs H Q _ => ∃ r R n, vs = [.ref r] ∧ PicAt C H r R ∧ Grid R n ∧ Q (.str (S (TL.joinL [10] R))) H
theorem scStr : FnScope ["self"] ["self"] (defScope cPictureStr) := ⟨rfl, rfl, rfl, by decide +kernel, rfl, by decide +kernel, by decide +kernel⟩
theorem sum_le (n : Nat) : ∀ R : Rows, (∀ z ∈ R, z.length ≤ n) → (R.map (·.length)).sum ≤ R.length * n
  | [], _ => by simp
  | z :: R, h => by
    have e := sum_le n R fun y m => h y (List.mem_cons_of_mem _ m)
    have e1 := h z List.mem_cons_self
    simp only [List.map_cons, List.sum_cons, List.length_cons]
    rw [Nat.add_mul]
    omega
theorem strs_rows (R : Rows) : (R.map S).map V.str = rowsV R := by
  rw [List.map_map]
  rfl
theorem join_fit {R : Rows} {n : Nat} (g : Grid R n) : ((R.map S).map (·.length)).sum + (R.map S).length * ("\n" : Str).length ≤ 16777216 := by
  have e2 : ((R.map S).map (·.length)) = R.map (·.length) := lens R
  have e3 := sum_le 8 R fun z m => by rw [g.row z m]; exact g.w8
  have h8 := g.h8
  rw [e2, nl_S, len_S, List.length_map]
  show (R.map (·.length)).sum + R.length * 1 ≤ 16777216
  omega
theorem ok_str {f : Addr} {fd : FuncData} (F : Fun K "__str__" "Picture.__str__" cPictureStr f fd) (T : PCls K C) : FnOk P w K mg base CX0 1 f fd ["self"] (spStr C) := by
  refine F.ok scStr (fun vs H Q E h => ?_) (fun cdv A outer s H vs Q E hr h => ?_)
  · obtain ⟨r, R, n, rfl, _⟩ := h
    rfl
  · obtain ⟨r, R, n, rfl, ⟨dx, l, h1, h2⟩, g, k⟩ := h
    refine ⟨_, pss_one (ps_ret (pe_join pe_str (pe_fld (pv 0) rfl))), ?_⟩
    refine ⟨⟨_, rfl⟩, _, rfl, r, C, dx, _, _, rfl, h1, T.cl, T.nR, rfl, ("\n" : Str), l, R.map S, rfl, rfl, .inl (by rw [strs_rows]; exact SqL.of h2), join_fit g, ?_⟩
    rw [nl_S, join_S [10] R]
    exact k
end
/-! ### str(picture) -/
structure OwnM (K : PySem.W.Frag) (C : Addr) (m : Str) (f : Addr) : Prop where
  at_ : PySem.W.findIn K (.ref C) m = some (some (.ref f))
  fn : PySem.W.isFn K (.ref f) = true
section
variable {X : Cx} {CXf : CXT} {k : Nat} {f C : Addr} {fd : FuncData} {ps : List Str} {sp : Sp} {E : XK} {pins : List (Addr × Obj)} {σ : L2.St} {H : Hp} {s : Shared}
/-- a def called from any place around, with the caller's frames -/
theorem run_at {A : Around} {Q : VK} {us : List Value} {vs : List V} (F : FnOk X.prog X.w X.K X.mg X.base CXf k f fd ps sp) (hr : Room k A) (fr : A.frames = X.A.frames) (hb : Binds X.K fd ps []) (hx : Passes CXf X E) (I : L2.Inv X pins σ H s)
    (r : Vals vs us) (h : sp vs H Q E) : wpAny (model X.prog X.w) A (call (.ref f) us) (EP X pins σ Q) X.xe s := by
  have e0 : Env0 X.prog X.w X.K X.mg X.base A X.stack s H := by
    have e := I.env0
    exact ⟨by rw [fr]; exact e.frames, e.mod, e.bs, e.bsz, e.funs, e.frf, e.hok, e.bare⟩
  have hl := F.len _ _ _ _ h
  refine wpAny_call (codeAny_mono (F.run A X.stack s H ⟨us, []⟩ us vs _ E hr e0 (by
    have := hb s us I.kIn (by rw [List.append_nil, ← r.length]; exact hl)
    simpa using this) r h) fun q s' hq => ?_)
  cases q with
  | error e => exact hx pins σ H s e s' I hq
  | ok fl =>
    cases fl with
    | ret u => exact I.after hq
    | next => exact False.elim hq
    | brk => exact False.elim hq
    | cont => exact False.elim hq
theorem pic_inst {r : Addr} {R : Rows} (I : L2.Inv X pins σ H s) (h : PicAt C H r R) : ∃ ox od, PySem.W.InstAt s.heap r ox C od := by
  obtain ⟨dx, l, h1, _⟩ := h
  obtain ⟨mA, J, _⟩ := ins_get I.hok h1
  obtain ⟨od, J, _⟩ := J.look
  exact ⟨_, _, J⟩
def rStrP (C : Addr) : List V → Hp → VK → Prop := fun xs H Q => ∃ r R n, xs = [.ref r] ∧ PicAt C H r R ∧ Grid R n ∧ Q (.str (S (TL.joinL [10] R))) H
theorem call_strP (O : FnOk X.prog X.w X.K X.mg X.base CX0 k f fd ["self"] (spStr C)) (hr : Room (k + 2) X.A) (b : Binds X.K fd ["self"] []) (m : OwnM X.K C "__str__" f) : CallR X (.type "str") (rStrP C) := by
  intro pins s σ H xs us Q I r h
  obtain ⟨r0, R, n, rfl, hp, g, q⟩ := h
  match r with
  | .cons rx .nil =>
    cases rx
    obtain ⟨ox, od, J⟩ := pic_inst I hp
    refine PySem.W.kso_call (hr.in1.in1.units0) I.kIn J m.at_ m.fn ?_
    refine wpAny_mono (run_at (Q := fun v H' => v = .str (S (TL.joinL [10] R)) ∧ H' = H) (E := E0) (vs := [.ref r0]) O hr.in1.in1 rfl b pass0 I (.cons rfl .nil) ⟨r0, R, n, rfl, hp, g, rfl, rfl⟩) (fun v s' z => ?_) fun _ _ z => z
    obtain ⟨v', H', I', rv, rfl, rfl⟩ := z
    obtain ⟨t, rfl⟩ := rv
    exact ⟨.str _, _, I', ⟨_, rfl⟩, q⟩
end
end Pm
namespace Pm
open PySem PySem.Spec PyProof.Rows L2 SX
/-! ### rows as data -/
/-- no sign is far out, none ends a line -/
def Low (R : Rows) : Prop := ∀ r ∈ R, ∀ c ∈ r, c < 256 ∧ c ≠ 10
def dR (r : List Nat) : PyData := .str (S r)
theorem dR_eqv (r q : List Nat) : PyData.eqv (dR r) (dR q) = decide (r = q) := by
  show (S r == S q) = _
  exact S_beq_eq
theorem dRs_lay : ∀ {M : Rows}, Low M → PyData.canLayAll0 (M.map dR) = true
  | [], _ => rfl
  | r :: M, h => by
    have e1 := dRs_lay (M := M) fun q m => h q (List.mem_cons_of_mem _ m)
    have e2 : PyData.strOk (S r) = true := by
      show (S r).cps.all (· < 0x110000) = true
      rw [Array.all_eq_true]
      intro i hi
      have m := h r List.mem_cons_self _ (List.getElem_mem (l := r) (n := i) (by simpa using hi))
      exact decide_eq_true (Nat.lt_of_lt_of_le (by simpa using m.1) (by decide))
    show (PyData.strOk (S r) && PyData.canLayAll0 (M.map dR)) = true
    rw [e1, e2]
    rfl
theorem dRs_depth : ∀ M : Rows, PyData.depthAll (M.map dR) = 0
  | [] => by simp [PyData.depthAll]
  | c :: M => by
    have := dRs_depth M
    simp [PyData.depthAll, dR, PyData.depth, this]
theorem dRs_shaped {M : Rows} (h : Low M) : SeqAt.shaped (.list (M.map dR)) = true := by
  have z := dRs_depth M
  have y := dRs_lay h
  simp [SeqAt.shaped, PyData.canLay0, PyData.depth, y, z]
theorem dRs_eqvAll : ∀ M N : Rows, PyData.eqvAll (M.map dR) (N.map dR) = decide (M = N)
  | [], N => by cases N <;> simp [PyData.eqvAll]
  | r :: M, [] => by simp [PyData.eqvAll]
  | r :: M, q :: N => by
    rw [List.map_cons, List.map_cons]
    show (PyData.eqv (dR r) (dR q) && PyData.eqvAll (M.map dR) (N.map dR)) = _
    rw [dR_eqv, dRs_eqvAll M N]
    simp
theorem dRs_eqv (M N : Rows) : PyData.eqv (.list (M.map dR)) (.list (N.map dR)) = decide (M = N) := by
  simp [PyData.eqv, dRs_eqvAll]
theorem dp_rows {K : PySem.W.Frag} {H : Hp} : ∀ R : Rows, DpAll K H (rowsV R) (R.map dR)
  | [] => .nil
  | r :: R => .cons (.str _) (dp_rows R)
theorem dp_list {K : PySem.W.Frag} {H : Hp} {a : Addr} {R : Rows} (h : H a = some (.lst (rowsV R))) : Dp K H (.ref a) (.list (R.map dR)) := .lst (SqL.of h) (dp_rows R)
theorem Low.nil : Low [] := fun r m => nomatch m
end Pm
namespace Pm
open PySem PySem.Spec PyProof.Rows L2 SX
theorem ixN_nat {n j : Nat} (h : j < n) : ixN n (j : Int) = some j := by
  unfold ixN
  rw [if_pos (by omega), if_pos (by omega)]
  rfl
theorem cut_from (xs : List V) (n : Nat) : cutV xs (some (n : Int)) none = xs.drop n := by
  unfold cutV
  rw [HT.sIx_none, HT.sIx_nat]
  rcases Nat.le_total n xs.length with h | h
  · rw [Nat.min_eq_left h, List.take_of_length_le (by rw [List.length_drop]; omega)]
  · rw [Nat.min_eq_right h, Nat.sub_self, List.take_zero, List.drop_of_length_le h]
def signAt (R : Rows) (x y : Int) : List Nat := if inB R x y = true then [(rowAt R y.toNat).getD x.toNat 0] else [35]
def LowR (z : List Nat) : Prop := ∀ c ∈ z, c < 256 ∧ c ≠ 10
theorem Grid.low {R : Rows} {n : Nat} (g : Grid R n) : Low R := fun r m c mc => good_low (g.sgn r m c mc)
theorem inB_out {R : Rows} {n : Nat} (g : Grid R n) {x y : Int} (h : y < 0 ∨ (R.length : Int) ≤ y ∨ x < 0 ∨ (n : Int) ≤ x) : inB R x y = false := by
  unfold inB
  rw [g.wide]
  by_cases a : 0 ≤ x ∧ x < (n : Int)
  · rw [decide_eq_false (show ¬ (0 ≤ y ∧ y < (R.length : Int)) by omega), Bool.and_false]
  · rw [decide_eq_false a, Bool.false_and]
theorem inB_in {R : Rows} {n : Nat} (g : Grid R n) {x y : Int} (a : 0 ≤ x) (b : x < (n : Int)) (c : 0 ≤ y) (d : y < (R.length : Int)) : inB R x y = true := by
  unfold inB
  rw [g.wide, decide_eq_true (show 0 ≤ x ∧ x < (n : Int) from ⟨a, b⟩), decide_eq_true (show 0 ≤ y ∧ y < (R.length : Int) from ⟨c, d⟩)]
  rfl
theorem rowsV_get {R : Rows} {n j : Nat} (g : Grid R n) (hj : j < R.length) : (rowsV R)[j]? = some (.str (S (rowAt R j))) := by
  unfold rowsV
  rw [List.getElem?_map, (g.at hj).1]
  rfl
section
variable {P : Program} {w : World} {K : PySem.W.Frag} {mg : Str → Option Value} {base : Heap} {C CI CO CG : Addr}
/-! ### _law_sign -/
def spSign : Sp := fun vs H Q _ => ∃ a R n x y, vs = [.ref a, .int x, .int y] ∧ H a = some (.lst (rowsV R)) ∧ Grid R n ∧ Q (.str (S (signAt R x y))) H
theorem scSign : FnScope ["_law_rows", "_law_cx", "_law_cy"] ["_law_rows", "_law_cx", "_law_cy"] (defScope lSign) := ⟨rfl, rfl, rfl, by decide +kernel, rfl, by decide +kernel, by decide +kernel⟩
theorem ok_sign {f : Addr} {fd : FuncData} (F : Fun K "_law_sign" "_law_sign" lSign f fd) (L : LTxt K mg) : FnOk P w K mg base CX0 1 f fd ["_law_rows", "_law_cx", "_law_cy"] spSign := by
  refine F.ok scSign (fun vs H Q E h => ?_) (fun cdv A outer s H vs Q E hr h => ?_)
  · obtain ⟨a, R, n, x, y, rfl, _⟩ := h
    rfl
  · obtain ⟨a, R, n, x, y, rfl, ha, g, k⟩ := h
    refine ⟨_, pss_cons (ps_if (PW.pt (pw_or (pt_cmpR op_lt (pv 2) pe_int (nomark _)) (pw_or (pt_cmpR op_ge (pv 2) (pe_callB call_len_seq (by rfl) L.len PySem.boot_len (pa_cons (pv 0) pa_nil)) (nomark _)) (pw_or (pt_cmpR op_lt (pv 1) pe_int (nomark _)) (pw_or1 (pt_cmpR op_ge (pv 1) (pe_callB call_len_str (by rfl) L.len PySem.boot_len (pa_cons (pe_ix ix_list (pv 0) pe_int (fun _ _ => rfl)) pa_nil)) (nomark _))))))) (pss_one (ps_ret pe_str)) pss_nil)
      (pss_one (ps_ret (pe_ix ix_str (pe_ix ix_list (pv 0) (pv 2) (fun _ _ => rfl)) (pv 1) (fun _ _ => rfl)))), ?_⟩
    have out : (y < 0 ∨ (R.length : Int) ≤ y ∨ x < 0 ∨ (n : Int) ≤ x) → Q (.str ("#" : Str)) H := fun o => by
      unfold signAt at k
      rw [if_neg (by rw [inB_out g o]; decide)] at k
      rw [show ("#" : Str) = S [35] by decide +kernel]
      exact k
    have h1 := g.h1
    have r0 := rowsV_get g (show 0 < R.length by omega)
    have l0 := (g.at (show 0 < R.length by omega)).2.2
    have w8 := g.w8
    refine ⟨_, rfl, _, _, rfl, rfl, _, rfl, ?_⟩
    by_cases c1 : y < 0
    · exact iteTe (decide_eq_true c1) (iteT (out (.inl c1)))
    refine iteFe (decide_eq_false c1) ⟨_, rfl, _, rfl, a, _, rfl, .inl (SqL.of ha), _, _, rfl, rfl, _, rfl, ?_⟩
    rw [rowsV_len]
    by_cases c2 : (R.length : Int) ≤ y
    · exact iteTe (decide_eq_true c2) (iteT (out (.inr (.inl c2))))
    refine iteFe (decide_eq_false c2) ⟨_, rfl, _, _, rfl, rfl, _, rfl, ?_⟩
    by_cases c3 : x < 0
    · exact iteTe (decide_eq_true c3) (iteT (out (.inr (.inr (.inl c3)))))
    refine iteFe (decide_eq_false c3) ⟨_, rfl, _, rfl, a, _, 0, _, rfl, rfl, SqL.of ha, atI_nat (j := 0) r0, _, rfl, by rw [len_S, l0]; exact small_line (by omega), _, _, rfl, rfl, _, rfl, ?_⟩
    rw [len_S, l0]
    by_cases c4 : (n : Int) ≤ x
    · exact iteTe (decide_eq_true c4) (out (.inr (.inr (.inr c4))))
    refine iteFe (decide_eq_false c4) ?_
    have io := inB_in g (x := x) (y := y) (by omega) (by omega) (by omega) (by omega)
    obtain ⟨i, j, rfl, rfl, hi, hj⟩ := g.inside io
    obtain ⟨e1, m1, l1⟩ := g.at hj
    have ge : (rowAt R j)[i]? = some ((rowAt R j).getD i 0) := by
      rw [List.getD_eq_getElem?_getD, List.getElem?_eq_getElem (by omega)]
      rfl
    unfold signAt at k
    rw [if_pos io] at k
    exact ⟨_, rfl, _, rfl, a, _, (j : Int), _, rfl, rfl, SqL.of ha, atI_nat (rowsV_get g hj), _, rfl, _, _, _, rfl, rfl, by rw [len_S, l1]; exact small_line (by omega), atI_nat ge, k⟩
/-! ### _law_put -/
def spPut : Sp := fun vs H Q _ => ∃ a R n i j z, vs = [.ref a, .int ((i : Nat) : Int), .int ((j : Nat) : Int), .str (S z)] ∧ H a = some (.lst (rowsV R)) ∧ Grid R n ∧ i < n ∧ j < R.length ∧ z.length ≤ 2 ∧ ∀ p H', Same H H' → H p = none → H' p = some (.lst (rowsV (putR R i j z))) → Q (.ref p) H'
abbrev nPut : List Str := ["_law_rows", "_law_cx", "_law_cy", "_law_sign_here", "_law_row_here", "_law_changed_here"]
theorem scPut : FnScope nPut ["_law_rows", "_law_cx", "_law_cy", "_law_sign_here"] (defScope lPut) := ⟨rfl, rfl, rfl, by decide +kernel, rfl, by decide +kernel, by decide +kernel⟩
theorem ok_put {f : Addr} {fd : FuncData} (F : Fun K "_law_put" "_law_put" lPut f fd) : FnOk P w K mg base CX0 1 f fd ["_law_rows", "_law_cx", "_law_cy", "_law_sign_here"] spPut := by
  refine F.ok scPut (fun vs H Q E h => ?_) (fun cdv A outer s H vs Q E hr h => ?_)
  · obtain ⟨a, R, n, i, j, z, rfl, _⟩ := h
    rfl
  · obtain ⟨a, R, n, i, j, z, rfl, ha, g, hi, hj, lz, k⟩ := h
    refine ⟨_, pss_cons (ps_set (i := 4) scPut.nd rfl (.inl rfl) (pe_ix ix_list (pv 0) (pv 2) (fun _ _ => rfl)))
      (pss_cons (ps_set (i := 5) scPut.nd rfl (.inl rfl) (pe_op op_add_str (pe_op op_add_str (pe_slice C8.sl_txt (pv 4) po_none (po_some (pv 1))) (pv 3)) (pe_slice C8.sl_txt (pv 4) (po_some (pe_op op_add (pv 1) pe_int)) po_none)))
      (pss_one (ps_ret (pe_op op_cat (pe_op op_cat (pe_slice sl_list (pv 0) po_none (po_some (pv 2))) (pe_lst (pa_cons (pv 5) pa_nil))) (pe_slice sl_list (pv 0) (po_some (pe_op op_add (pv 2) pe_int)) po_none))))), ?_⟩
    obtain ⟨e1, m1, l1⟩ := g.at hj
    have w8 := g.w8
    have h8 := g.h8
    have line : (S (rowAt R j)).length ≤ sizeLine := by rw [len_S]; exact small_line (by omega)
    have t1 : Txt.slice (S (rowAt R j)) none (some (i : Int)) = S ((rowAt R j).take i) := slice_to (by omega)
    have t2 : Txt.slice (S (rowAt R j)) (some ((i : Int) + 1)) none = S ((rowAt R j).drop (i + 1)) := slice_from (by omega)
    have lt : ((rowAt R j).take i).length ≤ 8 := by rw [List.length_take]; omega
    have ld : ((rowAt R j).drop (i + 1)).length ≤ 8 := by rw [List.length_drop]; omega
    refine ⟨_, rfl, _, rfl, a, _, (j : Int), _, rfl, rfl, SqL.of ha, atI_nat (rowsV_get g hj), ?_⟩
    refine ⟨_, rfl, _, rfl, _, rfl, S _, rfl, line, _, rfl, _, _, rfl, rfl, ?_, _, rfl, _, rfl, _, _, rfl, rfl, _, rfl, S _, rfl, line, _, _, rfl, rfl, ?_, ?_⟩
    · rw [t1, len_S, len_S]
      exact small_line (by omega)
    · rw [t1, t2, S_cat, len_S, len_S, List.length_append]
      exact small_line (by omega)
    rw [t1, t2, S_cat, S_cat]
    have new : rowsV (putR R i j z) = (rowsV R).take j ++ [V.str (S ((rowAt R j).take i ++ z ++ (rowAt R j).drop (i + 1)))] ++ (rowsV R).drop (j + 1) := by
      unfold putR rowsV
      rw [List.set_eq_take_append_cons_drop, if_pos hj, List.map_append, List.map_cons, List.map_take, List.map_drop]
      exact List.append_cons _ _ _
    generalize (rowAt R j).take i ++ z ++ (rowAt R j).drop (i + 1) = q at new
    refine ⟨_, rfl, _, rfl, _, rfl, a, _, rfl, SqL.of ha, fun p np => ?_⟩
    rw [cut_to]
    refine ⟨_, rfl, small_line (by show 1 ≤ 1000; decide), fun p2 np2 => ?_⟩
    have s1 := same_upd (o := .lst ((rowsV R).take j)) np
    have s2 := same_upd (o := .lst [V.str (S q)]) np2
    refine ⟨p, p2, _, _, rfl, rfl, s2 _ _ upd_same, upd_same, ?_, fun p3 np3 => ?_⟩
    · rw [List.length_take, rowsV_len]
      show _ + 1 ≤ sizeLine
      exact small_line (by omega)
    have s3 := same_upd (o := .lst ((rowsV R).take j ++ [V.str (S q)])) np3
    have s123 := (s1.trans s2).trans s3
    refine ⟨_, rfl, _, rfl, _, _, rfl, rfl, _, rfl, a, _, rfl, SqL.of (s123 _ _ ha), fun p4 np4 => ?_⟩
    have e5 : cutV (rowsV R) (some ((j : Int) + 1)) none = (rowsV R).drop (j + 1) := cut_from (rowsV R) (j + 1)
    rw [e5]
    have s4 := same_upd (o := .lst ((rowsV R).drop (j + 1))) np4
    refine ⟨p3, p4, _, _, rfl, rfl, s4 _ _ upd_same, upd_same, ?_, fun p5 np5 => ?_⟩
    · rw [List.length_append, List.length_take, List.length_drop, rowsV_len]
      show _ + 1 + _ ≤ sizeLine
      exact small_line (by omega)
    · rw [← new]
      have s14 := s123.trans s4
      exact k p5 _ (s14.trans (same_upd np5)) (back s14 np5) upd_same
/-! ### _law_text, _law_good -/
def spText : Sp := fun vs H Q _ => ∃ b l z, vs = [.ref b, .str (S z)] ∧ BagL H b l ∧ Pal z ∧ ∀ q H', q.length ≤ 2 → LowR q → SameBut b H H' → BagL H' b l → Q (.str (S q)) H'
theorem scText : FnScope ["_law_bag_here", "_law_palette_here", "_law_pick"] ["_law_bag_here", "_law_palette_here"] (defScope lText) := ⟨rfl, rfl, rfl, by decide +kernel, rfl, by decide +kernel, by decide +kernel⟩
def seven : List (List Nat) := [[], [97, 98], [65], [35], [46, 46], [48], [32]]
theorem seven_eq : ([.str "", .str "ab", .str "A", .str "#", .str "..", .str "0", .str " "] : List V) = rowsV seven := by decide +kernel
theorem seven_low : ∀ z ∈ seven, z.length ≤ 2 ∧ ∀ c ∈ z, c < 256 ∧ c ≠ 10 := by decide
theorem ok_text {f t : Addr} {fd td : FuncData} (F : Fun K "_law_text" "_law_text" lText f fd) (T : Cl P w K mg base CX0 1 "_law_take" tkNames spTake t td) : FnOk P w K mg base CX0 2 f fd ["_law_bag_here", "_law_palette_here"] spText := by
  refine F.ok scText (fun vs H Q E h => ?_) (fun cdv A outer s H vs Q E hr h => ?_)
  · obtain ⟨b, l, z, rfl, _⟩ := h
    rfl
  · obtain ⟨b, l, z, rfl, hb, hz, k⟩ := h
    refine ⟨_, pss_cons (ps_set (i := 2) scText.nd rfl (.inl rfl) (pe_call T.ok hr (by rfl) T.gl T.kp T.bd .nil pass0 (pa_cons (pv 0) (pa_cons pe_int pa_nil))))
      (pss_cons (ps_if (pt_cmpR op_lt (pv 2) pe_int (nomark _)) (pss_one (ps_ret (pe_ix ix_str (pv 1) (pv 2) (fun _ _ => rfl)))) pss_nil)
      (pss_cons (ps_if (pt_cmpR op_lt (pv 2) pe_int (nomark _)) (pss_one (ps_ret pe_str)) pss_nil)
      (pss_one (ps_ret (pe_ix ix_list (pe_lst (pa_cons pe_str (pa_cons pe_str (pa_cons pe_str (pa_cons pe_str (pa_cons pe_str (pa_cons pe_str (pa_cons pe_str pa_nil)))))))) (pe_op op_sub (pv 2) pe_int) (fun _ _ => rfl)))))), ?_⟩
    refine ⟨_, rfl, b, l, 12, rfl, hb, by decide, by decide, fun m G m0 m1 u1 b1 => ?_⟩
    have s1 := but_same u1
    have lz := hz.len
    refine ⟨_, rfl, _, _, rfl, rfl, _, rfl, ite2 (fun a => ?_) (fun a => ?_)⟩
    · have a : m < 3 := of_decide_eq_true a
      obtain ⟨i, rfl⟩ : ∃ i : Nat, m = (i : Int) := ⟨m.toNat, by omega⟩
      have hi : i < z.length := by omega
      have ge : z[i]? = some z[i] := List.getElem?_eq_getElem hi
      have me : z[i] ∈ z := List.getElem_mem hi
      generalize z[i] = c at ge me
      refine ⟨_, rfl, _, rfl, S z, (i : Int), c, rfl, rfl, by rw [len_S, lz]; exact small_line (by decide), atI_nat ge, ?_⟩
      exact k [c] G (by show 1 ≤ 2; decide) (fun d md => by rw [List.mem_singleton.mp md]; exact good_low (.inr (hz.good me))) s1 b1
    · have a : ¬ m < 3 := fun y => a (decide_eq_true y)
      refine ⟨_, rfl, _, _, rfl, rfl, _, rfl, ite2 (fun c => ?_) (fun c => ?_)⟩
      · have q := k [46] G (by show 1 ≤ 2; decide) (fun d md => by rw [List.mem_singleton.mp md]; decide) s1 b1
        rw [← dot_S] at q
        exact q
      · have c : ¬ m < 5 := fun y => c (decide_eq_true y)
        refine ⟨small_line (by show 7 ≤ 1000; decide), fun q nq => ?_⟩
        obtain ⟨i, hi⟩ : ∃ i : Nat, m - 5 = (i : Int) := ⟨(m - 5).toNat, by omega⟩
        have i7 : i < seven.length := by
          show i < 7
          omega
        have ge : seven[i]? = some seven[i] := List.getElem?_eq_getElem i7
        have me : seven[i] ∈ seven := List.getElem_mem i7
        generalize seven[i] = y at ge me
        have gv : (rowsV seven)[i]? = some (.str (S y)) := by
          unfold rowsV
          rw [List.getElem?_map, ge]
          rfl
        rw [← seven_eq] at gv
        refine ⟨_, rfl, _, _, rfl, rfl, q, _, m - 5, _, rfl, rfl, SqL.of upd_same, by rw [hi]; exact atI_nat gv, ?_⟩
        have y2 := seven_low y me
        exact k y _ y2.1 y2.2 (sb_trans s1 (same_sb (same_upd nq))) (bag_upd b1 nq)
def spGood : Sp := fun vs H Q _ => ∃ z, vs = [.str (S z)] ∧ z.length ≤ 2 ∧ Q (.bl (goodB z)) H
theorem scGood : FnScope ["_law_sign_here"] ["_law_sign_here"] (defScope lGood) := ⟨rfl, rfl, rfl, by decide +kernel, rfl, by decide +kernel, by decide +kernel⟩
abbrev signsS : Str := ".abcdefghijklmnopqrstuvwxyz"
theorem signs_mem (c : Nat) : c ∈ signsS.cps.toList ↔ Good c := by
  have e : signsS.cps.toList = 46 :: List.range' 97 26 := by decide +kernel
  rw [e, List.mem_cons, List.mem_range'_1]
  unfold Good Let
  omega
theorem ok_good {f : Addr} {fd : FuncData} (F : Fun K "_law_good" "_law_good" lGood f fd) (L : LTxt K mg) : FnOk P w K mg base CX0 1 f fd ["_law_sign_here"] spGood := by
  refine F.ok scGood (fun vs H Q E h => ?_) (fun cdv A outer s H vs Q E hr h => ?_)
  · obtain ⟨z, rfl, _⟩ := h
    rfl
  · obtain ⟨z, rfl, lz, k⟩ := h
    refine ⟨_, pss_one (ps_ret (pe_and (pe_cmpR op_eq (pe_callB call_len_str (by rfl) L.len PySem.boot_len (pa_cons (pv 0) pa_nil)) pe_int (nomark _)) (pe_one (pe_cmpR op_in_sign (pv 0) pe_str (by rfl))))), ?_⟩
    refine ⟨_, rfl, _, rfl, by rw [len_S]; exact small_line (by omega), rfl, _, rfl, ite2 (fun e => ?_) (fun e => ?_)⟩
    · have e1 : z.length = 1 := by
        have y := of_decide_eq_true e
        simp only [V.int.injEq] at y
        rw [len_S] at y
        omega
      obtain ⟨c, rfl⟩ := len_one e1
      refine ⟨_, rfl, c, _, rfl, rfl, ?_⟩
      have y : decide (c ∈ signsS.cps.toList) = goodB [c] := decide_eq_decide.mpr (signs_mem c)
      rw [y]
      exact k
    · rw [goodB_ne (fun y => e (decide_eq_true (by rw [len_S, y]; rfl)))] at k
      exact k
end
end Pm
namespace Pm
open PySem PySem.Spec PyProof.Rows L2 SX
/-! ### what is due -/
def dueD (R : Rows) (x y : Int) (z : List Nat) : PyData :=
  if inB R x y = true then (if goodB z = true then .list ((putR R x.toNat y.toNat z).map dR) else .tuple [.str "sign", .str (S z), .bool true]) else .tuple [.str "out", .int x, .int y, .bool true]
def dueP (n m : Int) (z : List Nat) : PyData := if goodB z = true then .list ((List.replicate m.toNat (List.replicate n.toNat (z.headD 0))).map dR) else .tuple [.str "sign", .str (S z), .bool true]
theorem strOk_of {z : List Nat} (h : LowR z) : PyData.strOk (S z) = true := by
  show (S z).cps.all (· < 0x110000) = true
  rw [Array.all_eq_true]
  intro i hi
  have m := h _ (List.getElem_mem (l := z) (n := i) (by simpa using hi))
  exact decide_eq_true (Nat.lt_of_lt_of_le (by simpa using m.1) (by decide))
theorem sign_ok {z : List Nat} (h : LowR z) : SeqAt.shaped (.tuple [.str "sign", .str (S z), .bool true]) = true ∧ PyData.eqv (.tuple [.str "sign", .str (S z), .bool true]) (.tuple [.str "sign", .str (S z), .bool true]) = true := by
  have o := strOk_of h
  have o2 : PyData.strOk "sign" = true := by decide +kernel
  refine ⟨?_, ?_⟩
  · simp [SeqAt.shaped, PyData.canLay0, PyData.canLayAll0, PyData.depth, PyData.depthAll, o, o2]
  · simp [PyData.eqv, PyData.eqvAll]
theorem out_ok (x y : Int) : SeqAt.shaped (.tuple [.str "out", .int x, .int y, .bool true]) = true ∧ PyData.eqv (.tuple [.str "out", .int x, .int y, .bool true]) (.tuple [.str "out", .int x, .int y, .bool true]) = true := by
  have o2 : PyData.strOk "out" = true := by decide +kernel
  refine ⟨?_, ?_⟩
  · simp [SeqAt.shaped, PyData.canLay0, PyData.canLayAll0, PyData.depth, PyData.depthAll, o2]
  · simp [PyData.eqv, PyData.eqvAll]
theorem rows_ok {R : Rows} {n : Nat} (g : Grid R n) : SeqAt.shaped (.list (R.map dR)) = true ∧ PyData.eqv (.list (R.map dR)) (.list (R.map dR)) = true := ⟨dRs_shaped g.low, by rw [dRs_eqv]; exact decide_eq_true rfl⟩
theorem due_ok {R : Rows} {n : Nat} (g : Grid R n) {x y : Int} {z : List Nat} (h : LowR z) : SeqAt.shaped (dueD R x y z) = true ∧ PyData.eqv (dueD R x y z) (dueD R x y z) = true := by
  unfold dueD
  by_cases io : inB R x y = true
  · rw [if_pos io]
    by_cases go : goodB z = true
    · rw [if_pos go]
      obtain ⟨i, j, rfl, rfl, hi, hj⟩ := g.inside io
      obtain ⟨c, rfl, gc⟩ := goodB_one go
      exact rows_ok (g.put hi hj gc)
    · rw [if_neg go]
      exact sign_ok h
  · rw [if_neg io]
    exact out_ok x y
theorem dueP_ok {n m : Int} {z : List Nat} (n1 : 1 ≤ n) (n8 : n ≤ 8) (m1 : 1 ≤ m) (m8 : m ≤ 8) (h : LowR z) : SeqAt.shaped (dueP n m z) = true ∧ PyData.eqv (dueP n m z) (dueP n m z) = true := by
  unfold dueP
  by_cases go : goodB z = true
  · rw [if_pos go]
    obtain ⟨c, rfl, gc⟩ := goodB_one go
    exact rows_ok (Grid.plain (n := n.toNat) (m := m.toNat) (by omega) (by omega) (by omega) (by omega) gc)
  · rw [if_neg go]
    exact sign_ok h
theorem dp_sign {K : PySem.W.Frag} {H : Hp} {p : Addr} {z : List Nat} (h : H p = some (.tup [.str "sign", .str (S z), .bl true])) : Dp K H (.ref p) (.tuple [.str "sign", .str (S z), .bool true]) := .tup (SqT.of h) (.cons (.str _) (.cons (.str _) (.cons (.bl _) .nil)))
theorem dp_out {K : PySem.W.Frag} {H : Hp} {p : Addr} {x y : Int} (h : H p = some (.tup [.str "out", .int x, .int y, .bl true])) : Dp K H (.ref p) (.tuple [.str "out", .int x, .int y, .bool true]) := .tup (SqT.of h) (.cons (.str _) (.cons (.int _) (.cons (.int _) (.cons (.bl _) .nil))))
/-- the classes of the errors -/
structure CTxt (K : PySem.W.Frag) (mg : Str → Option Value) (C CO CG CE : Addr) : Prop where
  gC : mg "Picture" = some (.ref C)
  gO : mg "OutOfPicture" = some (.ref CO)
  gG : mg "InvalidSign" = some (.ref CG)
  gE : mg "SmaltiError" = some (.ref CE)
  erO : ErrC K CO
  erG : ErrC K CG
  nX : PySem.W.findIn K (.ref CO) "x" = some none
  nY : PySem.W.findIn K (.ref CO) "y" = some none
  nS : PySem.W.findIn K (.ref CG) "sign" = some none
  teO : PySem.W.exmOne K (.ref CO) (.ref CO) = some true
  teG : PySem.W.exmOne K (.ref CG) (.ref CG) = some true
  teGO : PySem.W.exmOne K (.ref CG) (.ref CO) = some false
  kO : PySem.W.kitOne K (.ref CO) (.ref CE) = some true
  kG : PySem.W.kitOne K (.ref CG) (.ref CE) = some true
section
variable {P : Program} {w : World} {K : PySem.W.Frag} {mg : Str → Option Value} {base : Heap} {C CI CO CG CE : Addr}
/-! ### _law_changed -/
def isX (K : PySem.W.Frag) (a : Addr) (cls : Value) (d : Option Addr) (i : Nat) (c : V) : TE := tCB (rIsX K a cls d) (tCons (tVar i) (tCons (tC c) tNil))
def tbCh (C CO CG : Addr) (W : WX) : TS := tRet (tMeth C "lines" (spLines C) [] E0 (tMethE C "with_sign" (spWith C CO CG) (WE W) (tVar 0) (tCons (tVar 1) (tCons (tVar 2) (tCons (tVar 3) tNil)))) tNil)
def tsOut (K : PySem.W.Frag) (CE : Addr) (i : Nat) : Addr → Value → Option Addr → TS := fun a cls d => tRet (tTup (tCons (tC (.str "out")) (tCons (tErrX K a cls d "x" (tVar i)) (tCons (tErrX K a cls d "y" (tVar i)) (tCons (isX K a cls d i (.ref CE)) tNil)))))
def tsSgn (K : PySem.W.Frag) (CE : Addr) (i : Nat) : Addr → Value → Option Addr → TS := fun a cls d => tRet (tTup (tCons (tC (.str "sign")) (tCons (tErrX K a cls d "sign" (tVar i)) (tCons (isX K a cls d i (.ref CE)) tNil))))
def spCh (K : PySem.W.Frag) (C : Addr) : Sp := fun vs H Q _ => ∃ r R n x y z, vs = [.ref r, .int x, .int y, .str (S z)] ∧ PicAt C H r R ∧ Grid R n ∧ z.length ≤ 2 ∧ ∀ v H', Same H H' → Dp K H' v (dueD R x y z) → Q v H'
abbrev nCh : List Str := ["_law_picture", "_law_cx", "_law_cy", "_law_sign_here", "e"]
theorem scCh : FnScope nCh ["_law_picture", "_law_cx", "_law_cy", "_law_sign_here"] (defScope lChanged) := ⟨rfl, rfl, rfl, by decide +kernel, rfl, by decide +kernel, by decide +kernel⟩
/-- the way of InvalidSign -/
theorem way_sign (T : CTxt K mg C CO CG CE) {i : Nat} {D : Ends} {σ : L2.St} {H G : Hp} {a d e : Addr} {z : List Nat} {Q : VK} (hσ : σ[i]? = some (some (.ref e))) (he : e = a) (eD : D.rt = Q) (hd : G d = some (.xd [("sign", .str (S z))]))
    (k : ∀ v H', Same G H' → Dp K H' v (.tuple [.str "sign", .str (S z), .bool true]) → Q v H') : tsSgn K CE i a (.ref CG) (some d) D σ G := by
  subst he
  refine ⟨_, hσ, CG, d, _, .str (S z), rfl, rfl, rfl, T.erG, T.nS, hd, rfl, _, hσ, CG, d, _, .ref CE, .ref CE, true, rfl, rfl, rfl, T.erG, hd, fun u z => z, T.kG, ?_⟩
  refine ⟨small_line (by show 3 ≤ 1000; decide), fun p np => ?_⟩
  rw [eD]
  exact k _ _ (same_upd np) (dp_sign upd_same)
theorem way_out (T : CTxt K mg C CO CG CE) {i : Nat} {D : Ends} {σ : L2.St} {G : Hp} {a d e : Addr} {x y : Int} {Q : VK} (hσ : σ[i]? = some (some (.ref e))) (he : e = a) (eD : D.rt = Q) (hd : G d = some (.xd [("y", .int y), ("x", .int x)]))
    (k : ∀ v H', Same G H' → Dp K H' v (.tuple [.str "out", .int x, .int y, .bool true]) → Q v H') : tsOut K CE i a (.ref CO) (some d) D σ G := by
  subst he
  refine ⟨_, hσ, CO, d, _, .int x, rfl, rfl, rfl, T.erO, T.nX, hd, rfl, _, hσ, CO, d, _, .int y, rfl, rfl, rfl, T.erO, T.nY, hd, rfl, _, hσ, CO, d, _, .ref CE, .ref CE, true, rfl, rfl, rfl, T.erO, hd, fun u z => z, T.kO, ?_⟩
  refine ⟨small_line (by show 4 ≤ 1000; decide), fun p np => ?_⟩
  rw [eD]
  exact k _ _ (same_upd np) (dp_out upd_same)
theorem ok_ch {f fW fL : Addr} {fd dW dL : FuncData} (F : Fun K "_law_changed" "_law_changed" lChanged f fd) (L : LTxt K mg) (T : CTxt K mg C CO CG CE) (TC : PCls K C)
    (OW : FnOk P w K mg base (L2.CX P w) 7 fW dW ["self", "x", "y", "sign"] (spWith C CO CG)) (mW : Meth K C "with_sign" fW) (bW : Binds K dW ["self", "x", "y", "sign"] [])
    (OL : FnOk P w K mg base CX0 1 fL dL ["self"] (spLines C)) (mL : Meth K C "lines" fL) (bL : Binds K dL ["self"] []) : FnOk P w K mg base CX0 8 f fd ["_law_picture", "_law_cx", "_law_cy", "_law_sign_here"] (spCh K C) := by
  refine F.ok scCh (fun vs H Q E h => ?_) (fun cdv A outer s H vs Q E hr h => ?_)
  · obtain ⟨r, R, n, x, y, z, rfl, _⟩ := h
    rfl
  · obtain ⟨r, R, n, x, y, z, rfl, hp, g, lz, k⟩ := h
    have hr1 : Room 1 _ := hr.mono (by decide)
    refine ⟨_, pss_one (ps_try_clauses (i := 4) (n := "e") (l := [(.ref CO, tsOut K CE 4), (.ref CG, tsSgn K CE 4)]) (tb := tbCh C CO CG) (Wout := fun _ _ _ _ => False) rfl rfl scCh.nd rfl rfl takes0
        (fun W pn xe tk _ => pss_one (ps_ret (by exact pe_meth0 (by exact pe_methE (pv 0) TC.cl mW OW hr bW (fun σ => passAt tk σ) (by exact (pa_cons (pv 1) (pa_cons (pv 2) (pa_cons (pv 3) pa_nil))))) TC.cl mL OL hr1 bL .nil pass0)))
        (.cons ⟨rfl, by decide, .inl T.gO⟩ (fun a oe cls d pn hz hf => pss_one (ps_ret (by exact pe_tup (pa_cons pe_str (pa_cons (pe_errX hz hf (pv 4)) (pa_cons (pe_errX hz hf (pv 4)) (pa_cons (pe_callB (call_isX hz hf) (by rfl) L.isi (by decide +kernel) (pa_cons (pv 4) (pa_cons (pe_glob (v := .ref CE) (by rfl) T.gE rfl) pa_nil))) pa_nil)))))))
          (.cons ⟨rfl, by decide, .inl T.gG⟩ (fun a oe cls d pn hz hf => pss_one (ps_ret (by exact pe_tup (pa_cons pe_str (pa_cons (pe_errX hz hf (pv 4)) (pa_cons (pe_callB (call_isX hz hf) (by rfl) L.isi (by decide +kernel) (pa_cons (pv 4) (pa_cons (pe_glob (v := .ref CE) (by rfl) T.gE rfl) pa_nil))) pa_nil)))))) .nil))), ?_⟩
    have hp0 := hp
    obtain ⟨dx, l, h1, h2⟩ := hp
    refine ⟨_, rfl, r, dx, _, rfl, h1, rfl, _, rfl, _, rfl, _, rfl, r, R, n, x, y, z, rfl, hp0, g, by omega, fun io d G nd hd sG => ?_, fun io go d G nd hd sG => ?_, fun io go p G sG np hp' => ?_⟩
    · refine ⟨true, T.teO, fun _ e ne => way_out T rfl rfl rfl hd fun v H' s' dp => k v H' (sG.trans s') ?_, fun q => nomatch q⟩
      unfold dueD
      rw [if_neg (by rw [io]; decide)]
      exact dp
    · refine ⟨false, T.teGO, (fun q => nomatch q), fun _ => ⟨true, T.teG, fun _ e ne => way_sign (H := H) T rfl rfl rfl hd fun v H' s' dp => k v H' (sG.trans s') ?_, fun q => nomatch q⟩⟩
      unfold dueD
      rw [if_pos io, if_neg (by rw [go]; decide)]
      exact dp
    · have hp2 := hp'
      obtain ⟨dx2, l2, h3, h4⟩ := hp'
      refine ⟨p, dx2, _, rfl, h3, rfl, p, _, rfl, hp2, fun q G2 s2 nq hq => k _ G2 (sG.trans s2) ?_⟩
      unfold dueD
      rw [if_pos io, if_pos go]
      exact dp_list hq
/-! ### _law_plain -/
def tbPl (C CG : Addr) (W : WX) : TS := tRet (tMeth C "lines" (spLines C) [] E0 (tCMethE C (spPlain C CG) (WE W) (tC (.ref C)) (tCons (tVar 0) (tCons (tVar 1) (tCons (tVar 2) tNil)))) tNil)
def spPl (K : PySem.W.Frag) : Sp := fun vs H Q _ => ∃ n m z, vs = [.int n, .int m, .str (S z)] ∧ 1 ≤ n ∧ n ≤ 8 ∧ 1 ≤ m ∧ m ≤ 8 ∧ z.length ≤ 2 ∧ ∀ v H', Same H H' → Dp K H' v (dueP n m z) → Q v H'
abbrev nPl : List Str := ["_law_wide", "_law_high", "_law_sign_here", "e"]
theorem scPl : FnScope nPl ["_law_wide", "_law_high", "_law_sign_here"] (defScope lPlain) := ⟨rfl, rfl, rfl, by decide +kernel, rfl, by decide +kernel, by decide +kernel⟩
theorem raw0 {CXf : CXT} {k : Nat} {f : Addr} {fd : FuncData} {ps : List Str} {sp : Sp} (O : FnOk P w K mg base CXf k f fd ps sp) (b : Binds K fd ps []) : FnR P w K mg base CXf k f sp := by
  have z := O.raw b (.nil : Vals [] [])
  have e : (fun vs H Q E => sp (vs ++ []) H Q E) = sp := by
    funext vs H Q E
    rw [List.append_nil]
  rwa [e] at z
theorem ok_pl {f fP fL c : Addr} {mc : Value} {fd dP dL : FuncData} (F : Fun K "_law_plain" "_law_plain" lPlain f fd) (L : LTxt K mg) (T : CTxt K mg C CO CG CE) (TC : PCls K C) (cr : ClX.CRead K C mc) (cm : ClX.CMet K C mc "plain" c fP)
    (OP : FnOk P w K mg base (L2.CX P w) 7 fP dP ["cls", "width", "height", "sign"] (spPlain C CG)) (bP : Binds K dP ["cls", "width", "height", "sign"] [])
    (OL : FnOk P w K mg base CX0 1 fL dL ["self"] (spLines C)) (mL : Meth K C "lines" fL) (bL : Binds K dL ["self"] []) : FnOk P w K mg base CX0 8 f fd ["_law_wide", "_law_high", "_law_sign_here"] (spPl K) := by
  refine F.ok scPl (fun vs H Q E h => ?_) (fun cdv A outer s H vs Q E hr h => ?_)
  · obtain ⟨n, m, z, rfl, _⟩ := h
    rfl
  · obtain ⟨n, m, z, rfl, n1, n8, m1, m8, lz, k⟩ := h
    have hr1 : Room 1 _ := hr.mono (by decide)
    refine ⟨_, pss_one (ps_try_clauses (i := 3) (n := "e") (l := [(.ref CG, tsSgn K CE 3)]) (tb := tbPl C CG) (Wout := fun _ _ _ _ => False) rfl rfl scPl.nd rfl rfl takes0
        (fun W pn xe tk _ => pss_one (ps_ret (by exact pe_meth0 (by exact pe_cmethE (pe_glob (v := .ref C) (by rfl) T.gC rfl) cr cm (raw0 OP bP) hr (fun σ => passAt tk σ) (by exact (pa_cons (pv 0) (pa_cons (pv 1) (pa_cons (pv 2) pa_nil))))) TC.cl mL OL hr1 bL .nil pass0)))
        (.cons ⟨rfl, by decide, .inl T.gG⟩ (fun a oe cls d pn hz hf => pss_one (ps_ret (by exact pe_tup (pa_cons pe_str (pa_cons (pe_errX hz hf (pv 3)) (pa_cons (pe_callB (call_isX hz hf) (by rfl) L.isi (by decide +kernel) (pa_cons (pv 3) (pa_cons (pe_glob (v := .ref CE) (by rfl) T.gE rfl) pa_nil))) pa_nil)))))) .nil)), ?_⟩
    refine ⟨rfl, _, rfl, _, rfl, _, rfl, n, m, z, rfl, n1, n8, m1, m8, by omega, fun go d G nd hd sG => ?_, ?_⟩
    · refine ⟨true, T.teG, fun _ e ne => way_sign (H := H) T rfl rfl rfl hd fun v H' s' dp => k v H' (sG.trans s') ?_, fun q => nomatch q⟩
      unfold dueP
      rw [if_neg (by rw [go]; decide)]
      exact dp
    · rintro c rfl gc p G sG np hp'
      have hp2 := hp'
      obtain ⟨dx2, l2, h3, h4⟩ := hp'
      refine ⟨p, dx2, _, rfl, h3, rfl, p, _, rfl, hp2, fun q G2 s2 nq hq => k _ G2 (sG.trans s2) ?_⟩
      unfold dueP
      have gg : goodB [c] = true := decide_eq_true gc
      rw [if_pos gg]
      exact dp_list hq
end
end Pm
namespace Pm
open PySem PySem.Spec PyProof.Rows L2 SX
theorem rows_ne {H : Hp} {b l q : Addr} {R : Rows} (h : BagL H b l) (hq : H q = some (.lst (rowsV R))) : q ≠ b := fun e => by
  obtain ⟨ns, i, p, r, hb, _⟩ := h
  rw [e, hb] at hq
  match R, hq with
  | [_, _, _, _], hq => simp [rowsV] at hq
theorem PicAt.but {C : Addr} {H H' : Hp} {r b l : Addr} {R : Rows} (h : PicAt C H r R) (hb : BagL H b l) (s : SameBut b H H') : PicAt C H' r R := by
  obtain ⟨dx, q, h1, h2⟩ := h
  have nb : r ≠ b := fun e => by
    obtain ⟨xs, e2⟩ := bag_b hb
    rw [e, e2] at h1
    cases h1
  exact ⟨dx, q, s _ _ nb h1, s _ _ (rows_ne hb h2) h2⟩
theorem bag_same {H H' : Hp} {b l : Addr} (h : BagL H b l) (s : Same H H') : BagL H' b l := by
  obtain ⟨ns, i, q, r, e1, e2, e3⟩ := h
  exact ⟨ns, i, q, r, s _ _ e1, s _ _ e2, e3⟩
section
variable {P : Program} {w : World} {K : PySem.W.Frag} {mg : Str → Option Value} {base : Heap} {C CI CO CG CE : Addr}
def spLaw (K : PySem.W.Frag) : Sp := fun vs H Q _ => ∃ (a : Addr) (ns : List Int), vs = [.ref a] ∧ SqL K H a (ns.map V.int) ∧ ns.length ≤ 63 ∧ ∀ H', Q (.bl true) H'
abbrev nLaw : List Str := ["_law_script", "_law_bag_here", "_law_palette_here", "_law_rows", "_law_picture", "_law_cx", "_law_cy", "_law_sign_here", "_law_before", "_law_due", "_law_back", "_law_wide", "_law_high", "_law_mark", "_law_k"]
theorem scLaw : FnScope nLaw ["_law_script"] (defScope lLaw) := ⟨rfl, rfl, rfl, by decide +kernel, rfl, by decide +kernel, by decide +kernel⟩
theorem ok_law {f fBag fTake fPal fGrid fTx fSg fGd fPt fCh fPl fI fW fL fS : Addr} {fd dBag dTake dPal dGrid dTx dSg dGd dPt dCh dPl dI dW dL dS : FuncData} (F : Fun K "law" "law" lLaw f fd) (L : LTxt K mg) (ms : mg "str" = none) (T : CTxt K mg C CO CG CE) (TC : PCls K C)
    (cBag : Cl P w K mg base CX0 1 "_law_bag" ["_law_script"] (spBag K) fBag dBag) (cTake : Cl P w K mg base CX0 1 "_law_take" tkNames spTake fTake dTake) (cPal : Cl P w K mg base CX0 2 "_law_palette" ["_law_bag_here"] spPal fPal dPal)
    (cGrid : Cl P w K mg base CX0 3 "_law_big_grid" ["_law_bag_here", "_law_palette_here"] spGrid fGrid dGrid) (cTx : Cl P w K mg base CX0 2 "_law_text" ["_law_bag_here", "_law_palette_here"] spText fTx dTx)
    (cSg : Cl P w K mg base CX0 1 "_law_sign" ["_law_rows", "_law_cx", "_law_cy"] spSign fSg dSg) (cGd : Cl P w K mg base CX0 1 "_law_good" ["_law_sign_here"] spGood fGd dGd) (cPt : Cl P w K mg base CX0 1 "_law_put" ["_law_rows", "_law_cx", "_law_cy", "_law_sign_here"] spPut fPt dPt)
    (cCh : Cl P w K mg base CX0 8 "_law_changed" ["_law_picture", "_law_cx", "_law_cy", "_law_sign_here"] (spCh K C) fCh dCh) (cPl : Cl P w K mg base CX0 8 "_law_plain" ["_law_wide", "_law_high", "_law_sign_here"] (spPl K) fPl dPl)
    (OI : FnOk P w K mg base (L2.CX P w) 5 fI dI ["self", "rows"] (spInit C CI)) (M : Mk K C fI) (bI : Binds K dI ["self", "rows"] [])
    (OW : FnOk P w K mg base (L2.CX P w) 7 fW dW ["self", "x", "y", "sign"] (spWith C CO CG)) (mW : Meth K C "with_sign" fW) (bW : Binds K dW ["self", "x", "y", "sign"] [])
    (OL : FnOk P w K mg base CX0 1 fL dL ["self"] (spLines C)) (mL : Meth K C "lines" fL) (bL : Binds K dL ["self"] []) (OS : FnOk P w K mg base CX0 1 fS dS ["self"] (spStr C)) (mS : OwnM K C "__str__" fS) (bS : Binds K dS ["self"] []) :
    FnOk P w K mg base CX0 9 f fd ["_law_script"] (spLaw K) := by
  refine F.ok scLaw (fun vs H Q E h => ?_) (fun cdv A outer s H vs Q E hr h => ?_)
  · obtain ⟨a, ns, rfl, _⟩ := h
    rfl
  · obtain ⟨a, ns, rfl, ha, few, k⟩ := h
    have hr1 : Room 1 _ := hr.mono (by decide)
    have hr2 : Room 2 _ := hr.mono (by decide)
    have hr3 : Room 3 _ := hr.mono (by decide)
    have hr6 : Room 6 _ := hr.mono (by decide)
    have hr7 : Room 7 _ := hr.mono (by decide)
    refine ⟨_, pss_cons (ps_set (i := 1) scLaw.nd rfl (.inl rfl) (pe_call cBag.ok hr1 (by rfl) cBag.gl cBag.kp cBag.bd .nil pass0 (pa_cons (pv 0) pa_nil)))
      (pss_cons (ps_set (i := 2) scLaw.nd rfl (.inl rfl) (pe_call cPal.ok hr2 (by rfl) cPal.gl cPal.kp cPal.bd .nil pass0 (pa_cons (pv 1) pa_nil)))
      (pss_cons (ps_set (i := 3) scLaw.nd rfl (.inl rfl) (pe_call cGrid.ok hr3 (by rfl) cGrid.gl cGrid.kp cGrid.bd .nil pass0 (pa_cons (pv 1) (pa_cons (pv 2) pa_nil))))
      (pss_cons (ps_set (i := 4) scLaw.nd rfl (.inl rfl) (pe_makeS (E := fun _ => E0) M OI hr6 (by rfl) T.gC bI (fun σ pins H s e s' I c => passF pins σ H s e s' I c) (pa_cons (pe_callTy call_list_of (by rfl) L.lst (by decide +kernel) (pa_cons (pv 3) pa_nil)) pa_nil)))
      (pss_cons (ps_set (i := 5) scLaw.nd rfl (.inl rfl) (pe_op op_sub (pe_call cTake.ok hr1 (by rfl) cTake.gl cTake.kp cTake.bd .nil pass0 (pa_cons (pv 1) (pa_cons (pe_op op_add (pe_callB call_len_str (by rfl) L.len PySem.boot_len (pa_cons (pe_ix ix_list (pv 3) pe_int (fun _ _ => rfl)) pa_nil)) pe_int) pa_nil))) pe_int))
      (pss_cons (ps_set (i := 6) scLaw.nd rfl (.inl rfl) (pe_op op_sub (pe_call cTake.ok hr1 (by rfl) cTake.gl cTake.kp cTake.bd .nil pass0 (pa_cons (pv 1) (pa_cons (pe_op op_add (pe_callB call_len_seq (by rfl) L.len PySem.boot_len (pa_cons (pv 3) pa_nil)) pe_int) pa_nil))) pe_int))
      (C8.pss_cut (ps_if (pt_cmpR op_eq (pe_call cTake.ok hr1 (by rfl) cTake.gl cTake.kp cTake.bd .nil pass0 (pa_cons (pv 1) (pa_cons pe_int pa_nil))) pe_int (nomark _)) (pss_one (ps_set (i := 5) scLaw.nd rfl (.inl rfl) (pe_op op_sub (pe_op op_mul (pv 5) (pe_op op_pow pe_int pe_int)) pe_int))) pss_nil)
      (pss_cons (ps_set (i := 7) scLaw.nd rfl (.inl rfl) (pe_call cTx.ok hr2 (by rfl) cTx.gl cTx.kp cTx.bd .nil pass0 (pa_cons (pv 1) (pa_cons (pv 2) pa_nil))))
      (pss_cons (ps_set (i := 8) scLaw.nd rfl (.inl rfl) (pe_call cSg.ok hr1 (by rfl) cSg.gl cSg.kp cSg.bd .nil pass0 (pa_cons (pv 3) (pa_cons (pv 5) (pa_cons (pv 6) pa_nil)))))
      (C8.pss_cut (ps_if (pt_cmpR op_eq (pv 8) pe_str (nomark _)) (pss_one (ps_set (i := 9) scLaw.nd rfl (.inl rfl) (pe_tup (pa_cons pe_str (pa_cons (pv 5) (pa_cons (pv 6) (pa_cons pe_bl pa_nil)))))))
          (pss_one (ps_if (pt_not (pt_val (pe_call cGd.ok hr1 (by rfl) cGd.gl cGd.kp cGd.bd .nil pass0 (pa_cons (pv 7) pa_nil)))) (pss_one (ps_set (i := 9) scLaw.nd rfl (.inl rfl) (pe_tup (pa_cons pe_str (pa_cons (pv 7) (pa_cons pe_bl pa_nil))))))
            (pss_cons (ps_set (i := 9) scLaw.nd rfl (.inl rfl) (pe_call cPt.ok hr1 (by rfl) cPt.gl cPt.kp cPt.bd .nil pass0 (pa_cons (pv 3) (pa_cons (pv 5) (pa_cons (pv 6) (pa_cons (pv 7) pa_nil))))))
            (pss_cons (ps_set (i := 10) scLaw.nd rfl (.inl rfl) (pe_meth (pe_meth (pv 4) TC.cl mW OW hr7 bW .nil passF (pa_cons (pv 5) (pa_cons (pv 6) (pa_cons (pv 7) pa_nil)))) TC.cl mW OW hr7 bW .nil passF (pa_cons (pv 5) (pa_cons (pv 6) (pa_cons (pv 8) pa_nil)))))
            (pss_one (ps_if (pt_cmpR (op_neD hr.units) (pe_meth0 (pv 10) TC.cl mL OL hr1 bL .nil pass0) (pv 3) (nomark _)) (pss_one (ps_ret pe_bl)) pss_nil)))))))
      (pss_cons (ps_if (PW.pt (pw_or (pt_cmpR (op_neD hr.units) (pe_call cCh.ok hr (by rfl) cCh.gl cCh.kp cCh.bd .nil pass0 (pa_cons (pv 4) (pa_cons (pv 5) (pa_cons (pv 6) (pa_cons (pv 7) pa_nil))))) (pv 9) (nomark _)) (pw_or1 (pt_cmpR (op_neD hr.units) (pe_call cCh.ok hr (by rfl) cCh.gl cCh.kp cCh.bd .nil pass0 (pa_cons (pv 4) (pa_cons (pv 5) (pa_cons (pv 6) (pa_cons (pv 7) pa_nil))))) (pv 9) (nomark _))))) (pss_one (ps_ret pe_bl)) pss_nil)
      (pss_cons (ps_set (i := 11) scLaw.nd rfl (.inr rfl) (pe_op op_add pe_int (pe_call cTake.ok hr1 (by rfl) cTake.gl cTake.kp cTake.bd .nil pass0 (pa_cons (pv 1) (pa_cons pe_int pa_nil)))))
      (pss_cons (ps_set (i := 12) scLaw.nd rfl (.inl rfl) (pe_op op_add pe_int (pe_call cTake.ok hr1 (by rfl) cTake.gl cTake.kp cTake.bd .nil pass0 (pa_cons (pv 1) (pa_cons pe_int pa_nil)))))
      (pss_cons (ps_set (i := 13) scLaw.nd rfl (.inr rfl) (pe_call cTx.ok hr2 (by rfl) cTx.gl cTx.kp cTx.bd .nil pass0 (pa_cons (pv 1) (pa_cons (pv 2) pa_nil))))
      (pss_cons (ps_set (i := 9) scLaw.nd rfl (.inl rfl) (pe_tup (pa_cons pe_str (pa_cons (pv 13) (pa_cons pe_bl pa_nil)))))
      (C8.pss_cut (ps_if (pt_val (pe_call cGd.ok hr1 (by rfl) cGd.gl cGd.kp cGd.bd .nil pass0 (pa_cons (pv 13) pa_nil)))
        (pss_one (ps_setLc (i := 9) (own := [("_law_k", 14)]) (g := gName 14) (tt := tYes) rfl scLaw.nd rfl rfl rfl (pi_range1 (by rfl) L.rng (pa_cons (pv 12) pa_nil)) (blkOk_by (N := nLaw) (sc := defScope lLaw) (by decide +kernel)) (fun _ _ _ _ _ => pg_name (i := 14) scLaw.nd rfl (.inl rfl)) (fun _ _ _ _ _ => pts_nil) (fun _ _ _ _ _ => pe_op op_mul_str (pv 13) (pv 11)))) pss_nil)
      (pss_one (ps_ret (pe_and (pe_cmpR (op_eqD hr.units) (pe_call cPl.ok hr (by rfl) cPl.gl cPl.kp cPl.bd .nil pass0 (pa_cons (pv 11) (pa_cons (pv 12) (pa_cons (pv 13) pa_nil)))) (pv 9) (nomark _)) (pe_and (pe_cmpR (op_eqD hr.units) (pe_meth0 (pv 4) TC.cl mL OL hr1 bL .nil pass0) (pv 3) (nomark _))
        (pe_one (pe_cmpR op_eq (pe_callTy (call_strP OS hr3 bS mS) (by rfl) ms (by decide +kernel) (pa_cons (pv 4) pa_nil)) (pe_join pe_str (pv 3)) (nomark _)))))))))))))))))))))), ?_⟩
    refine ⟨_, rfl, a, ns, rfl, ha, few, fun b l H1 s1 nb hb => ?_⟩
    refine ⟨_, rfl, b, l, rfl, hb, fun z0 H2 hz u2 b2 => ?_⟩
    refine ⟨_, rfl, _, rfl, b, l, z0, rfl, b2, hz, fun p R n H3 g s3 b3 np hp => ?_⟩
    have h1 := g.h1
    have h8 := g.h8
    have w8 := g.w8
    have w1 := g.w1
    have line0 := g.line
    have r0 : atI (rowsV R) 0 = some (.str (S (rowAt R 0))) := atI_nat (j := 0) (rowsV_get g (by omega))
    have l0 : (rowAt R 0).length = n := (g.at (show 0 < R.length by omega)).2.2
    -- the picture
    refine ⟨_, rfl, p, _, rfl, .inl (SqL.of hp), fun q nq pic dx nx nd ne => ?_⟩
    refine ⟨pic, dx, q, R, rfl, upd_same, made_same nx nd _ _ upd_same, by omega, fun y m => by rw [g.row y m]; omega, gone (by rw [line0]; decide), fun _ G hpic sb => ⟨rfl, ?_⟩⟩
    have sG := (same_upd (o := .lst (rowsV R)) nq).trans (made_but nx nd sb)
    replace hp := sG _ _ hp
    have bG := bag_same b3 sG
    clear sb nx nd ne nq
    -- a place
    refine ⟨_, rfl, _, rfl, p, _, 0, _, rfl, rfl, SqL.of hp, r0, _, rfl, by rw [len_S, l0]; exact small_line (by omega), _, _, rfl, rfl, b, l, _, rfl, bG, by rw [len_S, l0]; omega, by rw [len_S, l0]; omega, fun m1 G1 a0 a1 v1 c1 => ⟨_, _, rfl, rfl, ?_⟩⟩
    rw [len_S, l0] at a1
    have hp1 := (v1 p (rows_ne bG hp)).trans hp
    have pic1 := hpic.but bG (but_same v1)
    refine ⟨_, rfl, _, rfl, p, _, rfl, .inl (SqL.of hp1), _, _, rfl, rfl, b, l, _, rfl, c1, by rw [rowsV_len]; omega, by rw [rowsV_len]; omega, fun m2 G2 a2 a3 v2 c2 => ⟨_, _, rfl, rfl, ?_⟩⟩
    rw [rowsV_len] at a3
    have hp2 := (v2 p (rows_ne c1 hp1)).trans hp1
    have pic2 := pic1.but c1 (but_same v2)
    let Mid : L2.St → Hp → Prop := fun σ G => ∃ x y, σ = [some (.ref a), some (.ref b), some (.str (S z0)), some (.ref p), some (.ref pic), some (.int x), some (.int y), none, none, none, none, none, none, none, none] ∧ BagL G b l ∧ G p = some (.lst (rowsV R)) ∧ PicAt C G pic R
    refine ⟨Mid, ?_, ?_⟩
    · refine ⟨_, rfl, b, l, 10, rfl, c2, by decide, by decide, fun m3 G3 a4 a5 v3 c3 => ⟨rfl, _, rfl, ?_⟩⟩
      have hp3 := (v3 p (rows_ne c2 hp2)).trans hp2
      have pic3 := pic2.but c2 (but_same v3)
      exact ite2 (fun _ => ⟨_, rfl, _, _, rfl, rfl, ⟨by decide, by decide, by decide⟩, _, _, rfl, rfl, .inl ⟨by omega, by omega⟩, _, _, rfl, rfl, _, _, rfl, c3, hp3, pic3⟩) (fun _ => ⟨_, _, rfl, c3, hp3, pic3⟩)
    rintro σ G ⟨x, y, rfl, bG, hp, hpic⟩
    -- a text, the sign before
    refine ⟨_, rfl, _, rfl, b, l, z0, rfl, bG, hz, fun q G1 lq lowq sb1 bG1 => ?_⟩
    have hp1 := sb1 _ _ (rows_ne bG hp) hp
    have pic1 := hpic.but bG sb1
    refine ⟨_, rfl, _, rfl, _, rfl, p, R, n, x, y, rfl, hp1, g, ?_⟩
    clear hp hpic sb1
    let Mid2 : L2.St → Hp → Prop := fun σ G => ∃ v y10, σ = [some (.ref a), some (.ref b), some (.str (S z0)), some (.ref p), some (.ref pic), some (.int x), some (.int y), some (.str (S q)), some (.str (S (signAt R x y))), some v, y10, none, none, none, none] ∧ BagL G b l ∧ G p = some (.lst (rowsV R)) ∧ PicAt C G pic R ∧ ∀ G', Same G G' → Dp K G' v (dueD R x y q)
    refine ⟨Mid2, ?_, ?_⟩
    · refine ⟨_, rfl, rfl, _, rfl, ?_⟩
      by_cases io : inB R x y = true
      · obtain ⟨i, j, rfl, rfl, hi, hj⟩ := g.inside io
        obtain ⟨e1, m1, l1⟩ := g.at hj
        have ge : (rowAt R j)[i]? = some ((rowAt R j).getD i 0) := by
          rw [List.getD_eq_getElem?_getD, List.getElem?_eq_getElem (by omega)]
          rfl
        have gd := g.sgn _ m1 _ (List.mem_of_getElem? ge)
        have es : signAt R (i : Int) (j : Int) = [(rowAt R j).getD i 0] := by
          unfold signAt
          rw [if_pos io]
          rfl
        generalize (rowAt R j).getD i 0 = d at ge gd es
        refine iteFe (decide_eq_false fun y => ?_) ?_
        · simp only [V.str.injEq] at y
          rw [es, show ("#" : Str) = S [35] by decide +kernel] at y
          have y := S_inj y
          simp only [List.cons.injEq, and_true] at y
          unfold Good Let at gd
          omega
        · refine ⟨_, rfl, q, rfl, lq, _, rfl, ?_⟩
          by_cases go : goodB q = true
          · refine iteFe (by rw [go]; rfl) ?_
            obtain ⟨c, rfl, gc⟩ := goodB_one go
            refine ⟨_, rfl, _, rfl, _, rfl, _, rfl, p, R, n, i, j, [c], rfl, hp1, g, hi, hj, lq, fun pd G2 s2 npd hpd => ?_⟩
            have pic2 := pic1.same s2
            have pic20 := pic2
            obtain ⟨dx2, lx2, e3, e4⟩ := pic2
            have gp := g.put hi hj gc
            have io2 : inB (putR R i j [c]) (i : Int) (j : Int) = true := inB_in gp (by omega) (by omega) (by omega) (by unfold putR; rw [List.length_set]; omega)
            refine ⟨_, rfl, pic, dx2, _, rfl, e3, rfl, _, rfl, _, rfl, _, rfl, pic, R, n, i, j, [c], rfl, pic20, g, by show 1 ≤ 1000; decide, (fun z => by rw [io] at z; cases z), (fun _ z => by rw [go] at z; cases z), fun _ _ pb G3 s3 npb hpb => ?_⟩
            have hpb0 := hpb
            obtain ⟨dx3, lx3, e5, e6⟩ := hpb
            refine ⟨pb, dx3, _, rfl, e5, rfl, _, rfl, _, rfl, _, rfl, pb, putR R i j [c], n, i, j, signAt R i j, rfl, hpb0, gp, by rw [es]; exact (show 1 ≤ 1000 by decide), (fun z => by rw [io2] at z; cases z), (fun _ z => by rw [es] at z; rw [show goodB [d] = true from decide_eq_true gd] at z; cases z), fun _ _ pc G4 s4 npc hpc => ?_⟩
            have back_ : putR (putR R i j [c]) i j (signAt R i j) = R := by
              rw [es]
              exact put_back g hi hj ge
            have hpc : PicAt C G4 pc R := by
              have y : PicAt C G4 pc (putR (putR R i j [c]) i j (signAt R i j)) := hpc
              rw [back_] at y
              exact y
            have hpc0 := hpc
            obtain ⟨dx4, lx4, e7, e8⟩ := hpc
            refine ⟨_, rfl, pc, dx4, _, rfl, e7, rfl, pc, R, rfl, hpc0, fun p5 G5 s5 np5 hp5 => ?_⟩
            have s25 := ((s2.trans s3).trans s4).trans s5
            have ro := rows_ok g
            refine ⟨_, rfl, _, _, dp_list hp5, dp_list (s25 _ _ hp1), ro.1, ro.1, _, rfl, iteFe (by rw [ro.2]; rfl) ?_⟩
            refine ⟨_, _, rfl, bag_same bG1 s25, s25 _ _ hp1, pic1.same s25, fun G' s' => ?_⟩
            unfold dueD
            rw [if_pos io, if_pos go]
            exact dp_list (s' _ _ (s5 _ _ (s4 _ _ (s3 _ _ hpd))))
          · have go : goodB q = false := by simpa using go
            refine iteTe (by rw [go]; rfl) ⟨_, rfl, small_line (by show 3 ≤ 1000; decide), fun t nt => ?_⟩
            have st := same_upd (o := .tup [.str "sign", .str (S q), .bl true]) nt
            refine ⟨_, _, rfl, bag_same bG1 st, st _ _ hp1, pic1.same st, fun G' s' => ?_⟩
            unfold dueD
            rw [if_pos io, if_neg (by rw [go]; decide)]
            exact dp_sign (s' _ _ upd_same)
      · have es : signAt R x y = [35] := by
          unfold signAt
          rw [if_neg io]
        refine iteTe (decide_eq_true (by rw [es, show ("#" : Str) = S [35] by decide +kernel])) ⟨_, rfl, _, rfl, small_line (by show 4 ≤ 1000; decide), fun t nt => ?_⟩
        have st := same_upd (o := .tup [.str "out", .int x, .int y, .bl true]) nt
        refine ⟨_, _, rfl, bag_same bG1 st, st _ _ hp1, pic1.same st, fun G' s' => ?_⟩
        unfold dueD
        rw [if_neg io]
        exact dp_out (s' _ _ upd_same)
    · rintro σ G ⟨v, y10, rfl, bG, hp, hpic, hdue⟩
      clear hp1 pic1 bG1
      have dk := due_ok (x := x) (y := y) g lowq
      refine ⟨_, rfl, _, rfl, _, rfl, _, rfl, pic, R, n, x, y, q, rfl, hpic, g, lq, fun v1 G1 s1 d1 => ⟨_, rfl, _, _, d1, hdue G1 s1, dk.1, dk.1, _, rfl, iteFe (by rw [dk.2]; rfl) ?_⟩⟩
      refine ⟨_, rfl, _, rfl, _, rfl, _, rfl, pic, R, n, x, y, q, rfl, hpic.same s1, g, lq, fun v2 G2 s2 d2 => ⟨_, rfl, _, _, d2, hdue G2 (s1.trans s2), dk.1, dk.1, _, rfl, iteFe (by rw [dk.2]; rfl) ?_⟩⟩
      have s12 := s1.trans s2
      have bG2 := bag_same bG s12
      have hp2 := s12 _ _ hp
      have pic2 := hpic.same s12
      clear hdue
      refine ⟨_, rfl, b, l, 8, rfl, bG2, by decide, by decide, fun wd G3 d0 d1 v3 bG3 => ⟨_, _, rfl, rfl, ?_⟩⟩
      have hp3 := (v3 p (rows_ne bG2 hp2)).trans hp2
      have pic3 := pic2.but bG2 (but_same v3)
      refine ⟨_, rfl, b, l, 8, rfl, bG3, by decide, by decide, fun hg G4 d2 d3 v4 bG4 => ⟨_, _, rfl, rfl, ?_⟩⟩
      have hp4 := (v4 p (rows_ne bG3 hp3)).trans hp3
      have pic4 := pic3.but bG3 (but_same v4)
      refine ⟨_, rfl, _, rfl, b, l, z0, rfl, bG4, hz, fun mk G5 lm lowm sb5 bG5 => ?_⟩
      have hp5 := sb5 _ _ (rows_ne bG4 hp4) hp4
      have pic5 := pic4.but bG4 sb5
      refine ⟨_, rfl, small_line (by show 3 ≤ 1000; decide), fun t nt => ?_⟩
      have st := same_upd (o := .tup [.str "sign", .str (S mk), .bl true]) nt
      have ht : (upd G5 t (.tup [.str "sign", .str (S mk), .bl true])) t = some (.tup [.str "sign", .str (S mk), .bl true]) := upd_same
      generalize upd G5 t (.tup [.str "sign", .str (S mk), .bl true]) = G6 at st ht
      have hp6 := st _ _ hp5
      have pic6 := pic5.same st
      let Mid3 : L2.St → Hp → Prop := fun σ G => ∃ v y', σ = [some (.ref a), some (.ref b), some (.str (S z0)), some (.ref p), some (.ref pic), some (.int x), some (.int y), some (.str (S q)), some (.str (S (signAt R x y))), some v, y10, some (.int (1 + wd)), some (.int (1 + hg)), some (.str (S mk)), y'] ∧ G p = some (.lst (rowsV R)) ∧ PicAt C G pic R ∧ ∀ G', Same G G' → Dp K G' v (dueP (1 + wd) (1 + hg) mk)
      refine ⟨Mid3, ?_, ?_⟩
      · refine ⟨_, rfl, mk, rfl, lm, _, rfl, ?_⟩
        by_cases go : goodB mk = true
        · rw [go]
          obtain ⟨c, rfl, gc⟩ := goodB_one go
          refine iteT ⟨_, rfl, 1 + hg, rfl, by omega, by omega, fun D nD => lc_range (lo := 0) (n := (1 + hg).toNat) (fun i G => Same G6 G ∧ G D = some (.lst (rowsV (List.replicate i (List.replicate (1 + wd).toNat c))))) ⟨same_upd nD, upd_same⟩ ?_ ?_⟩
          · rintro i G hi ⟨sG, hD⟩
            refine ⟨rfl, tyes (iteT ⟨_, rfl, _, rfl, S [c], 1 + wd, rfl, rfl, by rw [len_S]; exact (show 1 ≤ 1000 by decide), by omega, by omega, _, hD, ?_, ?_, ?_⟩)⟩
            · rw [rowsV_len, List.length_replicate]
              exact small1000 (by omega)
            · exact fun b o e => by
                rw [upd_ne (ne_of_none e nD)]
                exact sG b o e
            · rw [upd_same, mul1, List.replicate_succ']
              unfold rowsV
              rw [List.map_append]
              rfl
          · rintro G ⟨sG, hD⟩
            refine ⟨.ref D, _, rfl, sG _ _ hp6, pic6.same sG, fun G' s' => ?_⟩
            unfold dueP
            rw [if_pos go]
            exact dp_list (s' _ _ hD)
        · have go : goodB mk = false := by simpa using go
          rw [go]
          refine iteF ⟨.ref t, _, rfl, hp6, pic6, fun G' s' => ?_⟩
          unfold dueP
          rw [if_neg (by rw [go]; decide)]
          exact dp_sign (s' _ _ ht)
      · rintro σ G ⟨v, y', rfl, hp7, pic7, hdue⟩
        have dk2 := dueP_ok (n := 1 + wd) (m := 1 + hg) (by omega) (by omega) (by omega) (by omega) lowm
        refine ⟨_, rfl, _, rfl, _, rfl, 1 + wd, 1 + hg, mk, rfl, by omega, by omega, by omega, by omega, lm, fun v8 G8 s8 d8 => ⟨_, rfl, _, _, d8, hdue G8 s8, dk2.1, dk2.1, _, rfl, iteTe dk2.2 ?_⟩⟩
        have pic8 := pic7.same s8
        have pic80 := pic8
        obtain ⟨dx8, lx8, e7, e8⟩ := pic8
        have ro := rows_ok g
        refine ⟨_, rfl, pic, dx8, _, rfl, e7, rfl, pic, R, rfl, pic80, fun p9 G9 s9 np9 hp9 => ⟨_, rfl, _, _, dp_list hp9, dp_list (s9 _ _ (s8 _ _ hp7)), ro.1, ro.1, _, rfl, iteTe ro.2 ?_⟩⟩
        refine ⟨_, rfl, pic, R, n, rfl, pic80.same s9, g, ⟨_, rfl⟩, _, rfl, ("\n" : Str), p, R.map S, rfl, rfl, .inl (by rw [strs_rows]; exact SqL.of (s9 _ _ (s8 _ _ hp7))), join_fit g, rfl, ?_⟩
        rw [nl_S, join_S [10] R, decide_eq_true rfl]
        exact k G9
end
end Pm
namespace Pm
open PySem PySem.Spec PyProof.Rows L2 SX
section
variable {P : Program} {w : World} {K : PySem.W.Frag} {mg : Str → Option Value} {base : Heap}
theorem scEInvalidSign : FnScope ["self", "sign"] ["self", "sign"] (defScope cInvalidSignInit) := ⟨rfl, rfl, rfl, by decide +kernel, rfl, by decide +kernel, by decide +kernel⟩
theorem okEInvalidSign {f C : Addr} {fd : FuncData} (F : Fun K "__init__" "InvalidSign.__init__" cInvalidSignInit f fd) (T : OexC K C) (nx : PySem.W.findIn K (.ref C) "sign" = some none) : FnOk P w K mg base CX0 1 f fd ["self", "sign"] (spE1 C "sign") := by
  refine F.ok scEInvalidSign (fun vs H Q E h => ?_) (fun cdv A outer s H vs Q E hr h => ?_)
  · obtain ⟨a, v, rfl, _⟩ := h
    rfl
  · obtain ⟨a, v, rfl, ha, k⟩ := h
    refine ⟨_, pss_one (ps_ost (pv 0) (pv 1)), ?_⟩
    refine ⟨_, rfl, _, rfl, a, C, rfl, T, nx, .inl ⟨ha, fun dx nd ne => ?_⟩⟩
    refine k _ dx upd_same (by rw [upd_ne ne, upd_same]) nd ne fun b o nb e => ?_
    rw [upd_ne nb, upd_ne (ne_of_none e nd)]
    exact e
theorem scEOutOfPicture : FnScope ["self", "x", "y"] ["self", "x", "y"] (defScope cOutOfPictureInit) := ⟨rfl, rfl, rfl, by decide +kernel, rfl, by decide +kernel, by decide +kernel⟩
theorem okEOutOfPicture {f C : Addr} {fd : FuncData} (F : Fun K "__init__" "OutOfPicture.__init__" cOutOfPictureInit f fd) (T : OexC K C) (nx : PySem.W.findIn K (.ref C) "x" = some none) (ny : PySem.W.findIn K (.ref C) "y" = some none) : FnOk P w K mg base CX0 1 f fd ["self", "x", "y"] (spE2 C) := by
  refine F.ok scEOutOfPicture (fun vs H Q E h => ?_) (fun cdv A outer s H vs Q E hr h => ?_)
  · obtain ⟨a, v, u, rfl, _⟩ := h
    rfl
  · obtain ⟨a, v, u, rfl, ha, k⟩ := h
    refine ⟨_, pss_cons (ps_ost (pv 0) (pv 1)) (pss_one (ps_ost (pv 0) (pv 2))), ?_⟩
    refine ⟨_, rfl, _, rfl, a, C, rfl, T, nx, .inl ⟨ha, fun dx nd ne => ?_⟩⟩
    refine ⟨_, rfl, _, rfl, a, C, rfl, T, ny, .inr ⟨dx, [("x", v)], upd_same, by rw [upd_ne ne, upd_same], by show 1 ≤ 900; decide, ?_⟩⟩
    refine k _ dx ?_ upd_same nd ne fun b o nb e => ?_
    · rw [upd_ne ne.symm]
      exact upd_same
    · rw [upd_ne (ne_of_none e nd), upd_ne nb, upd_ne (ne_of_none e nd)]
      exact e
end
end Pm
namespace Pm
open PySem PySem.Spec PyProof.Rows L2 SX
theorem kit_cls {K : PySem.W.Frag} {D S : Addr} {cd : ClassData} {b : Bool} (ne : (D == S) = false) (c : PySem.W.clsIn K S = some cd) (t : PySem.W.typeIn K (.ref S) = some (.type "type")) (sub : PySem.W.subIn K (.ref D) (.ref S) = some b) : PySem.W.kitOne K (.ref D) (.ref S) = some b := by
  unfold PySem.W.kitOne
  rw [if_neg (by simpa using ne)]
  show (if ((PySem.W.clsIn K S).isSome && PySem.W.typeIn K (.ref S) == some (.type "type")) = true then PySem.W.subIn K (.ref D) (.ref S) else none) = some b
  rw [if_pos (by rw [c, t]; rfl), sub]
theorem kit_val {K : PySem.W.Frag} {D : Addr} (sub : PySem.W.subIn K (.ref D) (.type "ValueError") = some true) : PySem.W.kitOne K (.ref D) (.type "ValueError") = some true := by
  unfold PySem.W.kitOne
  rw [if_neg (by simp)]
  show (if PySem.W.kitMeta "ValueError" = true then PySem.W.subIn K (.ref D) (.type "ValueError") else none) = some true
  rw [if_pos (by decide +kernel), sub]
theorem exm_self {K : PySem.W.Frag} {D : Addr} (a : PySem.W.subIn K (.ref D) (.type "BaseException") = some true) (b : PySem.W.isClsIn K D = true) (c : PySem.W.typeIn K (.ref D) = some (.type "type")) (d : PySem.W.subIn K (.ref D) (.ref D) = some true) : PySem.W.exmOne K (.ref D) (.ref D) = some true := by
  have b2 : (PySem.W.clsIn K D).isSome = true := b
  show (if (PySem.W.subIn K (.ref D) (.type "BaseException") == some true) = true then _ else none) = some true
  rw [if_pos (by rw [a]; rfl)]
  show (if ((PySem.W.clsIn K D).isSome && PySem.W.typeIn K (.ref D) == some (.type "type")) = true then PySem.W.subIn K (.ref D) (.ref D) else none) = some true
  rw [if_pos (by rw [b2, c]; rfl), d]
theorem exm_cls {K : PySem.W.Frag} {D S : Addr} {b : Bool} (a : PySem.W.subIn K (.ref S) (.type "BaseException") = some true) (s1 : PySem.W.isClsIn K S = true) (c : PySem.W.typeIn K (.ref S) = some (.type "type")) (d : PySem.W.subIn K (.ref D) (.ref S) = some b) : PySem.W.exmOne K (.ref D) (.ref S) = some b := by
  have b2 : (PySem.W.clsIn K S).isSome = true := s1
  show (if (PySem.W.subIn K (.ref S) (.type "BaseException") == some true) = true then _ else none) = some b
  rw [if_pos (by rw [a]; rfl)]
  show (if ((PySem.W.clsIn K S).isSome && PySem.W.typeIn K (.ref S) == some (.type "type")) = true then PySem.W.subIn K (.ref D) (.ref S) else none) = some b
  rw [if_pos (by rw [b2, c]; rfl), d]
/-! ### what the top has left -/
theorem all_mk {l : PySem.W.OpenLaw} {w : World} {K : PySem.W.Frag} {h : Heap} {mg : Str → Option Value} {fa C fI fLi fCo fWi fSt fPl pPl fIs fSo fBa fBl fKc fKs CI fEi CG fEg CO fEo CE fBag fTake fPal fRow fSg fPt fGrid fTx fCh fLp fGd fLaw : Addr} {restPl : List Value} {nmCI qnCI : Str} {nsCI : Addr} {bsCI bmCI sbCI : List Value} {snCI : List Str} {abCI : Bool} {coCI : Option Bool} {ddCI : Option Addr} {x0CI x1CI x2CI x3CI x5CI : Option Value} {cdtCI : ClassData} {nmCG qnCG : Str} {nsCG : Addr} {bsCG bmCG sbCG : List Value} {snCG : List Str} {abCG : Bool} {coCG : Option Bool} {ddCG : Option Addr} {x0CG x1CG x2CG x3CG x5CG : Option Value} {cdtCG : ClassData} {nmCO qnCO : Str} {nsCO : Addr} {bsCO bmCO sbCO : List Value} {snCO : List Str} {abCO : Bool} {coCO : Option Bool} {ddCO : Option Addr} {x0CO x1CO x2CO x3CO x5CO : Option Value} {cdtCO : ClassData} {cdtCE : ClassData} (X : K.In h) (G : h.Ns mainGlobals mg) (hfa : mg "law" = some (.ref fa))
    {odI anI odLi anLi odCo anCo odWi anWi odSt anSt odPl anPl odIs anIs odSo anSo odBa anBa odBl anBl odKc anKc odKs anKs odEi anEi odEg anEg odEo anEo odBag anBag odTake anTake odPal anPal odRow anRow odSg anSg odPt anPt odGrid anGrid odTx anTx odCh anCh odLp anLp odGd anGd odLaw anLaw : Option Addr}
    {slI slLi slCo slWi slSt slPl slIs slSo slBa slBl slKc slKs slEi slEg slEo slBag slTake slPal slRow slSg slPt slGrid slTx slCh slLp slGd slLaw : Array (Option Value)}
    {uHo uEd ocI kVI dcI pmI cdI ctI ocLi kVLi dcLi pmLi cdLi ctLi ocCo kVCo dcCo pmCo cdCo ctCo ocWi kVWi dcWi pmWi cdWi ctWi ocSt kVSt dcSt pmSt cdSt ctSt ocPl kVPl dcPl pmPl cdPl ctPl uSn uMo ocIs kVIs dcIs pmIs cdIs ctIs ocSo kVSo dcSo pmSo cdSo ctSo ocBa kVBa dcBa pmBa cdBa ctBa ocBl kVBl dcBl pmBl cdBl ctBl ocKc kVKc dcKc pmKc cdKc ctKc ocKs kVKs dcKs pmKs cdKs ctKs ocEi kVEi dcEi pmEi cdEi ctEi ocEg kVEg dcEg pmEg cdEg ctEg ocEo kVEo dcEo pmEo cdEo ctEo ocBag kVBag dcBag pmBag cdBag ctBag ocTake kVTake dcTake pmTake cdTake ctTake ocPal kVPal dcPal pmPal cdPal ctPal ocRow kVRow dcRow pmRow cdRow ctRow ocSg kVSg dcSg pmSg cdSg ctSg ocPt kVPt dcPt pmPt cdPt ctPt ocGrid kVGrid dcGrid pmGrid cdGrid ctGrid ocTx kVTx dcTx pmTx cdTx ctTx ocCh kVCh dcCh pmCh cdCh ctCh ocLp kVLp dcLp pmLp cdLp ctLp ocGd kVGd dcGd pmGd cdGd ctGd ocLaw kVLaw dcLaw pmLaw cdLaw ctLaw : Value}
    (cn : PySem.W.specialIn K (.builtin "object.__class__") "__get__" = some (some (.builtin "getset_descriptor.__get__")))
    (ct : PySem.W.takesIn K (.builtin "object.__class__") = some true)
    (gC : PySem.W.nsIn K mainGlobals "Picture" = some (some (.ref C)))
    (pgC : PySem.W.plainGet K C Str.empty = true)
    (hdC : PySem.W.hasDictIn K C = true)
    (poC : PySem.W.plainOver K C = true)
    (saC : PySem.W.findIn K (.ref C) "__setattr__" = some (some (.builtin "object.__setattr__")))
    (mkC : PySem.W.makesIn K C = true)
    (kpC : PySem.W.keepIn K (.ref C) = true)
    (nC_rows : PySem.W.findIn K (.ref C) "_rows" = some none)
    (nC_width : PySem.W.findIn K (.ref C) "width" = some none)
    (nC_height : PySem.W.findIn K (.ref C) "height" = some none)
    (rdC : PySem.W.readsIn K C (.type "type") = true)
    (gaC : PySem.W.specialIn K (.ref C) "__getattribute__" = some (some (.builtin "type.__getattribute__")))
    (aHo : PySem.W.findCls K (.ref C) (.type "type") "HOLE" = some (.val uHo))
    (rlHo : L2.RelV (.str ".") uHo)
    (aEd : PySem.W.findCls K (.ref C) (.type "type") "EDGE" = some (.val uEd))
    (rlEd : L2.RelV (.str "#") uEd)
    (aI : PySem.W.findIn K (.ref C) "__init__" = some (some (.ref fI)))
    (iI : PySem.W.isFn K (.ref fI) = true)
    (lI : K.lookup fI = some ⟨ocI, odI, .func (PySem.W.fnOf "__init__" "Picture.__init__" (defArgs cPictureInit) (defBody cPictureInit) (defScope cPictureInit) .none kVI dcI pmI anI cdI ctI), slI⟩)
    (cI : PySem.W.codeIn K cdI "Picture.__init__" = true)
    (kI : PySem.W.keepIn K (.ref fI) = true)
    (aLi : PySem.W.findIn K (.ref C) "lines" = some (some (.ref fLi)))
    (iLi : PySem.W.isFn K (.ref fLi) = true)
    (lLi : K.lookup fLi = some ⟨ocLi, odLi, .func (PySem.W.fnOf "lines" "Picture.lines" (defArgs cPictureLines) (defBody cPictureLines) (defScope cPictureLines) .none kVLi dcLi pmLi anLi cdLi ctLi), slLi⟩)
    (cLi : PySem.W.codeIn K cdLi "Picture.lines" = true)
    (kLi : PySem.W.keepIn K (.ref fLi) = true)
    (aCo : PySem.W.findIn K (.ref C) "contains" = some (some (.ref fCo)))
    (iCo : PySem.W.isFn K (.ref fCo) = true)
    (lCo : K.lookup fCo = some ⟨ocCo, odCo, .func (PySem.W.fnOf "contains" "Picture.contains" (defArgs cPictureContains) (defBody cPictureContains) (defScope cPictureContains) .none kVCo dcCo pmCo anCo cdCo ctCo), slCo⟩)
    (cCo : PySem.W.codeIn K cdCo "Picture.contains" = true)
    (kCo : PySem.W.keepIn K (.ref fCo) = true)
    (aWi : PySem.W.findIn K (.ref C) "with_sign" = some (some (.ref fWi)))
    (iWi : PySem.W.isFn K (.ref fWi) = true)
    (lWi : K.lookup fWi = some ⟨ocWi, odWi, .func (PySem.W.fnOf "with_sign" "Picture.with_sign" (defArgs cPictureWithSign) (defBody cPictureWithSign) (defScope cPictureWithSign) .none kVWi dcWi pmWi anWi cdWi ctWi), slWi⟩)
    (cWi : PySem.W.codeIn K cdWi "Picture.with_sign" = true)
    (kWi : PySem.W.keepIn K (.ref fWi) = true)
    (aSt : PySem.W.findIn K (.ref C) "__str__" = some (some (.ref fSt)))
    (iSt : PySem.W.isFn K (.ref fSt) = true)
    (lSt : K.lookup fSt = some ⟨ocSt, odSt, .func (PySem.W.fnOf "__str__" "Picture.__str__" (defArgs cPictureStr) (defBody cPictureStr) (defScope cPictureStr) .none kVSt dcSt pmSt anSt cdSt ctSt), slSt⟩)
    (cSt : PySem.W.codeIn K cdSt "Picture.__str__" = true)
    (kSt : PySem.W.keepIn K (.ref fSt) = true)
    (aPl : PySem.W.findCls K (.ref C) (.type "type") "plain" = some (.get (.builtin "classmethod.__get__") (.ref pPl) .none (.ref C)))
    (rPl : PySem.W.recIn K pPl "classmethod" = some (.ref fPl :: restPl))
    (iPl : PySem.W.fnIn K fPl = true)
    (lPl : K.lookup fPl = some ⟨ocPl, odPl, .func (PySem.W.fnOf "plain" "Picture.plain" (defArgs cPicturePlain) (defBody cPicturePlain) (defScope cPicturePlain) .none kVPl dcPl pmPl anPl cdPl ctPl), slPl⟩)
    (cPl : PySem.W.codeIn K cdPl "Picture.plain" = true)
    (kPl : PySem.W.keepIn K (.ref fPl) = true)
    (aSn : PySem.W.nsIn K mainGlobals "STONES" = some (some uSn))
    (rlSn : L2.RelV (.str alphaS) uSn)
    (aMo : PySem.W.nsIn K mainGlobals "MOST" = some (some uMo))
    (rlMo : L2.RelV (.int 8) uMo)
    (aIs : PySem.W.nsIn K mainGlobals "is_stone" = some (some (.ref fIs)))
    (lIs : K.lookup fIs = some ⟨ocIs, odIs, .func (PySem.W.fnOf "is_stone" "is_stone" (defArgs gIsStone) (defBody gIsStone) (defScope gIsStone) .none kVIs dcIs pmIs anIs cdIs ctIs), slIs⟩)
    (cIs : PySem.W.codeIn K cdIs "is_stone" = true)
    (kIs : PySem.W.keepIn K (.ref fIs) = true)
    (aSo : PySem.W.nsIn K mainGlobals "is_stone_or_hole" = some (some (.ref fSo)))
    (lSo : K.lookup fSo = some ⟨ocSo, odSo, .func (PySem.W.fnOf "is_stone_or_hole" "is_stone_or_hole" (defArgs gIsStoneOrHole) (defBody gIsStoneOrHole) (defScope gIsStoneOrHole) .none kVSo dcSo pmSo anSo cdSo ctSo), slSo⟩)
    (cSo : PySem.W.codeIn K cdSo "is_stone_or_hole" = true)
    (kSo : PySem.W.keepIn K (.ref fSo) = true)
    (aBa : PySem.W.nsIn K mainGlobals "_is_bad_row" = some (some (.ref fBa)))
    (lBa : K.lookup fBa = some ⟨ocBa, odBa, .func (PySem.W.fnOf "_is_bad_row" "_is_bad_row" (defArgs gIsBadRow) (defBody gIsBadRow) (defScope gIsBadRow) .none kVBa dcBa pmBa anBa cdBa ctBa), slBa⟩)
    (cBa : PySem.W.codeIn K cdBa "_is_bad_row" = true)
    (kBa : PySem.W.keepIn K (.ref fBa) = true)
    (aBl : PySem.W.nsIn K mainGlobals "_bad_line" = some (some (.ref fBl)))
    (lBl : K.lookup fBl = some ⟨ocBl, odBl, .func (PySem.W.fnOf "_bad_line" "_bad_line" (defArgs gBadLine) (defBody gBadLine) (defScope gBadLine) .none kVBl dcBl pmBl anBl cdBl ctBl), slBl⟩)
    (cBl : PySem.W.codeIn K cdBl "_bad_line" = true)
    (kBl : PySem.W.keepIn K (.ref fBl) = true)
    (aKc : PySem.W.nsIn K mainGlobals "check_cell" = some (some (.ref fKc)))
    (lKc : K.lookup fKc = some ⟨ocKc, odKc, .func (PySem.W.fnOf "check_cell" "check_cell" (defArgs gCheckCell) (defBody gCheckCell) (defScope gCheckCell) .none kVKc dcKc pmKc anKc cdKc ctKc), slKc⟩)
    (cKc : PySem.W.codeIn K cdKc "check_cell" = true)
    (kKc : PySem.W.keepIn K (.ref fKc) = true)
    (aKs : PySem.W.nsIn K mainGlobals "check_sign" = some (some (.ref fKs)))
    (lKs : K.lookup fKs = some ⟨ocKs, odKs, .func (PySem.W.fnOf "check_sign" "check_sign" (defArgs gCheckSign) (defBody gCheckSign) (defScope gCheckSign) .none kVKs dcKs pmKs anKs cdKs ctKs), slKs⟩)
    (cKs : PySem.W.codeIn K cdKs "check_sign" = true)
    (kKs : PySem.W.keepIn K (.ref fKs) = true)
    (gCI : PySem.W.nsIn K mainGlobals "InvalidPicture" = some (some (.ref CI)))
    (lkCI : K.lookup CI = some (excClassObj nmCI qnCI CI nsCI bsCI bmCI true snCI sbCI abCI coCI ddCI x0CI x1CI x2CI x3CI x5CI "ValueError.__new__"))
    (vbCI : PySem.HandSPX.refsVE bmCI = true)
    (atCI : PySem.W.findIn K (.ref CI) "__init__" = some (some (.ref fEi)))
    (ftCI : PySem.W.typeIn K (.ref fEi) = some (.type "function"))
    (lEi : K.lookup fEi = some ⟨ocEi, odEi, .func (PySem.W.fnOf "__init__" "InvalidPicture.__init__" (defArgs cInvalidPictureInit) (defBody cInvalidPictureInit) (defScope cInvalidPictureInit) .none kVEi dcEi pmEi anEi cdEi ctEi), slEi⟩)
    (cEi : PySem.W.codeIn K cdEi "InvalidPicture.__init__" = true)
    (kEi : PySem.W.keepIn K (.ref fEi) = true)
    (cxCI : PySem.W.clsIn K CI = some cdtCI)
    (tyCI : PySem.W.typeIn K (.ref CI) = some (.type "type"))
    (hgCI : PySem.W.findIn K (.ref CI) "__getattribute__" = some (some (.builtin "BaseException.__getattribute__")))
    (hkCI : PySem.W.findIn K (.ref CI) "__getattr__" = some none)
    (svCI : PySem.W.subIn K (.ref CI) (.type "BaseException") = some true)
    (sxCI : PySem.W.subIn K (.ref CI) (.ref CI) = some true)
    (icCI : PySem.W.isClsIn K CI = true)
    (haCI : PySem.W.findIn K (.ref CI) "__class__" = some (some (.builtin "object.__class__")))
    (hmCI : PySem.W.mroIn K CI (.type "object") = some true)
    (hdCI : PySem.W.hasDictIn K CI = true)
    (kpCI : PySem.W.keepIn K (.ref CI) = true)
    (nCI_line : PySem.W.findIn K (.ref CI) "line" = some none)
    (saCI : PySem.W.findIn K (.ref CI) "__setattr__" = some (some (.builtin "object.__setattr__")))
    (gCG : PySem.W.nsIn K mainGlobals "InvalidSign" = some (some (.ref CG)))
    (lkCG : K.lookup CG = some (excClassObj nmCG qnCG CG nsCG bsCG bmCG true snCG sbCG abCG coCG ddCG x0CG x1CG x2CG x3CG x5CG "ValueError.__new__"))
    (vbCG : PySem.HandSPX.refsVE bmCG = true)
    (atCG : PySem.W.findIn K (.ref CG) "__init__" = some (some (.ref fEg)))
    (ftCG : PySem.W.typeIn K (.ref fEg) = some (.type "function"))
    (lEg : K.lookup fEg = some ⟨ocEg, odEg, .func (PySem.W.fnOf "__init__" "InvalidSign.__init__" (defArgs cInvalidSignInit) (defBody cInvalidSignInit) (defScope cInvalidSignInit) .none kVEg dcEg pmEg anEg cdEg ctEg), slEg⟩)
    (cEg : PySem.W.codeIn K cdEg "InvalidSign.__init__" = true)
    (kEg : PySem.W.keepIn K (.ref fEg) = true)
    (cxCG : PySem.W.clsIn K CG = some cdtCG)
    (tyCG : PySem.W.typeIn K (.ref CG) = some (.type "type"))
    (hgCG : PySem.W.findIn K (.ref CG) "__getattribute__" = some (some (.builtin "BaseException.__getattribute__")))
    (hkCG : PySem.W.findIn K (.ref CG) "__getattr__" = some none)
    (svCG : PySem.W.subIn K (.ref CG) (.type "BaseException") = some true)
    (sxCG : PySem.W.subIn K (.ref CG) (.ref CG) = some true)
    (icCG : PySem.W.isClsIn K CG = true)
    (haCG : PySem.W.findIn K (.ref CG) "__class__" = some (some (.builtin "object.__class__")))
    (hmCG : PySem.W.mroIn K CG (.type "object") = some true)
    (hdCG : PySem.W.hasDictIn K CG = true)
    (kpCG : PySem.W.keepIn K (.ref CG) = true)
    (nCG_sign : PySem.W.findIn K (.ref CG) "sign" = some none)
    (saCG : PySem.W.findIn K (.ref CG) "__setattr__" = some (some (.builtin "object.__setattr__")))
    (gCO : PySem.W.nsIn K mainGlobals "OutOfPicture" = some (some (.ref CO)))
    (lkCO : K.lookup CO = some (excClassObj nmCO qnCO CO nsCO bsCO bmCO true snCO sbCO abCO coCO ddCO x0CO x1CO x2CO x3CO x5CO "ValueError.__new__"))
    (vbCO : PySem.HandSPX.refsVE bmCO = true)
    (atCO : PySem.W.findIn K (.ref CO) "__init__" = some (some (.ref fEo)))
    (ftCO : PySem.W.typeIn K (.ref fEo) = some (.type "function"))
    (lEo : K.lookup fEo = some ⟨ocEo, odEo, .func (PySem.W.fnOf "__init__" "OutOfPicture.__init__" (defArgs cOutOfPictureInit) (defBody cOutOfPictureInit) (defScope cOutOfPictureInit) .none kVEo dcEo pmEo anEo cdEo ctEo), slEo⟩)
    (cEo : PySem.W.codeIn K cdEo "OutOfPicture.__init__" = true)
    (kEo : PySem.W.keepIn K (.ref fEo) = true)
    (cxCO : PySem.W.clsIn K CO = some cdtCO)
    (tyCO : PySem.W.typeIn K (.ref CO) = some (.type "type"))
    (hgCO : PySem.W.findIn K (.ref CO) "__getattribute__" = some (some (.builtin "BaseException.__getattribute__")))
    (hkCO : PySem.W.findIn K (.ref CO) "__getattr__" = some none)
    (svCO : PySem.W.subIn K (.ref CO) (.type "BaseException") = some true)
    (sxCO : PySem.W.subIn K (.ref CO) (.ref CO) = some true)
    (icCO : PySem.W.isClsIn K CO = true)
    (haCO : PySem.W.findIn K (.ref CO) "__class__" = some (some (.builtin "object.__class__")))
    (hmCO : PySem.W.mroIn K CO (.type "object") = some true)
    (hdCO : PySem.W.hasDictIn K CO = true)
    (kpCO : PySem.W.keepIn K (.ref CO) = true)
    (nCO_x : PySem.W.findIn K (.ref CO) "x" = some none)
    (nCO_y : PySem.W.findIn K (.ref CO) "y" = some none)
    (saCO : PySem.W.findIn K (.ref CO) "__setattr__" = some (some (.builtin "object.__setattr__")))
    (gCE : PySem.W.nsIn K mainGlobals "SmaltiError" = some (some (.ref CE)))
    (cxCE : PySem.W.clsIn K CE = some cdtCE)
    (tyCE : PySem.W.typeIn K (.ref CE) = some (.type "type"))
    (sbCGCE : PySem.W.subIn K (.ref CG) (.ref CE) = some true)
    (neCGCE : (CG == CE) = false)
    (sbCOCE : PySem.W.subIn K (.ref CO) (.ref CE) = some true)
    (neCOCE : (CO == CE) = false)
    (sbGO : PySem.W.subIn K (.ref CG) (.ref CO) = some false)
    (aBag : PySem.W.nsIn K mainGlobals "_law_bag" = some (some (.ref fBag)))
    (lBag : K.lookup fBag = some ⟨ocBag, odBag, .func (PySem.W.fnOf "_law_bag" "_law_bag" (defArgs lBag) (defBody lBag) (defScope lBag) .none kVBag dcBag pmBag anBag cdBag ctBag), slBag⟩)
    (cBag : PySem.W.codeIn K cdBag "_law_bag" = true)
    (kBag : PySem.W.keepIn K (.ref fBag) = true)
    (aTake : PySem.W.nsIn K mainGlobals "_law_take" = some (some (.ref fTake)))
    (lTake : K.lookup fTake = some ⟨ocTake, odTake, .func (PySem.W.fnOf "_law_take" "_law_take" (defArgs lTake) (defBody lTake) (defScope lTake) .none kVTake dcTake pmTake anTake cdTake ctTake), slTake⟩)
    (cTake : PySem.W.codeIn K cdTake "_law_take" = true)
    (kTake : PySem.W.keepIn K (.ref fTake) = true)
    (aPal : PySem.W.nsIn K mainGlobals "_law_palette" = some (some (.ref fPal)))
    (lPal : K.lookup fPal = some ⟨ocPal, odPal, .func (PySem.W.fnOf "_law_palette" "_law_palette" (defArgs lPalette) (defBody lPalette) (defScope lPalette) .none kVPal dcPal pmPal anPal cdPal ctPal), slPal⟩)
    (cPal : PySem.W.codeIn K cdPal "_law_palette" = true)
    (kPal : PySem.W.keepIn K (.ref fPal) = true)
    (aRow : PySem.W.nsIn K mainGlobals "_law_row" = some (some (.ref fRow)))
    (lRow : K.lookup fRow = some ⟨ocRow, odRow, .func (PySem.W.fnOf "_law_row" "_law_row" (defArgs lRow) (defBody lRow) (defScope lRow) .none kVRow dcRow pmRow anRow cdRow ctRow), slRow⟩)
    (cRow : PySem.W.codeIn K cdRow "_law_row" = true)
    (kRow : PySem.W.keepIn K (.ref fRow) = true)
    (aSg : PySem.W.nsIn K mainGlobals "_law_sign" = some (some (.ref fSg)))
    (lSg : K.lookup fSg = some ⟨ocSg, odSg, .func (PySem.W.fnOf "_law_sign" "_law_sign" (defArgs lSign) (defBody lSign) (defScope lSign) .none kVSg dcSg pmSg anSg cdSg ctSg), slSg⟩)
    (cSg : PySem.W.codeIn K cdSg "_law_sign" = true)
    (kSg : PySem.W.keepIn K (.ref fSg) = true)
    (aPt : PySem.W.nsIn K mainGlobals "_law_put" = some (some (.ref fPt)))
    (lPt : K.lookup fPt = some ⟨ocPt, odPt, .func (PySem.W.fnOf "_law_put" "_law_put" (defArgs lPut) (defBody lPut) (defScope lPut) .none kVPt dcPt pmPt anPt cdPt ctPt), slPt⟩)
    (cPt : PySem.W.codeIn K cdPt "_law_put" = true)
    (kPt : PySem.W.keepIn K (.ref fPt) = true)
    (aGrid : PySem.W.nsIn K mainGlobals "_law_big_grid" = some (some (.ref fGrid)))
    (lGrid : K.lookup fGrid = some ⟨ocGrid, odGrid, .func (PySem.W.fnOf "_law_big_grid" "_law_big_grid" (defArgs lBigGrid) (defBody lBigGrid) (defScope lBigGrid) .none kVGrid dcGrid pmGrid anGrid cdGrid ctGrid), slGrid⟩)
    (cGrid : PySem.W.codeIn K cdGrid "_law_big_grid" = true)
    (kGrid : PySem.W.keepIn K (.ref fGrid) = true)
    (aTx : PySem.W.nsIn K mainGlobals "_law_text" = some (some (.ref fTx)))
    (lTx : K.lookup fTx = some ⟨ocTx, odTx, .func (PySem.W.fnOf "_law_text" "_law_text" (defArgs lText) (defBody lText) (defScope lText) .none kVTx dcTx pmTx anTx cdTx ctTx), slTx⟩)
    (cTx : PySem.W.codeIn K cdTx "_law_text" = true)
    (kTx : PySem.W.keepIn K (.ref fTx) = true)
    (aCh : PySem.W.nsIn K mainGlobals "_law_changed" = some (some (.ref fCh)))
    (lCh : K.lookup fCh = some ⟨ocCh, odCh, .func (PySem.W.fnOf "_law_changed" "_law_changed" (defArgs lChanged) (defBody lChanged) (defScope lChanged) .none kVCh dcCh pmCh anCh cdCh ctCh), slCh⟩)
    (cCh : PySem.W.codeIn K cdCh "_law_changed" = true)
    (kCh : PySem.W.keepIn K (.ref fCh) = true)
    (aLp : PySem.W.nsIn K mainGlobals "_law_plain" = some (some (.ref fLp)))
    (lLp : K.lookup fLp = some ⟨ocLp, odLp, .func (PySem.W.fnOf "_law_plain" "_law_plain" (defArgs lPlain) (defBody lPlain) (defScope lPlain) .none kVLp dcLp pmLp anLp cdLp ctLp), slLp⟩)
    (cLp : PySem.W.codeIn K cdLp "_law_plain" = true)
    (kLp : PySem.W.keepIn K (.ref fLp) = true)
    (aGd : PySem.W.nsIn K mainGlobals "_law_good" = some (some (.ref fGd)))
    (lGd : K.lookup fGd = some ⟨ocGd, odGd, .func (PySem.W.fnOf "_law_good" "_law_good" (defArgs lGood) (defBody lGood) (defScope lGood) .none kVGd dcGd pmGd anGd cdGd ctGd), slGd⟩)
    (cGd : PySem.W.codeIn K cdGd "_law_good" = true)
    (kGd : PySem.W.keepIn K (.ref fGd) = true)
    (aLaw : PySem.W.nsIn K mainGlobals "law" = some (some (.ref fLaw)))
    (lLaw : K.lookup fLaw = some ⟨ocLaw, odLaw, .func (PySem.W.fnOf "law" "law" (defArgs lLaw) (defBody lLaw) (defScope lLaw) .none kVLaw dcLaw pmLaw anLaw cdLaw ctLaw), slLaw⟩)
    (cLaw : PySem.W.codeIn K cdLaw "law" = true)
    (kLaw : PySem.W.keepIn K (.ref fLaw) = true)
    (zisinstance : PySem.W.nsIn K mainGlobals "isinstance" = some none)
    (zint : PySem.W.nsIn K mainGlobals "int" = some none)
    (zlist : PySem.W.nsIn K mainGlobals "list" = some none)
    (zlen : PySem.W.nsIn K mainGlobals "len" = some none)
    (zrange : PySem.W.nsIn K mainGlobals "range" = some none)
    (zall : PySem.W.nsIn K mainGlobals "all" = some none)
    (zenumerate : PySem.W.nsIn K mainGlobals "enumerate" = some none)
    (zstr : PySem.W.nsIn K mainGlobals "str" = some none) :
    ∃ fd : FuncData, (∀ (s : Shared) (v : Value), BindsTo s fd ⟨[v], []⟩ [("_law_script", v)]) ∧ ∀ base : Heap, K.In base → base.Ns mainGlobals mg → FnOk l.prog w K mg base CX0 9 fa fd ["_law_script"] (spLaw K) := by
  have e := hfa.symm.trans (PySem.W.mg_of X G aLaw)
  cases e
  have g : ∀ {x : Str} {u : Value}, PySem.W.nsIn K mainGlobals x = some (some u) → mg x = some u := fun z => PySem.W.mg_of X G z
  have n : ∀ {x : Str}, PySem.W.nsIn K mainGlobals x = some none → mg x = none := fun z => PySem.W.mg_none_of X G z
  have clC : L2.Cls K C := ⟨pgC, hdC, poC, saC⟩
  have FI := fun_mk (st := Pm.cPictureInit) lI cI kI
  have bI := FI.binds (ps := ["self", "rows"]) fun _ _ _ _ _ _ us hl => match us, hl with | [_, _], _ => rfl
  have FLi := fun_mk (st := Pm.cPictureLines) lLi cLi kLi
  have bLi := FLi.binds (ps := ["self"]) fun _ _ _ _ _ _ us hl => match us, hl with | [_], _ => rfl
  have FCo := fun_mk (st := Pm.cPictureContains) lCo cCo kCo
  have bCo := FCo.binds (ps := ["self", "x", "y"]) fun _ _ _ _ _ _ us hl => match us, hl with | [_, _, _], _ => rfl
  have FWi := fun_mk (st := Pm.cPictureWithSign) lWi cWi kWi
  have bWi := FWi.binds (ps := ["self", "x", "y", "sign"]) fun _ _ _ _ _ _ us hl => match us, hl with | [_, _, _, _], _ => rfl
  have FSt := fun_mk (st := Pm.cPictureStr) lSt cSt kSt
  have bSt := FSt.binds (ps := ["self"]) fun _ _ _ _ _ _ us hl => match us, hl with | [_], _ => rfl
  have FPl := fun_mk (st := Pm.cPicturePlain) lPl cPl kPl
  have bPl := FPl.binds (ps := ["cls", "width", "height", "sign"]) fun _ _ _ _ _ _ us hl => match us, hl with | [_, _, _, _], _ => rfl
  have MPl : ClX.CMet K C (.type "type") "plain" pPl fPl := ⟨aPl, ⟨_, rPl⟩, iPl⟩
  have FIs := fun_mk (st := Pm.gIsStone) lIs cIs kIs
  have bIs := FIs.binds (ps := ["sign"]) fun _ _ _ _ _ _ us hl => match us, hl with | [_], _ => rfl
  have FSo := fun_mk (st := Pm.gIsStoneOrHole) lSo cSo kSo
  have bSo := FSo.binds (ps := ["sign"]) fun _ _ _ _ _ _ us hl => match us, hl with | [_], _ => rfl
  have FBa := fun_mk (st := Pm.gIsBadRow) lBa cBa kBa
  have bBa := FBa.binds (ps := ["row", "width"]) fun _ _ _ _ _ _ us hl => match us, hl with | [_, _], _ => rfl
  have FBl := fun_mk (st := Pm.gBadLine) lBl cBl kBl
  have bBl := FBl.binds (ps := ["rows"]) fun _ _ _ _ _ _ us hl => match us, hl with | [_], _ => rfl
  have FKc := fun_mk (st := Pm.gCheckCell) lKc cKc kKc
  have bKc := FKc.binds (ps := ["picture", "x", "y"]) fun _ _ _ _ _ _ us hl => match us, hl with | [_, _, _], _ => rfl
  have FKs := fun_mk (st := Pm.gCheckSign) lKs cKs kKs
  have bKs := FKs.binds (ps := ["sign"]) fun _ _ _ _ _ _ us hl => match us, hl with | [_], _ => rfl
  have FEi := fun_mk (st := Pm.cInvalidPictureInit) lEi cEi kEi
  have bEi := FEi.binds (ps := ["self", "line"]) fun _ _ _ _ _ _ us hl => match us, hl with | [_, _], _ => rfl
  have erCI : ErrC K CI := ⟨by rw [cxCI]; rfl, hgCI, hkCI, svCI, haCI, cn, ct, hmCI, hdCI⟩
  have teCI : PySem.W.exmOne K (.ref CI) (.ref CI) = some true := exm_self svCI icCI tyCI sxCI
  have oxCI : OexC K CI := ⟨⟨nmCI, qnCI, nsCI, bsCI, bmCI, snCI, sbCI, abCI, coCI, ddCI, x0CI, x1CI, x2CI, x3CI, x5CI, lkCI, vbCI⟩, saCI, svCI, tyCI, kpCI⟩
  have FEg := fun_mk (st := Pm.cInvalidSignInit) lEg cEg kEg
  have bEg := FEg.binds (ps := ["self", "sign"]) fun _ _ _ _ _ _ us hl => match us, hl with | [_, _], _ => rfl
  have erCG : ErrC K CG := ⟨by rw [cxCG]; rfl, hgCG, hkCG, svCG, haCG, cn, ct, hmCG, hdCG⟩
  have teCG : PySem.W.exmOne K (.ref CG) (.ref CG) = some true := exm_self svCG icCG tyCG sxCG
  have oxCG : OexC K CG := ⟨⟨nmCG, qnCG, nsCG, bsCG, bmCG, snCG, sbCG, abCG, coCG, ddCG, x0CG, x1CG, x2CG, x3CG, x5CG, lkCG, vbCG⟩, saCG, svCG, tyCG, kpCG⟩
  have FEo := fun_mk (st := Pm.cOutOfPictureInit) lEo cEo kEo
  have bEo := FEo.binds (ps := ["self", "x", "y"]) fun _ _ _ _ _ _ us hl => match us, hl with | [_, _, _], _ => rfl
  have erCO : ErrC K CO := ⟨by rw [cxCO]; rfl, hgCO, hkCO, svCO, haCO, cn, ct, hmCO, hdCO⟩
  have teCO : PySem.W.exmOne K (.ref CO) (.ref CO) = some true := exm_self svCO icCO tyCO sxCO
  have oxCO : OexC K CO := ⟨⟨nmCO, qnCO, nsCO, bsCO, bmCO, snCO, sbCO, abCO, coCO, ddCO, x0CO, x1CO, x2CO, x3CO, x5CO, lkCO, vbCO⟩, saCO, svCO, tyCO, kpCO⟩
  have kitCGCE : PySem.W.kitOne K (.ref CG) (.ref CE) = some true := kit_cls neCGCE cxCE tyCE sbCGCE
  have kitCOCE : PySem.W.kitOne K (.ref CO) (.ref CE) = some true := kit_cls neCOCE cxCE tyCE sbCOCE
  have FBag := fun_mk (st := Pm.lBag) lBag cBag kBag
  have bBag := FBag.binds (ps := ["_law_script"]) fun _ _ _ _ _ _ us hl => match us, hl with | [_], _ => rfl
  have FTake := fun_mk (st := Pm.lTake) lTake cTake kTake
  have bTake := FTake.binds (ps := ["_law_bag_here", "_law_size"]) fun _ _ _ _ _ _ us hl => match us, hl with | [_, _], _ => rfl
  have FPal := fun_mk (st := Pm.lPalette) lPal cPal kPal
  have bPal := FPal.binds (ps := ["_law_bag_here"]) fun _ _ _ _ _ _ us hl => match us, hl with | [_], _ => rfl
  have FRow := fun_mk (st := Pm.lRow) lRow cRow kRow
  have bRow := FRow.binds (ps := ["_law_bag_here", "_law_palette_here", "_law_wide"]) fun _ _ _ _ _ _ us hl => match us, hl with | [_, _, _], _ => rfl
  have FSg := fun_mk (st := Pm.lSign) lSg cSg kSg
  have bSg := FSg.binds (ps := ["_law_rows", "_law_cx", "_law_cy"]) fun _ _ _ _ _ _ us hl => match us, hl with | [_, _, _], _ => rfl
  have FPt := fun_mk (st := Pm.lPut) lPt cPt kPt
  have bPt := FPt.binds (ps := ["_law_rows", "_law_cx", "_law_cy", "_law_sign_here"]) fun _ _ _ _ _ _ us hl => match us, hl with | [_, _, _, _], _ => rfl
  have FGrid := fun_mk (st := Pm.lBigGrid) lGrid cGrid kGrid
  have bGrid := FGrid.binds (ps := ["_law_bag_here", "_law_palette_here"]) fun _ _ _ _ _ _ us hl => match us, hl with | [_, _], _ => rfl
  have FTx := fun_mk (st := Pm.lText) lTx cTx kTx
  have bTx := FTx.binds (ps := ["_law_bag_here", "_law_palette_here"]) fun _ _ _ _ _ _ us hl => match us, hl with | [_, _], _ => rfl
  have FCh := fun_mk (st := Pm.lChanged) lCh cCh kCh
  have bCh := FCh.binds (ps := ["_law_picture", "_law_cx", "_law_cy", "_law_sign_here"]) fun _ _ _ _ _ _ us hl => match us, hl with | [_, _, _, _], _ => rfl
  have FLp := fun_mk (st := Pm.lPlain) lLp cLp kLp
  have bLp := FLp.binds (ps := ["_law_wide", "_law_high", "_law_sign_here"]) fun _ _ _ _ _ _ us hl => match us, hl with | [_, _, _], _ => rfl
  have FGd := fun_mk (st := Pm.lGood) lGd cGd kGd
  have bGd := FGd.binds (ps := ["_law_sign_here"]) fun _ _ _ _ _ _ us hl => match us, hl with | [_], _ => rfl
  have FLaw := fun_mk (st := Pm.lLaw) lLaw cLaw kLaw
  refine ⟨PySem.W.fnOf "law" "law" (defArgs Pm.lLaw) (defBody Pm.lLaw) (defScope Pm.lLaw) .none kVLaw dcLaw pmLaw anLaw cdLaw ctLaw, fun s v => .of_eq rfl, fun base _ _ => ?_⟩
  have L : LTxt K mg := ⟨n zisinstance, n zint, n zlist, n zlen, n zrange⟩
  have T : PTxt K mg C := ⟨g gC, ⟨_, ⟨rdC, gaC⟩, ⟨_, aHo, rlHo⟩, ⟨_, aEd, rlEd⟩⟩, ⟨_, g aSn, rlSn⟩, ⟨_, g aMo, rlMo⟩, n zall, n zenumerate⟩
  have TC : PCls K C := ⟨clC, nC_rows, nC_width, nC_height⟩
  have M : Mk K C fI := ⟨mkC, aI, iI, kpC⟩
  have cIs : Cl l.prog w K mg base CX0 1 "is_stone" ["sign"] spStone fIs _ := ⟨ok_stone FIs L T, kIs, bIs, g aIs⟩
  have cSo : Cl l.prog w K mg base CX0 2 "is_stone_or_hole" ["sign"] spSoh fSo _ := ⟨ok_soh FSo cIs T, kSo, bSo, g aSo⟩
  have cBa : Cl l.prog w K mg base CX0 3 "_is_bad_row" ["row", "width"] spBad fBa _ := ⟨ok_bad FBa cSo L T, kBa, bBa, g aBa⟩
  have cBl : Cl l.prog w K mg base CX0 4 "_bad_line" ["rows"] spLine fBl _ := ⟨ok_line FBl cBa L T, kBl, bBl, g aBl⟩
  have xI : EMk l.prog w K mg base CI "InvalidPicture" ["self", "line"] (spE1 CI "line") fEi _ := ⟨oxCI, atCI, ftCI, okEInvalidPicture FEi oxCI nCI_line, bEi, g gCI⟩
  have xG : EMk l.prog w K mg base CG "InvalidSign" ["self", "sign"] (spE1 CG "sign") fEg _ := ⟨oxCG, atCG, ftCG, okEInvalidSign FEg oxCG nCG_sign, bEg, g gCG⟩
  have xO : EMk l.prog w K mg base CO "OutOfPicture" ["self", "x", "y"] (spE2 CO) fEo _ := ⟨oxCO, atCO, ftCO, okEOutOfPicture FEo oxCO nCO_x nCO_y, bEo, g gCO⟩
  have OI := ok_init FI cBl xI L TC
  have OL := ok_lines (P := l.prog) (w := w) (mg := mg) (base := base) FLi L TC
  have OC := ok_contains (P := l.prog) (w := w) (mg := mg) (base := base) FCo TC
  have cKc : Cl l.prog w K mg base (L2.CX l.prog w) 3 "check_cell" ["picture", "x", "y"] (spCkCell C CO) fKc _ := ⟨ok_cell FKc TC OC ⟨aCo, iCo, kCo⟩ bCo xO, kKc, bKc, g aKc⟩
  have cKs : Cl l.prog w K mg base (L2.CX l.prog w) 3 "check_sign" ["sign"] (spCSign CG) fKs _ := ⟨ok_csign FKs cSo xG, kKs, bKs, g aKs⟩
  have OW := ok_with FWi TC L (g gC) cKc cKs OI M bI
  have OP := ok_plain FPl cKs OI M bI
  have OS := ok_str (P := l.prog) (w := w) (mg := mg) (base := base) FSt TC
  have cTake : Cl l.prog w K mg base CX0 1 "_law_take" tkNames spTake fTake _ := ⟨ok_take FTake L.len L.int, kTake, bTake, g aTake⟩
  have cRow : Cl l.prog w K mg base CX0 2 "_law_row" ["_law_bag_here", "_law_palette_here", "_law_wide"] spRow fRow _ := ⟨ok_row FRow cTake L, kRow, bRow, g aRow⟩
  have A : CTxt K mg C CO CG CE := ⟨g gC, g gCO, g gCG, g gCE, erCO, erCG, nCO_x, nCO_y, nCG_sign, teCO, teCG, exm_cls svCO icCO tyCO sbGO, kitCOCE, kitCGCE⟩
  exact ok_law FLaw L (n zstr) A TC ⟨ok_bag FBag L, kBag, bBag, g aBag⟩ cTake ⟨ok_pal FPal cTake L, kPal, bPal, g aPal⟩ ⟨ok_grid FGrid cTake cRow L, kGrid, bGrid, g aGrid⟩ ⟨ok_text FTx cTake, kTx, bTx, g aTx⟩
    ⟨ok_sign FSg L, kSg, bSg, g aSg⟩ ⟨ok_good FGd L, kGd, bGd, g aGd⟩ ⟨ok_put FPt, kPt, bPt, g aPt⟩ ⟨ok_ch FCh L A TC OW ⟨aWi, iWi, kWi⟩ bWi OL ⟨aLi, iLi, kLi⟩ bLi, kCh, bCh, g aCh⟩
    ⟨ok_pl FLp L A TC ⟨rdC, gaC⟩ MPl OP bPl OL ⟨aLi, iLi, kLi⟩ bLi, kLp, bLp, g aLp⟩ OI M bI OW ⟨aWi, iWi, kWi⟩ bWi OL ⟨aLi, iLi, kLi⟩ bLi OS ⟨aSt, iSt⟩ bSt
theorem walk {l : PySem.W.OpenLaw} {q : Program} {loose : List Str} {XP : (Str → Option Value) → Heap → Prop} {YP : World → Heap → Prop} {d : DefRec} {K : Params → PySem.W.Frag} (hn : l.most = some 63) (hdf : d.params.defaults = [])
    (hY : ∀ (w : World) (h : Heap), YP w h → (K w.params).In h)
    (F : ∀ (w : World) (mg : Str → Option Value) (fa : Addr) (h : Heap), (K w.params).In h → h.Ns mainGlobals mg → mg d.name = some (.ref fa) →
      ∃ fd : FuncData, (∀ (s : Shared) (u : Value), BindsTo s fd ⟨[u], []⟩ [("_law_script", u)]) ∧ ∀ base : Heap, (K w.params).In base → base.Ns mainGlobals mg → FnOk l.prog w (K w.params) mg base CX0 9 fa fd ["_law_script"] (spLaw (K w.params))) :
    PySem.W.WalkO q loose XP YP l.row.toRowW d [] (fun f vs => PySem.call f vs) :=
  L2.walk_of (n := 63) (k := 9) (x := "_law_script") (CX := fun _ => CX0) (sp := fun w => spLaw (K w.params)) hn (by decide) hdf ⟨rfl, by decide, by decide⟩ hY F (fun _ _ a ns hl _ hS => ⟨a, ns, rfl, hS, hl, fun _ => rfl⟩) fun _ _ _ _ _ z => z
end Pm

open PySem PySem.W PyProof.Rows in
set_option maxRecDepth 100000 in
set_option maxHeartbeats 0 in
theorem PySem.Challenge.cw_smalti_k06_picture_with_sign_holds : PySem.Challenge.rw_smalti_k06_picture_with_sign.Holds := by
  w_on; o_law; k_head; (case hw => w_witness2)
  k_fill
  refine Pm.walk (l := PySem.Challenge.rw_smalti_k06_picture_with_sign) rfl rfl (fun w h Y => PySem.W.kIn_of Y) ?F
  case F =>
    intro w mg fa h KX G hmg
    refine' Pm.all_mk KX G hmg ?cn ?ct ?gC ?pgC ?hdC ?poC ?saC ?mkC ?kpC ?nC_rows ?nC_width ?nC_height ?rdC ?gaC ?aHo ?rlHo ?aEd ?rlEd ?aI ?iI ?lI ?cI ?kI ?aLi ?iLi ?lLi ?cLi ?kLi ?aCo ?iCo ?lCo ?cCo ?kCo ?aWi ?iWi ?lWi ?cWi ?kWi ?aSt ?iSt ?lSt ?cSt ?kSt ?aPl ?rPl ?iPl ?lPl ?cPl ?kPl ?aSn ?rlSn ?aMo ?rlMo ?aIs ?lIs ?cIs ?kIs ?aSo ?lSo ?cSo ?kSo ?aBa ?lBa ?cBa ?kBa ?aBl ?lBl ?cBl ?kBl ?aKc ?lKc ?cKc ?kKc ?aKs ?lKs ?cKs ?kKs ?gCI ?lkCI ?vbCI ?atCI ?ftCI ?lEi ?cEi ?kEi ?cxCI ?tyCI ?hgCI ?hkCI ?svCI ?sxCI ?icCI ?haCI ?hmCI ?hdCI ?kpCI ?nCI_line ?saCI ?gCG ?lkCG ?vbCG ?atCG ?ftCG ?lEg ?cEg ?kEg ?cxCG ?tyCG ?hgCG ?hkCG ?svCG ?sxCG ?icCG ?haCG ?hmCG ?hdCG ?kpCG ?nCG_sign ?saCG ?gCO ?lkCO ?vbCO ?atCO ?ftCO ?lEo ?cEo ?kEo ?cxCO ?tyCO ?hgCO ?hkCO ?svCO ?sxCO ?icCO ?haCO ?hmCO ?hdCO ?kpCO ?nCO_x ?nCO_y ?saCO ?gCE ?cxCE ?tyCE ?sbCGCE ?neCGCE ?sbCOCE ?neCOCE ?sbGO ?aBag ?lBag ?cBag ?kBag ?aTake ?lTake ?cTake ?kTake ?aPal ?lPal ?cPal ?kPal ?aRow ?lRow ?cRow ?kRow ?aSg ?lSg ?cSg ?kSg ?aPt ?lPt ?cPt ?kPt ?aGrid ?lGrid ?cGrid ?kGrid ?aTx ?lTx ?cTx ?kTx ?aCh ?lCh ?cCh ?kCh ?aLp ?lLp ?cLp ?kLp ?aGd ?lGd ?cGd ?kGd ?aLaw ?lLaw ?cLaw ?kLaw ?zisinstance ?zint ?zlist ?zlen ?zrange ?zall ?zenumerate ?zstr
    (case cn => k_is)
    (case ct => k_is)
    (case gC => k_is)
    (case pgC => k_is)
    (case hdC => k_is)
    (case poC => k_is)
    (case saC => k_is)
    (case mkC => k_is)
    (case kpC => k_is)
    (case nC_rows => k_is)
    (case nC_width => k_is)
    (case nC_height => k_is)
    (case rdC => k_is)
    (case gaC => k_is)
    (case aHo => k_is)
    (case rlHo => exact ⟨_, rfl⟩)
    (case aEd => k_is)
    (case rlEd => exact ⟨_, rfl⟩)
    (case aI => k_is)
    (case iI => k_is)
    (case lI => k_is)
    (case cI => k_is)
    (case kI => k_is)
    (case aLi => k_is)
    (case iLi => k_is)
    (case lLi => k_is)
    (case cLi => k_is)
    (case kLi => k_is)
    (case aCo => k_is)
    (case iCo => k_is)
    (case lCo => k_is)
    (case cCo => k_is)
    (case kCo => k_is)
    (case aWi => k_is)
    (case iWi => k_is)
    (case lWi => k_is)
    (case cWi => k_is)
    (case kWi => k_is)
    (case aSt => k_is)
    (case iSt => k_is)
    (case lSt => k_is)
    (case cSt => k_is)
    (case kSt => k_is)
    (case aPl => k_is)
    (case rPl => k_is)
    (case iPl => k_is)
    (case lPl => k_is)
    (case cPl => k_is)
    (case kPl => k_is)
    (case aSn => k_is)
    (case rlSn => exact ⟨_, rfl⟩)
    (case aMo => k_is)
    (case rlMo => exact ⟨_, rfl⟩)
    (case aIs => k_is)
    (case lIs => k_is)
    (case cIs => k_is)
    (case kIs => k_is)
    (case aSo => k_is)
    (case lSo => k_is)
    (case cSo => k_is)
    (case kSo => k_is)
    (case aBa => k_is)
    (case lBa => k_is)
    (case cBa => k_is)
    (case kBa => k_is)
    (case aBl => k_is)
    (case lBl => k_is)
    (case cBl => k_is)
    (case kBl => k_is)
    (case aKc => k_is)
    (case lKc => k_is)
    (case cKc => k_is)
    (case kKc => k_is)
    (case aKs => k_is)
    (case lKs => k_is)
    (case cKs => k_is)
    (case kKs => k_is)
    (case gCI => k_is)
    (case lkCI => k_is)
    (case vbCI => decide +kernel)
    (case atCI => k_is)
    (case ftCI => k_is)
    (case lEi => k_is)
    (case cEi => k_is)
    (case kEi => k_is)
    (case cxCI => k_is)
    (case tyCI => k_is)
    (case hgCI => k_is)
    (case hkCI => k_is)
    (case svCI => k_is)
    (case sxCI => k_is)
    (case icCI => k_is)
    (case haCI => k_is)
    (case hmCI => k_is)
    (case hdCI => k_is)
    (case kpCI => k_is)
    (case nCI_line => k_is)
    (case saCI => k_is)
    (case gCG => k_is)
    (case lkCG => k_is)
    (case vbCG => decide +kernel)
    (case atCG => k_is)
    (case ftCG => k_is)
    (case lEg => k_is)
    (case cEg => k_is)
    (case kEg => k_is)
    (case cxCG => k_is)
    (case tyCG => k_is)
    (case hgCG => k_is)
    (case hkCG => k_is)
    (case svCG => k_is)
    (case sxCG => k_is)
    (case icCG => k_is)
    (case haCG => k_is)
    (case hmCG => k_is)
    (case hdCG => k_is)
    (case kpCG => k_is)
    (case nCG_sign => k_is)
    (case saCG => k_is)
    (case gCO => k_is)
    (case lkCO => k_is)
    (case vbCO => decide +kernel)
    (case atCO => k_is)
    (case ftCO => k_is)
    (case lEo => k_is)
    (case cEo => k_is)
    (case kEo => k_is)
    (case cxCO => k_is)
    (case tyCO => k_is)
    (case hgCO => k_is)
    (case hkCO => k_is)
    (case svCO => k_is)
    (case sxCO => k_is)
    (case icCO => k_is)
    (case haCO => k_is)
    (case hmCO => k_is)
    (case hdCO => k_is)
    (case kpCO => k_is)
    (case nCO_x => k_is)
    (case nCO_y => k_is)
    (case saCO => k_is)
    (case gCE => k_is)
    (case cxCE => k_is)
    (case tyCE => k_is)
    (case sbCGCE => k_is)
    (case neCGCE => rfl)
    (case sbCOCE => k_is)
    (case neCOCE => rfl)
    (case sbGO => k_is)
    (case aBag => k_is)
    (case lBag => k_is)
    (case cBag => k_is)
    (case kBag => k_is)
    (case aTake => k_is)
    (case lTake => k_is)
    (case cTake => k_is)
    (case kTake => k_is)
    (case aPal => k_is)
    (case lPal => k_is)
    (case cPal => k_is)
    (case kPal => k_is)
    (case aRow => k_is)
    (case lRow => k_is)
    (case cRow => k_is)
    (case kRow => k_is)
    (case aSg => k_is)
    (case lSg => k_is)
    (case cSg => k_is)
    (case kSg => k_is)
    (case aPt => k_is)
    (case lPt => k_is)
    (case cPt => k_is)
    (case kPt => k_is)
    (case aGrid => k_is)
    (case lGrid => k_is)
    (case cGrid => k_is)
    (case kGrid => k_is)
    (case aTx => k_is)
    (case lTx => k_is)
    (case cTx => k_is)
    (case kTx => k_is)
    (case aCh => k_is)
    (case lCh => k_is)
    (case cCh => k_is)
    (case kCh => k_is)
    (case aLp => k_is)
    (case lLp => k_is)
    (case cLp => k_is)
    (case kLp => k_is)
    (case aGd => k_is)
    (case lGd => k_is)
    (case cGd => k_is)
    (case kGd => k_is)
    (case aLaw => k_is)
    (case lLaw => k_is)
    (case cLaw => k_is)
    (case kLaw => k_is)
    (case zisinstance => k_is)
    (case zint => k_is)
    (case zlist => k_is)
    (case zlen => k_is)
    (case zrange => k_is)
    (case zall => k_is)
    (case zenumerate => k_is)
    (case zstr => k_is)
