import PyProof.Rows.All
import Wide.All
import OpenK.AllK
import Wide.FinOn
import HandS.Words
import HandS.ReplaceLit
import HandS.ReplaceList
import HandS.Replace
import PyProof.StrCalls6
import HandS.ReplaceDef
import HandS.ForMost
import HandS.Codes
import HandS.Deep
import HandS.ClsMeth
import HandS.Conv
import HandS.Small
import HandS.IsInst
import HandS.Text
import KE.GoesMore
import KE.GoesEnumKw
import PyProof.Draws
import PyProof.Rows.CallKwBuiltin
import HandS.Sort
import HandS.Strs
import HandS.SetTxt0
import PyProof.CollectStr
import PyProof.StrWalks
import PyProof.Rows.SetFrom
import PyProof.Rows.SortShellAny
import HandS.Zip
import HandS.Walk
import HandS.Exc
import HandS.ExcInit
import HandS.ExcField
import HandS.ExcIs
import HandS.TryMany
import HandS.WordsExc
import HandS.ExcValue
import KE.KExcIs
import HandS.ExcOwn
import HandS.More
import HandS.Property
import HandS.SortRule
import HandS.Style
import PyProof.Rows.StrRev
import HandS.FStr
import HandS.HotCalls
import KE.KCallOwn
import PyProof.StrBlock2
import PyProof.Rows.StrJoinRep
import KE.KOpsOwn
import HandS.MakeKw
import HandS.MakeKwOnly
import KE.KDictZip
import KE.KStateDown
import HandS.Base
import HandS.Call
import HandS.Defaults
import HandS.Head0
import HandS.Head1
import HandS.Head2
import HandS.HeadEnd
import HandS.HeadHook1
import HandS.HeadHook2
import HandS.HeadNt
import PySem.Challenge.RW_smalti_k21_sketch_common
set_option Elab.async false
set_option linter.all false
set_option maxRecDepth 100000
set_option maxHeartbeats 16000000
/-! ### a def without parameters whose body returns a written text; e.replace(f(), "..") -/
namespace RepC
open PySem PySem.Spec PyProof.Rows L2 CwR
section
variable {X : Cx} {x x' c qual : Str} {f : Addr} {fd : FuncData} {st : Stmt} {j k : Nat} {p p' p1 pos : Pos} {N : List Str}
theorem eval_const0 {pins : List (Addr × Obj)} {σ : L2.St} {H : Hp} {s : Shared} {Q E : Value → Shared → Prop} (F : L2.Fun X.K x' qual st f fd) (S : FnScope N [] (defScope st)) (hbody : defBody st = [.Return (some (.Constant (.str c) j p)) p'])
    (hr : Room k X.A) (hg : Gl X x) (hm : X.mg x = some (.ref f)) (hb : Binds X.K fd [] []) (I : L2.Inv X pins σ H s) (h1 : 1 ≤ s.toks)
    (h : ∀ t s', 1 ≤ t → t < s'.toks → L2.Inv X pins σ H s' → Q (.str c t) s') (hdb : (x == ("__debug__" : Str)) = false := by decide) :
    wpAny (model X.prog X.w) X.A (eval (.Call (.Name x p1) [] [] pos) X.env) Q E s := by
  obtain ⟨oc, od, kV, doc, pm, an, cdv, ct, osl, rfl, lk, hcd⟩ := F.ex
  refine wpAny_Call_Name_kw (ld_glob I hg hm ?_ hdb)
  refine PyProof.Rows.callWith_meth0 rfl (I.kIn _ _ lk) ?_
  refine wpAny_call (codeAny_call_function hr.depth (I.kIn _ _ lk) rfl S.co S.gen rfl (PySem.W.codeRec_of I.kIn hcd) (hb s [] I.kIn rfl _ _ _ _ ?_))
  refine wpAny_mono (PySem.wpAny_toks (wpAny_newFunctionEnv_cells (Q := fun env s1 => InCallC s env.locals (bindL env.kindOf [] fun _ => none) env.cells (bindC env.kindOf [] fun _ => none) s1) S.kind (fun _ z => nomatch z) fun env he s1 y => y)) (fun env s1 q => ?_) fun _ _ z => z.2
  obtain ⟨tk, y⟩ := q
  refine ⟨I.mod.nolimit.keeps fun b o e => y.toInCall.keep b o (I.bk b o e), codeAny_func ?_⟩
  rw [hbody]
  refine wpAny_execs_cons (wpAny_Return_some (wpAny_Constant_str ?_))
  obtain ⟨h', t', e, kp⟩ := y.done
  subst e
  exact h t' _ (Nat.le_trans h1 tk) (Nat.lt_succ_self _) (I.kept kp)
/-- o.replace(f(), z) -/
theorem pet_replF {o : Expr} {to : TE} {z : Str} {apos pos2 c1 : Pos} {i : Nat} (ho : PE X o to) (F : L2.Fun X.K x' qual st f fd) (S : FnScope N [] (defScope st)) (hbody : defBody st = [.Return (some (.Constant (.str c) j p)) p'])
    (hr : Room k X.A) (hg : Gl X x) (hm : X.mg x = some (.ref f)) (hb : Binds X.K fd [] []) (hyz : (c == z) = false := by decide) (hdb : (x == ("__debug__" : Str)) = false := by decide)
    (hst : starEach [.Call (.Name x p1) [] [] pos, .Constant (.str z) i c1] X.env = [(false, eval (.Call (.Name x p1) [] [] pos) X.env), (false, eval (.Constant (.str z) i c1) X.env)] := by rfl)
    (hbase : attributeBase o "replace" X.env (eval o X.env) = eval o X.env := by rfl) (hline : (apos.endLine == pos2.line) = true := by rfl) :
    PET X (.Call (.Attribute o "replace" apos) [.Call (.Name x p1) [] [] pos, .Constant (.str z) i c1] [] pos2) (tReplC to c z) := by
  intro pins s σ H Q h0 I h
  refine PySem.Call_method2 hbase hst hline (wpAny_mono (PySem.wpAny_toks (ho.run pins s σ H _ I h)) (fun v s1 q => ?_) fun _ _ z => z.2)
  obtain ⟨hk, v', H1, I1, r1, x1, e1, hl, q⟩ := q
  subst e1
  obtain ⟨tx, e2⟩ := r1
  subst e2
  refine ⟨"str", _, PySem.F.plainAttrs_str, PySem.F.slot_str_replace, PySem.F.type_str_replace, typeIs_str _ _ _, (fun _ e => nomatch e), Calls.callWith_builtin rfl (Calls.evalArgs_plain (Calls.spliced_cons ?_))⟩
  refine eval_const0 F S hbody hr hg hm hb I1 (Nat.le_trans h0 hk) (fun t s2 ht hs I2 => ?_) hdb
  refine Calls.spliced_cons (Calls.Constant_str (Calls.spliced_nil ?_))
  have a1 : t ≠ 0 := Nat.ne_of_gt ht
  have a2 : s2.toks ≠ 0 := Nat.ne_of_gt (Nat.lt_of_le_of_lt (Nat.zero_le _) hs)
  have a3 : t ≠ s2.toks := Nat.ne_of_lt hs
  exact PySem.SC.replace a1 a2 a3 hyz hl fun t' k => ⟨.str (Txt.replace x1 c z), H1, I2.tok k, ⟨t', rfl⟩, q⟩
end
section
variable {P : Program} {w : World} {K : PySem.W.Frag} {mg : Str → Option Value} {base : Heap}
/-- a def with a parameter and no cells: its body may use that a token is out -/
theorem okT {x qual : Str} {st : Stmt} {f : Addr} {fd : FuncData} {N ps : List Str} {k : Nat} {sp : Sp} (F : L2.Fun K x qual st f fd) (S : FnScope N ps (defScope st)) (hnc : ∀ y ∈ (defScope st).names, y.2 ≠ .cell) (hps : 1 ≤ ps.length) (len : ∀ vs H Q E, sp vs H Q E → vs.length = ps.length)
    (hbody : ∀ (cdv : Value) (A : Around) (outer : List Env) (s : Shared) (H : Hp) (vs : List V) (Q : VK) (E : XK), Room k (A.deeper (envOfC qual (defScope st) s.heap.objs.size f cdv)) → sp vs H Q E →
      ∃ t, PSsT (cxOf CX0 P w K mg base N qual (defScope st) f cdv A outer s H E) (defBody st) t ∧ t { nx := fun _ H' => Q .non H', rt := Q } (start N vs) H) : FnOk P w K mg base CX0 (k + 1) f fd ps sp := by
  obtain ⟨oc, od, kV, doc, pm, an, cdv, ct, osl, rfl, lk, hcd⟩ := F.ex
  exact fn_ofT lk hcd S hnc hps len fun A outer s H vs Q E hr hsp => hbody cdv A outer s H vs Q E hr hsp
end
end RepC
namespace Pm
open PySem L2
/-! ### the text by places -/
def top (i : Nat) : Stmt := PySem.Challenge.pw_smalti_k21_sketch_common.main.body.getD i (.Pass ⟨0, 0, 0, 0⟩)
abbrev gWall : Stmt := top 0
abbrev gDecimal : Stmt := top 4
abbrev cRegionInit : Stmt := inClass (top 5) 0
abbrev cRegionOf : Stmt := inClass (top 5) 1
abbrev cRegionCells : Stmt := inClass (top 5) 2
abbrev cRegionWithin : Stmt := inClass (top 5) 3
abbrev cRegionOr : Stmt := inClass (top 5) 4
abbrev cRegionAnd : Stmt := inClass (top 5) 5
abbrev cRegionSub : Stmt := inClass (top 5) 6
abbrev cRegionXor : Stmt := inClass (top 5) 7
abbrev cRegionEq : Stmt := inClass (top 5) 8
abbrev cRegionContains : Stmt := inClass (top 5) 9
abbrev cRegionLen : Stmt := inClass (top 5) 10
abbrev cRegionBool : Stmt := inClass (top 5) 11
abbrev cRegionStr : Stmt := inClass (top 5) 12
abbrev cInvalidPictureInit : Stmt := inClass (top 8) 0
abbrev cInvalidSketchInit : Stmt := inClass (top 9) 0
abbrev cInvalidSignsInit : Stmt := inClass (top 10) 0
abbrev cOutOfPictureInit : Stmt := inClass (top 11) 0
abbrev cEmptyCellInit : Stmt := inClass (top 12) 0
abbrev gIsStone : Stmt := top 17
abbrev gIsStoneOrHole : Stmt := top 18
abbrev gAreDifferentSigns : Stmt := top 19
abbrev gInAsciiOrder : Stmt := top 20
abbrev gIsBadRow : Stmt := top 21
abbrev gBadLine : Stmt := top 23
abbrev cPictureInit : Stmt := inClass (top 25) 2
abbrev cPictureRead : Stmt := inClass (top 25) 3
abbrev cPicturePlain : Stmt := inClass (top 25) 4
abbrev cPictureLines : Stmt := inClass (top 25) 5
abbrev cPictureEveryCell : Stmt := inClass (top 25) 6
abbrev cPictureStones : Stmt := inClass (top 25) 7
abbrev cPictureHoles : Stmt := inClass (top 25) 8
abbrev cPictureContains : Stmt := inClass (top 25) 9
abbrev cPictureWithSign : Stmt := inClass (top 25) 10
abbrev cPictureGetitem : Stmt := inClass (top 25) 11
abbrev cPictureIter : Stmt := inClass (top 25) 12
abbrev cPictureLen : Stmt := inClass (top 25) 13
abbrev cPictureEq : Stmt := inClass (top 25) 14
abbrev cPictureSub : Stmt := inClass (top 25) 15
abbrev cPictureStr : Stmt := inClass (top 25) 16
abbrev gAreAllowedSigns : Stmt := top 28
abbrev gCheckSizes : Stmt := top 29
abbrev gIsBadRowSketches : Stmt := top 30
abbrev gBadLineSketches : Stmt := top 32
abbrev gReadWord : Stmt := top 34
abbrev gCommonSigns : Stmt := top 35
abbrev cSketchInit : Stmt := inClass (top 36) 1
abbrev cSketchRead : Stmt := inClass (top 36) 2
abbrev cSketchOf : Stmt := inClass (top 36) 3
abbrev cSketchAllow : Stmt := inClass (top 36) 4
abbrev cSketchText : Stmt := inClass (top 36) 5
abbrev cSketchFits : Stmt := inClass (top 36) 6
abbrev cSketchWays : Stmt := inClass (top 36) 7
abbrev cSketchCopy : Stmt := inClass (top 36) 8
abbrev cSketchCheckCell : Stmt := inClass (top 36) 9
abbrev cSketchGetitem : Stmt := inClass (top 36) 10
abbrev cSketchSetitem : Stmt := inClass (top 36) 11
abbrev cSketchIter : Stmt := inClass (top 36) 12
abbrev cSketchAnd : Stmt := inClass (top 36) 13
abbrev cSketchEq : Stmt := inClass (top 36) 14
abbrev lBag : Stmt := top 38
abbrev lTake : Stmt := top 39
abbrev lOnce : Stmt := top 40
abbrev lPalette : Stmt := top 41
abbrev lRow : Stmt := top 42
abbrev lGrid : Stmt := top 43
abbrev lCells : Stmt := top 44
abbrev lAny : Stmt := top 45
abbrev lAllowed : Stmt := top 46
abbrev lTable : Stmt := top 47
abbrev lSketchText : Stmt := top 48
abbrev lAt : Stmt := top 49
abbrev lSketchIs : Stmt := top 50
abbrev lMet : Stmt := top 51
abbrev lDue : Stmt := top 52
abbrev lCommonApart : Stmt := top 53
abbrev lLaw : Stmt := top 54
end Pm
namespace Pm
open PySem PySem.Spec PyProof.Rows L2
/-- all that stood stands, but r -/
def SameBut (r : Addr) (H H' : Hp) : Prop := ∀ b o, b ≠ r → H b = some o → H' b = some o
theorem tyes {σ : L2.St} {G : Hp} {R : Bool → Hp → Prop} (h : R true G) : tYes σ G R := h
theorem same_upd {H : Hp} {p : Addr} {o : HO} (h : H p = none) : Same H (upd H p o) := fun b x e => by
  rw [upd_ne (ne_of_none e h)]
  exact e
theorem back {H H' : Hp} (s : Same H H') {t : Addr} (h : H' t = none) : H t = none := by
  cases z : H t with
  | none => rfl
  | some o =>
    rw [s _ _ z] at h
    cases h
theorem but_back {b : Addr} {H H' : Hp} {xs : List V} (hb : H b = some (.lst xs)) (s : SameBut b H H') {t : Addr} (ne : t ≠ b) (h : H' t = none) : H t = none := by
  cases z : H t with
  | none => rfl
  | some o =>
    rw [s _ _ ne z] at h
    cases h
theorem cut_to (xs : List V) (n : Nat) : cutV xs none (some (n : Int)) = xs.take n := by
  unfold cutV
  rw [HT.sIx_none, HT.sIx_nat, List.drop_zero, Nat.sub_zero]
  rcases Nat.le_total n xs.length with h | h
  · rw [Nat.min_eq_left h]
  · rw [Nat.min_eq_right h, List.take_of_length_le (Nat.le_refl _), List.take_of_length_le h]
theorem iteFe {b : Bool} {p q : Prop} (h : b = false) (z : q) : if b = true then p else q := by
  subst h
  exact iteF z
theorem iteTe {b : Bool} {p q : Prop} (h : b = true) (z : p) : if b = true then p else q := by
  subst h
  exact iteT z
/-- the built-ins by their names -/
structure LTxt (K : PySem.W.Frag) (mg : Str → Option Value) : Prop where
  isi : mg "isinstance" = none
  int : mg "int" = none
  lst : mg "list" = none
  len : mg "len" = none
  rng : mg "range" = none
/-- a def that may be called by its name -/
structure Cl (P : Program) (w : World) (K : PySem.W.Frag) (mg : Str → Option Value) (base : Heap) (CX : CXT) (k : Nat) (name : Str) (ps : List Str) (sp : Sp) (f : Addr) (fd : FuncData) : Prop where
  ok : FnOk P w K mg base CX k f fd ps sp
  kp : PySem.W.keepIn K (.ref f) = true
  bd : Binds K fd ps []
  gl : mg name = some (.ref f)
/-! ### the bag of drawn numbers -/
/-- the bag at b: four places; the first a list of ints, the second a place in it or its end, the third at least 0 -/
abbrev BagL (H : Hp) (b l : Addr) : Prop := ∃ (ns : List Int) (i p q : Int),
  H b = some (.lst [.ref l, .int i, .int p, .int q]) ∧ H l = some (.lst (ns.map V.int)) ∧ 0 ≤ i ∧ 0 ≤ p ∧ l ≠ b ∧ ns.length ≤ 63
/-- all but b stands as it stood -/
def But (b : Addr) (H H' : Hp) : Prop := ∀ a, a ≠ b → H' a = H a
theorem But.refl (b : Addr) (H : Hp) : But b H H := fun _ _ => rfl
theorem But.trans {b : Addr} {H H1 H2 : Hp} (x : But b H H1) (y : But b H1 H2) : But b H H2 := fun a h => (y a h).trans (x a h)
theorem But.upd {b : Addr} {H : Hp} {o : HO} : But b H (upd H b o) := fun _ h => upd_ne h
def spTake : Sp := fun vs H Q _ => ∃ (b l : Addr) (size : Int), vs = [.ref b, .int size] ∧ BagL H b l ∧ 0 < size ∧ size < 1073741824 ∧
  ∀ (n : Int) (H' : Hp), 0 ≤ n → n < size → But b H H' → BagL H' b l → Q (.int n) H'
theorem scTake : FnScope ["_law_bag_here", "_law_size", "_law_cell", "_law_digit"] ["_law_bag_here", "_law_size"] (defScope lTake) := ⟨rfl, rfl, rfl, by decide +kernel, rfl, by decide +kernel, by decide +kernel⟩
theorem at4 {a b c d : V} : atI [a, b, c, d] 0 = some a ∧ atI [a, b, c, d] 1 = some b ∧ atI [a, b, c, d] 2 = some c ∧ atI [a, b, c, d] 3 = some d := ⟨rfl, rfl, rfl, rfl⟩
section
variable {P : Program} {w : World} {K : PySem.W.Frag} {mg : Str → Option Value} {base : Heap}
theorem ok_take {f : Addr} {fd : FuncData} (F : Fun K "_law_take" "_law_take" lTake f fd) (mlen : mg "len" = none) (mint : mg "int" = none) : FnOk P w K mg base CX0 1 f fd ["_law_bag_here", "_law_size"] spTake := by
  refine F.ok scTake (fun vs H Q E h => ?_) (fun cdv A outer s H vs Q E hr h => ?_)
  · obtain ⟨b, l, size, rfl, _⟩ := h
    rfl
  · obtain ⟨b, l, size, rfl, ⟨ns, i, p, q, hb, hl, i0, p0, nlb, n63⟩, s0, s1, k⟩ := h
    refine ⟨_, C8.pss_cut (ps_if (PW.pt (pw_and (pt_cmpR op_eq (pe_ix ix_list (pv 0) pe_int (fun _ _ => rfl)) pe_int (nomark _))
          (pw_and1 (pt_cmpR op_lt (pe_ix ix_list (pv 0) pe_int (fun _ _ => rfl)) (pe_callB call_len_seq (by rfl) mlen PySem.boot_len (pa_cons (pe_ix ix_list (pv 0) pe_int (fun _ _ => rfl)) pa_nil)) (nomark _)))))
        (pss_cons (ps_set (i := 2) scTake.nd rfl (.inl rfl) (pe_ix ix_list (pe_ix ix_list (pv 0) pe_int (fun _ _ => rfl)) (pe_ix ix_list (pv 0) pe_int (fun _ _ => rfl)) (fun _ _ => rfl)))
        (pss_cons (ps_asg (pe_op op_add (pe_ix ix_list (pv 0) pe_int (fun _ _ => rfl)) pe_int) (pg_sub (pv 0) pe_int set_list))
        (pss_one (ps_if (pt_cmpR op_ge (pv 2) (pe_op op_pow pe_int pe_int) (nomark _))
          (pss_one (ps_asg (pv 2) (pg_sub (pv 0) pe_int set_list)))
          (pss_one (ps_asg (pe_op op_mod (pe_callTy call_int1 (by rfl) mint (by decide +kernel) (pa_cons (pe_op op_add (pe_op op_add (pe_op op_mul (pe_ix ix_list (pv 0) pe_int (fun _ _ => rfl)) pe_int) (pe_op op_mul (pv 2) pe_int)) pe_int) pa_nil)) pe_int) (pg_sub (pv 0) pe_int set_list)))))))
        pss_nil)
      (pss_cons (ps_if (pt_cmpR op_gt (pe_ix ix_list (pv 0) pe_int (fun _ _ => rfl)) pe_int (nomark _))
        (pss_cons (ps_set (i := 3) scTake.nd rfl (.inl rfl) (pe_op op_mod (pe_callTy call_int1 (by rfl) mint (by decide +kernel) (pa_cons (pe_ix ix_list (pv 0) pe_int (fun _ _ => rfl)) pa_nil)) (pv 1)))
        (pss_cons (ps_asg (pe_op op_fdiv (pe_ix ix_list (pv 0) pe_int (fun _ _ => rfl)) (pv 1)) (pg_sub (pv 0) pe_int set_list))
        (pss_one (ps_ret (pv 3)))))
        pss_nil)
      (pss_cons (ps_asg (pe_op op_mod (pe_callTy call_int1 (by rfl) mint (by decide +kernel) (pa_cons (pe_op op_add (pe_op op_mul (pe_ix ix_list (pv 0) pe_int (fun _ _ => rfl)) pe_int) pe_int) pa_nil)) pe_int) (pg_sub (pv 0) pe_int set_list))
      (pss_one (ps_ret (pe_op op_mod (pe_callTy call_int1 (by rfl) mint (by decide +kernel) (pa_cons (pe_op op_fdiv (pe_ix ix_list (pv 0) pe_int (fun _ _ => rfl)) pe_int) pa_nil)) (pv 1)))))), ?_⟩
    have seven : ∀ q' : Int, (0 : Int) < 2147483647 := fun _ => by decide
    refine ⟨fun σ H1 => ∃ (c : Option V) (i' p' q' : Int), σ = [some (.ref b), some (.int size), c, Option.none] ∧ But b H H1 ∧ H1 b = some (.lst [.ref l, .int i', .int p', .int q']) ∧ 0 ≤ i' ∧ 0 ≤ p', ?_, ?_⟩
    · -- if bag[2] == 0 and bag[1] < len(bag[0])
      refine ⟨_, rfl, b, _, 2, _, rfl, rfl, SqL.of hb, rfl, rfl, _, rfl, ite2 (fun _ => ?_) (fun _ => ⟨_, i, p, q, rfl, But.refl b H, hb, i0, p0⟩)⟩
      refine ⟨_, rfl, b, _, 1, _, rfl, rfl, SqL.of hb, rfl, _, rfl, b, _, 0, _, rfl, rfl, SqL.of hb, rfl, l, _, rfl, .inl (SqL.of hl), _, _, rfl, rfl, _, rfl, ite2 (fun e => ?_) (fun _ => ⟨_, i, p, q, rfl, But.refl b H, hb, i0, p0⟩)⟩
      have elt : i < ((ns.map V.int).length : Int) := of_decide_eq_true e
      rw [List.length_map] at elt
      obtain ⟨j, rfl⟩ : ∃ j : Nat, i = (j : Int) := ⟨i.toNat, by omega⟩
      have hj : j < ns.length := by omega
      have gj : (ns.map V.int)[j]? = some (.int ns[j]) := by
        rw [List.getElem?_map, List.getElem?_eq_getElem hj]
        rfl
      -- cell = bag[0][bag[1]]
      refine ⟨_, rfl, b, _, 0, _, rfl, rfl, SqL.of hb, rfl, _, rfl, b, _, 1, _, rfl, rfl, SqL.of hb, rfl, l, _, (j : Int), _, rfl, rfl, SqL.of hl, atI_nat gj, ?_⟩
      -- bag[1] = bag[1] + 1
      refine ⟨_, rfl, b, _, 1, _, rfl, rfl, SqL.of hb, rfl, _, _, rfl, rfl, _, rfl, b, _, 1, 1, rfl, rfl, hb, rfl, ?_⟩
      have hb1 : (upd H b (.lst [.ref l, .int ((j : Int) + 1), .int p, .int q])) b = some (.lst [.ref l, .int ((j : Int) + 1), .int p, .int q]) := upd_same
      have bu : But b H (upd H b (.lst [.ref l, .int ((j : Int) + 1), .int p, .int q])) := But.upd
      refine ⟨_, rfl, _, _, rfl, rfl, ⟨by decide, by decide, by decide⟩, _, _, rfl, rfl, _, rfl, ite2 (fun e2 => ?_) (fun _ => ?_)⟩
      · have big : (10 : Int) ^ (18 : Int).toNat ≤ ns[j] := of_decide_eq_true e2
        have pos : (0 : Int) ≤ (10 : Int) ^ (18 : Int).toNat := by decide
        refine ⟨_, rfl, _, rfl, b, _, 2, 2, rfl, rfl, hb1, rfl, ?_⟩
        exact ⟨_, (j : Int) + 1, ns[j], q, rfl, bu.trans But.upd, upd_same, by omega, by omega⟩
      · refine ⟨_, rfl, b, _, 3, _, rfl, rfl, SqL.of hb1, rfl, _, _, rfl, rfl, .inr ⟨by decide, by decide⟩, _, rfl, _, _, rfl, rfl, .inr ⟨by decide, by decide⟩, _, _, rfl, rfl, _, _, rfl, rfl, .inl ⟨_, rfl, _, _, rfl, rfl, seven 0, _, rfl, b, _, 3, 3, rfl, rfl, hb1, rfl, ?_⟩⟩
        exact ⟨_, (j : Int) + 1, p, _, rfl, bu.trans But.upd, upd_same, by omega, p0⟩
    · rintro σ H1 ⟨c, i', p', q', rfl, bu, hb1, i1, p1⟩
      have hl1 : H1 l = some (.lst (ns.map V.int)) := (bu l nlb).trans hl
      refine ⟨_, rfl, b, _, 2, _, rfl, rfl, SqL.of hb1, rfl, _, _, rfl, rfl, _, rfl, ite2 (fun _ => ?_) (fun _ => ?_)⟩
      · -- digit = int(bag[2]) % size; bag[2] = bag[2] // size; return digit
        refine ⟨_, rfl, b, _, 2, _, rfl, rfl, SqL.of hb1, rfl, .inl ⟨_, rfl, _, rfl, _, _, rfl, rfl, s0, ?_⟩⟩
        refine ⟨_, rfl, b, _, 2, _, rfl, rfl, SqL.of hb1, rfl, _, rfl, _, _, rfl, rfl, ⟨s0, s1⟩, _, rfl, b, _, 2, 2, rfl, rfl, hb1, rfl, _, rfl, ?_⟩
        refine k _ _ (Int.emod_nonneg _ (by omega)) (Int.emod_lt_of_pos _ s0) (bu.trans But.upd) ⟨ns, i', p' / size, q', upd_same, ?_, i1, Int.ediv_nonneg p1 (by omega), nlb, n63⟩
        rw [upd_ne nlb]
        exact hl1
      · refine ⟨_, rfl, b, _, 3, _, rfl, rfl, SqL.of hb1, rfl, _, _, rfl, rfl, .inr ⟨by decide, by decide⟩, _, _, rfl, rfl, .inl ⟨_, rfl, _, _, rfl, rfl, seven 0, _, rfl, b, _, 3, 3, rfl, rfl, hb1, rfl, ?_⟩⟩
        have hb2 : (upd H1 b (.lst [.ref l, .int i', .int p', .int ((q' * 48271 + 11) % 2147483647)])) b = some (.lst [.ref l, .int i', .int p', .int ((q' * 48271 + 11) % 2147483647)]) := upd_same
        refine ⟨_, rfl, b, _, 3, _, rfl, rfl, SqL.of hb2, rfl, _, _, rfl, rfl, ⟨by decide, by decide⟩, .inl ⟨_, rfl, _, rfl, _, _, rfl, rfl, s0, ?_⟩⟩
        refine k _ _ (Int.emod_nonneg _ (by omega)) (Int.emod_lt_of_pos _ s0) (bu.trans But.upd) ⟨ns, i', p', _, upd_same, ?_, i1, p1, nlb, n63⟩
        rw [upd_ne nlb]
        exact hl1
def spBag (K : PySem.W.Frag) : Sp := fun vs H Q _ => ∃ (a : Addr) (ns : List Int), vs = [.ref a] ∧ SqL K H a (ns.map V.int) ∧ ns.length ≤ 63 ∧ ∀ b l H', Same H H' → H b = none → BagL H' b l → Q (.ref b) H'
abbrev nBag : List Str := ["_law_script", "_law_cell"]
theorem scBag : FnScope nBag ["_law_script"] (defScope lBag) := ⟨rfl, rfl, rfl, by decide +kernel, rfl, by decide +kernel, by decide +kernel⟩
theorem ok_bag {f : Addr} {fd : FuncData} (F : Fun K "_law_bag" "_law_bag" lBag f fd) (T : LTxt K mg) : FnOk P w K mg base CX0 1 f fd ["_law_script"] (spBag K) := by
  refine F.ok scBag (fun vs H Q E h => ?_) (fun cdv A outer s H vs Q E hr h => ?_)
  · obtain ⟨a, ns, rfl, _⟩ := h
    rfl
  · obtain ⟨a, ns, rfl, ha, few, k⟩ := h
    refine ⟨_, pss_one (ps_ret (pe_lst (pa_cons (pe_lc (own := [("_law_cell", 1)]) (g := gName 1) (tt := tYes) rfl scBag.nd (pi_list (pe_slice sl_list (pv 0) po_none (po_some pe_int)))
      (blkOk_by (own := [("_law_cell", 1)]) (N := nBag) (sc := defScope lBag) (by decide +kernel)) (fun _ _ _ _ _ => pg_name (i := 1) scBag.nd rfl (Or.inl rfl)) (fun _ _ _ _ _ => pts_nil)
      (fun _ _ _ _ _ => pe_callTy call_int1 (by rfl) T.int (by decide +kernel) (pa_cons (pv 1) pa_nil))) (pa_cons pe_int (pa_cons pe_int (pa_cons pe_int pa_nil)))))), ?_⟩
    refine ⟨_, rfl, 63, rfl, a, _, rfl, ha, fun q nq => ?_⟩
    have ec : cutV (ns.map V.int) none (some 63) = ns.map V.int := by
      rw [show (some 63 : Option Int) = some ((63 : Nat) : Int) from rfl, cut_to, List.take_of_length_le (by rw [List.length_map]; exact few)]
    rw [ec]
    have s1 := same_upd (o := .lst (ns.map V.int)) nq
    refine ⟨q, rfl, ⟨_, SqL.of upd_same⟩, fun D nD => lc_list (K := K) (a := q) (xs := ns.map V.int) (fun i G => Same (upd H q (.lst (ns.map V.int))) G ∧ G D = some (.lst ((ns.take i).map V.int))) ⟨same_upd nD, upd_same⟩ (fun i G _ ⟨sm, _⟩ => SqL.of (sm _ _ upd_same)) ?_ ?_⟩
    · rintro i x G hx ⟨sm, hD⟩
      rw [List.getElem?_map] at hx
      cases e : ns[i]? with
      | none =>
        rw [e] at hx
        cases hx
      | some n =>
        rw [e] at hx
        cases hx
        refine ⟨rfl, tyes (iteT ⟨_, rfl, .inl ⟨n, rfl, _, hD, ?_, fun b o eb => ?_, ?_⟩⟩)⟩
        · rw [List.length_map, List.length_take]
          exact small1000 (by omega)
        · rw [upd_ne (ne_of_none eb nD)]
          exact sm _ _ eb
        · rw [upd_same, List.take_add_one, e, List.map_append]
          rfl
    · rintro G ⟨sm, hD⟩
      rw [List.length_map, List.take_of_length_le (Nat.le_refl _)] at hD
      refine ⟨(by show 4 ≤ sizeLine; decide), fun b nb => ?_⟩
      have nb0 : H b = none := by
        cases z : H b with
        | none => rfl
        | some o =>
          rw [sm _ _ (s1 _ _ z)] at nb
          cases nb
      have ndb : D ≠ b := ne_of_none hD nb
      exact k b D _ (fun x o e => by
        rw [upd_ne (ne_of_none (sm _ _ (s1 _ _ e)) nb)]
        exact sm _ _ (s1 _ _ e)) nb0 ⟨ns, 0, 0, 7, upd_same, by rw [upd_ne ndb]; exact hD, by decide, by decide, ndb, few⟩
end
end Pm
/-! ### replacing in joined words -/
namespace Pm
open PySem PySem.Spec PyProof.Rows L2 SX
open PySem.StrLaws (replL replL_hit replL_miss replL_nil)
theorem take_sep {y : List Nat} {c : Nat} (hc : c ∉ y) : ∀ {w rest : List Nat}, (w ++ c :: rest).take y.length = y → w.take y.length = y ∧ y.length ≤ w.length := by
  intro w rest h
  have le : y.length ≤ w.length := by
    rcases Nat.lt_or_ge w.length y.length with l | l
    · exfalso
      apply hc
      rw [← h]
      have e : (w ++ c :: rest)[w.length]? = some c := by rw [List.getElem?_append_right (Nat.le_refl _), Nat.sub_self]; rfl
      have e2 : ((w ++ c :: rest).take y.length)[w.length]? = some c := by rw [List.getElem?_take_of_lt l]; exact e
      exact List.mem_of_getElem? e2
    · exact l
  rw [List.take_append_of_le_length le] at h
  exact ⟨h, le⟩
theorem repl_sep {y z : List Nat} {c : Nat} (hy : y ≠ []) (hc : c ∉ y) : ∀ (n : Nat) (w rest : List Nat), w.length ≤ n → replL y z (w ++ c :: rest) = replL y z w ++ c :: replL y z rest
  | n, [], rest, _ => by
    rw [replL_nil, List.nil_append, List.nil_append]
    refine replL_miss fun h => ?_
    have := (take_sep hc (w := []) (rest := rest) h).2
    cases y with
    | nil => exact hy rfl
    | cons => simp at this
  | 0, a :: w, rest, h => absurd h (by simp)
  | n + 1, a :: w, rest, h => by
    have lw : w.length ≤ n := by simpa using h
    by_cases e : (a :: w).take y.length = y
    · have le : y.length ≤ (a :: w).length := by
        have := congrArg List.length e
        rw [List.length_take] at this
        omega
      have y1 : 0 < y.length := List.length_pos_iff.mpr hy
      have e2 : ((a :: w) ++ c :: rest).take y.length = y := by rw [List.take_append_of_le_length le]; exact e
      have l2 : ((a :: w).drop y.length).length ≤ n := by rw [List.length_drop, List.length_cons]; omega
      rw [List.cons_append] at e2 ⊢
      rw [replL_hit hy e2, replL_hit hy e, ← List.cons_append, List.drop_append_of_le_length le, repl_sep hy hc n _ _ l2, List.append_assoc]
    · have e2 : ¬ ((a :: w) ++ c :: rest).take y.length = y := fun h2 => e (take_sep hc h2).1
      rw [List.cons_append] at e2 ⊢
      rw [replL_miss e2, replL_miss e, repl_sep hy hc n _ _ lw, List.cons_append]
theorem repl_short {y z : List Nat} : ∀ (w : List Nat), w.length < y.length → replL y z w = w
  | [], _ => replL_nil
  | a :: w, h => by
    have e : ¬ (a :: w).take y.length = y := fun e => by
      have := congrArg List.length e
      rw [List.length_take] at this
      omega
    rw [replL_miss e, repl_short w (by rw [List.length_cons] at h; omega)]
theorem repl_word {y z w : List Nat} (hy : y ≠ []) (h : w.length ≤ y.length) : replL y z w = if w = y then z else w := by
  by_cases e : w = y
  · rw [if_pos e, e]
    cases y with
    | nil => exact absurd rfl hy
    | cons a y =>
      rw [replL_hit hy (List.take_of_length_le (Nat.le_refl _)), List.drop_length, replL_nil, List.append_nil]
  · rw [if_neg e]
    cases w with
    | nil => exact replL_nil
    | cons a w =>
      have ne : ¬ (a :: w).take y.length = y := fun e2 => e (by rw [List.take_of_length_le h] at e2; exact e2)
      rw [replL_miss ne, repl_short w (by rw [List.length_cons] at h; omega)]
theorem repl_join {y z : List Nat} {c : Nat} (hy : y ≠ []) (hc : c ∉ y) (f : List Nat → List Nat) : ∀ (ws : List (List Nat)), (∀ w ∈ ws, replL y z w = f w) → replL y z (TL.joinL [c] ws) = TL.joinL [c] (ws.map f)
  | [], _ => replL_nil
  | [w], h => h w List.mem_cons_self
  | w :: v :: ws, h => by
    show replL y z (w ++ ([c] ++ TL.joinL [c] (v :: ws))) = f w ++ ([c] ++ TL.joinL [c] (f v :: ws.map f))
    have ih := repl_join hy hc f (v :: ws) fun u m => h u (List.mem_cons_of_mem _ m)
    have e := repl_sep (z := z) hy hc w.length w (TL.joinL [c] (v :: ws)) (Nat.le_refl _)
    rw [List.cons_append, List.nil_append, e, ih, h w List.mem_cons_self]
    rfl
/-! #### words of a sketch -/
def anyL : List Nat := 46 :: (List.range 26).map (· + 97)
theorem anyL_len : anyL.length = 27 := by decide
def starW (w : List Nat) : List Nat := if w = anyL then [42] else w
/-- a table of words -/
abbrev Tab := List (List (List Nat))
def starT (T : Tab) : Tab := T.map fun r => r.map starW
def tabT (T : Tab) : List Nat := TL.joinL [10] (T.map fun r => TL.joinL [32] r)
theorem repl_tab {T : Tab} (h : ∀ r ∈ T, ∀ w ∈ r, w.length ≤ 27) : replL anyL [42] (tabT T) = tabT (starT T) := by
  have hy : anyL ≠ [] := by decide
  unfold tabT starT
  rw [repl_join hy (by decide) (replL anyL [42]) (T.map fun r => TL.joinL [32] r) (fun _ _ => rfl), List.map_map, List.map_map]
  congr 1
  refine List.map_congr_left fun r m => ?_
  show replL anyL [42] (TL.joinL [32] r) = TL.joinL [32] (r.map starW)
  exact repl_join hy (by decide) starW r fun w mw => repl_word hy (by rw [anyL_len]; exact h r m w mw)
end Pm
namespace Pm
open PySem PySem.Spec PyProof.Rows L2 SX
/-! ### signs -/
abbrev alphaS : Str := "abcdefghijklmnopqrstuvwxyz"
def Let (c : Nat) : Prop := 97 ≤ c ∧ c ≤ 122
def Good (c : Nat) : Prop := c = 46 ∨ Let c
instance (c : Nat) : Decidable (Let c) := by unfold Let; infer_instance
instance (c : Nat) : Decidable (Good c) := by unfold Good; infer_instance
theorem alpha_at : ∀ n : Nat, n < 26 → alphaS.cps.toList[n]? = some (97 + n) := by decide +kernel
theorem alpha_mem (c : Nat) : c ∈ alphaS.cps.toList ↔ Let c := by
  have e : alphaS.cps.toList = List.range' 97 26 := by decide +kernel
  rw [e, List.mem_range'_1]
  unfold Let
  omega
theorem alpha_len : alphaS.length = 26 := by decide +kernel
theorem len_S (a : List Nat) : (S a).length = a.length := S_len a
theorem small_line {n : Nat} (h : n ≤ 1000) : n ≤ sizeLine := Nat.le_of_lt (small1000 h)
theorem dot_S : ("." : Str) = S [46] := by decide +kernel
/-- three letters -/
def Pal (z : List Nat) : Prop := ∃ c d e, z = [c, d, e] ∧ Let c ∧ Let d ∧ Let e
theorem Pal.len {z : List Nat} (h : Pal z) : z.length = 3 := by
  obtain ⟨c, d, e, rfl, _⟩ := h
  rfl
theorem Pal.good {z : List Nat} (h : Pal z) {c : Nat} (m : c ∈ z) : Let c := by
  obtain ⟨a, b, e, rfl, ha, hb, he⟩ := h
  simp only [List.mem_cons, List.not_mem_nil, or_false] at m
  rcases m with rfl | rfl | rfl <;> assumption
theorem draw_at {z : List Nat} (h : Pal z) {n : Int} (n0 : 0 ≤ n) (n7 : n < 7) : ∃ c, atI ([46] ++ z ++ z) n = some c ∧ Good c := by
  obtain ⟨j, rfl⟩ : ∃ j : Nat, n = (j : Int) := ⟨n.toNat, by omega⟩
  have len : ([46] ++ z ++ z).length = 7 := by simp [h.len]
  have hj : j < ([46] ++ z ++ z).length := by omega
  refine ⟨([46] ++ z ++ z)[j], atI_nat (List.getElem?_eq_getElem hj), ?_⟩
  have m := List.getElem_mem hj
  rcases List.mem_append.mp m with m | m
  · rcases List.mem_append.mp m with m | m
    · exact .inl (by simpa using m)
    · exact .inr (h.good m)
  · exact .inr (h.good m)
section
variable {P : Program} {w : World} {K : PySem.W.Frag} {mg : Str → Option Value} {base : Heap}
def spPal : Sp := fun vs H Q _ => ∃ b l, vs = [.ref b] ∧ BagL H b l ∧ ∀ z H', Pal z → But b H H' → BagL H' b l → Q (.str (S z)) H'
theorem scPal : FnScope ["_law_bag_here", "_law_letters", "_law_first", "_law_second", "_law_third"] ["_law_bag_here"] (defScope lPalette) := ⟨rfl, rfl, rfl, by decide +kernel, rfl, by decide +kernel, by decide +kernel⟩
abbrev tkNames : List Str := ["_law_bag_here", "_law_size"]
theorem ok_pal {f t : Addr} {fd td : FuncData} (F : Fun K "_law_palette" "_law_palette" lPalette f fd) (T : Cl P w K mg base CX0 1 "_law_take" tkNames spTake t td) (L : LTxt K mg) : FnOk P w K mg base CX0 2 f fd ["_law_bag_here"] spPal := by
  refine F.ok scPal (fun vs H Q E h => ?_) (fun cdv A outer s H vs Q E hr h => ?_)
  · obtain ⟨b, l, rfl, _⟩ := h
    rfl
  · obtain ⟨b, l, rfl, hb, k⟩ := h
    refine ⟨_, pss_cons (ps_set (i := 1) scPal.nd rfl (.inl rfl) pe_str)
      (pss_cons (ps_set (i := 2) scPal.nd rfl (.inl rfl) (pe_call T.ok hr (by rfl) T.gl T.kp T.bd .nil pass0 (pa_cons (pv 0) (pa_cons pe_int pa_nil))))
      (pss_cons (ps_set (i := 3) scPal.nd rfl (.inl rfl) (pe_op op_mod (pe_callTy call_int1 (by rfl) L.int (by decide +kernel) (pa_cons (pe_op op_add (pe_op op_add (pv 2) pe_int) (pe_call T.ok hr (by rfl) T.gl T.kp T.bd .nil pass0 (pa_cons (pv 0) (pa_cons pe_int pa_nil)))) pa_nil)) pe_int))
      (pss_cons (ps_set (i := 4) scPal.nd rfl (.inl rfl) (pe_op op_mod (pe_callTy call_int1 (by rfl) L.int (by decide +kernel) (pa_cons (pe_op op_add (pe_op op_add (pv 3) pe_int) (pe_call T.ok hr (by rfl) T.gl T.kp T.bd .nil pass0 (pa_cons (pv 0) (pa_cons pe_int pa_nil)))) pa_nil)) pe_int))
      (pss_one (ps_ret (pe_op op_add_str (pe_op op_add_str (pe_ix ix_str (pv 1) (pv 2) (fun _ _ => rfl)) (pe_ix ix_str (pv 1) (pv 3) (fun _ _ => rfl))) (pe_ix ix_str (pv 1) (pv 4) (fun _ _ => rfl)))))))), ?_⟩
    refine ⟨_, rfl, b, l, 26, rfl, hb, by decide, by decide, fun n H1 n0 n1 u1 b1 => ?_⟩
    refine ⟨_, rfl, _, _, rfl, rfl, _, rfl, b, l, 25, rfl, b1, by decide, by decide, fun n2 H2 p0 p1 u2 b2 => ⟨_, _, rfl, rfl, .inl ⟨_, rfl, _, _, rfl, rfl, (by show (0 : Int) < 26; decide), ?_⟩⟩⟩
    refine ⟨_, rfl, _, _, rfl, rfl, _, rfl, b, l, 25, rfl, b2, by decide, by decide, fun n3 H3 q0 q1 u3 b3 => ⟨_, _, rfl, rfl, .inl ⟨_, rfl, _, _, rfl, rfl, (by show (0 : Int) < 26; decide), ?_⟩⟩⟩
    have at_ : ∀ m : Int, 0 ≤ m → m < 26 → ∃ c, atI alphaS.cps.toList m = some c ∧ Let c := fun m h0 h1 => by
      obtain ⟨j, rfl⟩ : ∃ j : Nat, m = (j : Int) := ⟨m.toNat, by omega⟩
      exact ⟨97 + j, atI_nat (alpha_at j (by omega)), by unfold Let; omega⟩
    obtain ⟨c, ec, hc⟩ := at_ n n0 n1
    obtain ⟨d, ed, hd⟩ := at_ _ (Int.emod_nonneg (n + 1 + n2) (show (26 : Int) ≠ 0 by decide)) (Int.emod_lt_of_pos (n + 1 + n2) (show (0 : Int) < 26 by decide))
    obtain ⟨e, ee, he⟩ := at_ _ (Int.emod_nonneg ((n + 1 + n2) % 26 + 1 + n3) (show (26 : Int) ≠ 0 by decide)) (Int.emod_lt_of_pos ((n + 1 + n2) % 26 + 1 + n3) (show (0 : Int) < 26 by decide))
    have al : alphaS.length ≤ sizeLine := by rw [alpha_len]; exact small_line (by decide)
    refine ⟨_, rfl, _, rfl, _, _, _, rfl, rfl, al, ec, ?_⟩
    refine ⟨_, rfl, _, rfl, _, _, _, rfl, rfl, al, ed, _, _, rfl, rfl, by show 1 + 1 ≤ sizeLine; decide, ?_⟩
    refine ⟨_, rfl, _, rfl, _, _, _, rfl, rfl, al, ee, _, _, rfl, rfl, by show 2 + 1 ≤ sizeLine; decide, ?_⟩
    have z : (S [c] ++ S [d]) ++ S [e] = S [c, d, e] := by rw [S_cat, S_cat]; rfl
    have y := k [c, d, e] H3 ⟨c, d, e, rfl, hc, hd, he⟩ ((u1.trans u2).trans u3) b3
    rw [← z] at y
    exact y
end
/-! ### grids -/
abbrev Rows := List (List Nat)
def rowsV (R : Rows) : List V := R.map fun r => V.str (S r)
structure Grid (R : Rows) (w : Nat) : Prop where
  w1 : 1 ≤ w
  w8 : w ≤ 8
  h1 : 1 ≤ R.length
  h8 : R.length ≤ 8
  row : ∀ r ∈ R, r.length = w
  sgn : ∀ r ∈ R, ∀ c ∈ r, Good c
theorem rowsV_len (R : Rows) : (rowsV R).length = R.length := List.length_map _
theorem bag_upd {H : Hp} {b l t : Addr} {o : HO} (h : BagL H b l) (n : H t = none) : BagL (upd H t o) b l := by
  obtain ⟨ns, i, p, q, hb, hl, r⟩ := h
  exact ⟨ns, i, p, q, by rw [upd_ne (ne_of_none hb n)]; exact hb, by rw [upd_ne (ne_of_none hl n)]; exact hl, r⟩
theorem bag_b {H : Hp} {b l : Addr} (h : BagL H b l) : ∃ xs, H b = some (.lst xs) := by
  obtain ⟨_, _, _, _, hb, _⟩ := h
  exact ⟨_, hb⟩
theorem bag_ne {H : Hp} {b l t : Addr} {o : HO} (h : BagL H b l) (tb : t ≠ b) (tl : t ≠ l) : BagL (upd H t o) b l := by
  obtain ⟨ns, i, p, q, hb, hl, r⟩ := h
  exact ⟨ns, i, p, q, by rw [upd_ne (Ne.symm tb)]; exact hb, by rw [upd_ne (Ne.symm tl)]; exact hl, r⟩
theorem bag_l {H : Hp} {b l : Addr} (h : BagL H b l) : ∃ xs, H l = some (.lst xs) := by
  obtain ⟨_, _, _, _, _, hl, _⟩ := h
  exact ⟨_, hl⟩
theorem but_same {b : Addr} {H H' : Hp} (h : But b H H') : SameBut b H H' := fun a o ha e => (h a ha).trans e
theorem sb_trans {b : Addr} {H H1 H2 : Hp} (h : SameBut b H H1) (k : SameBut b H1 H2) : SameBut b H H2 := fun a o ha e => k a o ha (h a o ha e)
theorem sb_refl (b : Addr) (H : Hp) : SameBut b H H := fun _ _ _ e => e
theorem same_sb {b : Addr} {H H' : Hp} (h : Same H H') : SameBut b H H' := fun a o _ e => h a o e
end Pm
namespace Pm
open PySem PySem.Spec PyProof.Rows L2 SX
/-! ### for i, x in enumerate(xs, start=1) -/
/-- the list at a, item by item, each with its number counted from 1, in a new pair -/
def ItS (K : PySem.W.Frag) (a : Addr) : It where
  go := fun i H => ∃ (xs : List V) (x : V), SqL K H a xs ∧ xs[i]? = some x
  yld := fun i H v H' => ∃ T x, v = .ref T ∧ H T = none ∧ H' = upd H T (.tup [.int ((i : Int) + 1), x]) ∧ ∀ xs, SqL K H a xs → xs[i]? = some x
  stop := fun i H => ∃ xs : List V, SqL K H a xs ∧ xs.length = i
/-- a list's draws, counted from 1 -/
theorem draws1 {prog : Program} {w : World} {A : Around} (hh : A.handled = none) (it l : Addr) (ne : l ≠ it) (xs : Array Value) :
    Draws prog w A it [it, l] (xs.size + 1) (fun i v => xs[i - 1]? = some v) (fun i h => 1 ≤ i ∧ h.IsListIter it l (i - 1) ∧ h.IsList l xs) := by
  have D := Draws.list (prog := prog) (w := w) hh it l ne xs
  refine ⟨fun i h st => D.live (i - 1) h st.2, fun i h g st k => ⟨st.1, D.frame (i - 1) h g st.2 k⟩, ?_, fun s Q E st q => D.done s Q E st.2 q⟩
  intro i s Q E lt st q
  obtain ⟨j, rfl⟩ : ∃ j, i = j + 1 := ⟨i - 1, by have := st.1; omega⟩
  exact D.item j s Q E (by omega) st.2 fun x g tk px sx sb => q x g tk px ⟨by omega, sx⟩ sb
theorem apartL {h : Heap} {a it : Addr} {xs : Array Value} {i : Nat} (isl : h.IsList a xs) (h2 : h.IsListIter it a i) : a ≠ it := fun z => by
  obtain ⟨o, y, yc, n, yd⟩ := isl
  obtain ⟨o', y', _, yd'⟩ := h2
  rw [z, y'] at y
  cases y
  rw [yd'] at yd
  cases yd
theorem apartE {h : Heap} {a e it : Addr} {xs : Array Value} {i : Int} {w : Value} (isl : h.IsList a xs) (h1 : IsEnum h e it i w) : e ≠ a := fun z => by
  obtain ⟨o, y, yc, n, yd⟩ := isl
  rw [← z, h1] at y
  cases y
  cases yd
def tnS (e it a : Addr) (i : Nat) (h : Heap) : Prop := (∃ o, IsEnum h e it ((i + 1 : Nat) : Int) o) ∧ h.IsListIter it a i ∧ e ≠ it
theorem turnS {P : Program} {w : World} {K : PySem.W.Frag} {es : List Expr} {kk : Nat} {tp : Pos} (a e it : Addr) : Turn P w K (.Tuple es kk tp) (ItS K a) [e, it] e (tnS e it a) := by
  have two : ∀ {b : Addr}, b ∈ [e, it] → b = e ∨ b = it := fun m => by simpa using m
  constructor
  case mem => exact List.mem_cons_self
  case obj =>
    rintro i h ⟨⟨o1, h1⟩, ⟨o2, h2, _, d2⟩, _⟩ b m
    rcases two m with rfl | rfl
    · exact ⟨_, h1, fun v q => nomatch q⟩
    · refine ⟨o2, h2, fun v q => ?_⟩
      rw [d2] at q
      cases q
  case keep =>
    rintro i h g ⟨⟨o1, h1⟩, h2, ne⟩ k
    exact ⟨⟨o1, k e (by simp) _ h1⟩, h2.at fun o y => k it (by simp) o y, ne⟩
  case self =>
    rintro A i s Q E ⟨⟨_, h1⟩, _⟩ q
    exact wpAny_pyIter_enum h1 q
  case done =>
    rintro X rfl rfl rfl calm i pins s σ H E I free ⟨⟨o1, h1⟩, h2, ne⟩ ⟨xs, hx, rfl⟩
    obtain ⟨us, rv, isl, _⟩ := I.list hx
    obtain ⟨f0, f1, f2, f3, f4, f5⟩ := free it (by simp)
    have D := draws1 (prog := X.prog) (w := X.w) (A := X.A.in1) (I.ok.hd calm) it a (apartL isl.isList h2) us.toArray
    have e5 : us.toArray.size = xs.length := by simpa using rv.length.symm
    rw [e5] at D
    exact wpAny_pyNext_enum_endD D h1 ⟨by omega, h2, isl.isList⟩ fun g eb => ⟨rfl, I.turned (t' := s.toks) (fun b o nb y => eb b o nb y) f0 f1 f3 f4 f5⟩
  case item =>
    rintro X rfl rfl rfl calm i pins s σ H E I free ⟨⟨o1, h1⟩, h2, ne⟩ ⟨xs, x, hx, gx⟩
    obtain ⟨us, rv, isl, _⟩ := I.list hx
    obtain ⟨u, gu, ru⟩ := rv.get gx
    have nl := apartL isl.isList h2
    have D := draws1 (prog := X.prog) (w := X.w) (A := X.A.in1) (I.ok.hd calm) it a nl us.toArray
    have big : e < s.heap.objs.size := Heap.lt_size h1
    have sz : i < us.length := by
      rcases List.getElem?_eq_some_iff.mp gu with ⟨y, _⟩
      exact y
    refine wpAny_pyNext_enum_itemD (i := i + 1) D h1 ⟨by omega, h2, isl.isList⟩ (by simpa using sz) ne (fun m => ?_) fun v g tk pv eo st gT gs gk => ?_
    · rcases List.mem_cons.mp m with z | z
      · exact ne z
      · exact apartE isl.isList h1 (List.mem_singleton.mp z)
    · have ev : v = u := by
        have y : us.toArray[i]? = some v := pv
        rw [List.getElem?_toArray, gu] at y
        exact (Option.some.inj y).symm
      subst ev
      refine ⟨_, rfl, wpAny_letOwnedTupleGo_enum (s := { s with heap := g, toks := tk + 1 }) eo fun g2 e2 sb => ?_⟩
      have T2 : g2.get? s.heap.objs.size = some { cls := .type "tuple", data := .seq #[.int ((i + 1 : Nat) : Int) tk, v] } :=
        (sb.2 _ (Nat.ne_of_gt big)).trans gT
      have fresh : H s.heap.objs.size = none := I.hok.fresh (Nat.le_refl _)
      have pair : ObjOk X.prog X.w (upd H s.heap.objs.size (.tup [.int ((i : Int) + 1), x])) g2 s.heap.objs.size (.tup [.int ((i : Int) + 1), x]) :=
        ⟨small_line (by show 2 ≤ 1000; decide), [.int ((i + 1 : Nat) : Int) tk, v], .cons ⟨_, rfl⟩ (.cons ru .nil), ⟨_, T2, rfl, _, rfl⟩⟩
      have J : L2.Inv X pins σ (upd H s.heap.objs.size (.tup [.int ((i : Int) + 1), x])) { s with heap := g2, toks := tk + 1 } :=
        I.turnedNew (ch := [e, it]) (fun b o nb y => (sb.2 b (fun z => nb (by simp [z]))).trans (gk b o (fun z => nb (by simp [z])) (fun z => nb (by simp [z])) y)) free (Nat.le_refl _) pair
      refine ⟨.ref s.heap.objs.size, _, J, rfl, ⟨_, x, rfl, fresh, rfl, fun ys hy => ?_⟩, ⟨⟨v, e2⟩, st.2.1.at fun o y => (sb.2 it (Ne.symm ne)).trans y, ne⟩, fun b m => ?_⟩
      · rw [I.list_inj hy hx]
        exact gx
      · rw [upd_ne (fun z => ?_)]
        · exact (free b m).1
        · rcases two m with y | y
          · rw [y] at z
            rw [← z] at big
            exact Nat.lt_irrefl _ big
          · have lt2 : it < s.heap.objs.size := by
              obtain ⟨_, y2, _⟩ := h2
              exact Heap.lt_size y2
            rw [y] at z
            rw [← z] at lt2
            exact Nat.lt_irrefl _ lt2
/-! ### its making -/
section
variable {M : Model} {A : Around} {E : Value → Shared → Prop} {s : Shared} {env : Env}
theorem kw_type {pos : Pos} {T : String} {e : Expr} {es : List Expr} {kws : List Keyword} {Q : Value → Shared → Prop}
    (h : wpAny M A (spliced (backTo pos (starEach (e :: es) env))) (fun us s1 => wpAny M A (evalAll ((backToKw pos (keywordEach kws env)).map (·.2)))
      (fun ks s2 => wpAny M A (call (.type T) us (((backToKw pos (keywordEach kws env)).filterMap (·.1)).zip ks)) Q E s2) E s1) E s)
    (h1 : backTo pos (starEach (e :: es) env) = (false, eval e env) :: backTo pos (starEach es env) := by rfl) (h2 : (backTo pos (starEach (e :: es) env)).any (·.1) = false := by rfl)
    (h3 : (backToKw pos (keywordEach kws env)).all (·.1.isSome) = true := by rfl) (h4 : (backToKw pos (keywordEach kws env)).any (·.1.isNone) = false := by rfl) :
    wpAny M A (callWith pos (.type T) [] (backTo pos (starEach (e :: es) env)) (backToKw pos (keywordEach kws env))) Q E s := by
  have go : wpAny M A (evalArgs (.type T) true (backTo pos (starEach (e :: es) env)) (backToKw pos (keywordEach kws env))) (fun a s1 => wpAny M A (call (.type T) ([] ++ a.pos) a.kw) Q E s1) E s := by
    rw [h1] at h ⊢
    exact evalArgs_kwB h3 h
  unfold callWith
  refine wpAny_bind (wpAny_holding (wpAny_mono go (fun a s1 r => wpAny_bind (wpAny_standAt ?_)) fun _ _ y => y))
  simp only [h2, h4, Bool.or_false]
  exact wpAny_bind (wpAny_pure (wpAny_bind (wpAny_mono r (fun u s2 q => wpAny_bind (wpAny_holding (wpAny_point (wpAny_pure q)))) fun _ _ y => y)))
end
def iEnS (K : PySem.W.Frag) (ta tk : TA) : TI := fun σ H R => ta σ H fun vs H1 => tk σ H1 fun zs H2 => ∃ a xs, vs = [.ref a] ∧ zs = [.int 1] ∧ SqL K H2 a xs ∧ R (ItS K a) H2
theorem pi_enumS {X : Cx} {e ke : Expr} {ta tk : TA} {p kp pos tp : Pos} {es : List Expr} {kk : Nat} (hg : Gl X "enumerate") (hm : X.mg "enumerate" = none) (ha : PA X [e] ta) (hk : PK X [⟨some "start", ke, kp⟩] tk)
    (h1 : backTo pos (starEach [e] X.env) = (false, eval e X.env) :: backTo pos (starEach [] X.env) := by rfl) (h2 : (backTo pos (starEach [e] X.env)).any (·.1) = false := by rfl) :
    PI X (.Tuple es kk tp) (.Call (.Name "enumerate" p) [e] [⟨some "start", ke, kp⟩] pos) (iEnS X.K ta tk) := by
  refine ⟨fun pins s σ H R I h => ?_⟩
  refine wpAny_Call_Name_kw (ld_blt I hg hm boot_enumerate (kw_type (thn (ha.run pos pins s σ H _ I h) fun us s1 ⟨vs, H1, I1, r1, q1⟩ => thn (hk.run pos pins s1 σ H1 _ I1 q1) fun ks s2 ⟨zs, H2, I2, r2, a, xs, ev, ez, hx, q⟩ => ?_) h1 h2) (by decide) (by decide))
  subst ev ez
  match r1, r2 with
  | .cons ra .nil, .cons rk .nil =>
    cases ra
    obtain ⟨t, rfl⟩ := rk
    obtain ⟨vals, rv, isl, _⟩ := I2.list hx
    refine enum_begins_start (begins_list a vals.toArray) isl.isList (by decide) (by decide) fun g he hi hz hk2 => wpAny_pyIter_enum he ?_
    have J : L2.Inv X pins σ H2 { s2 with heap := g } := I2.kept (t' := s2.toks) hk2
    refine ⟨s2.heap.objs.size + 1, [s2.heap.objs.size + 1, s2.heap.objs.size], _, ItS X.K a, H2, rfl, J, turnS a (s2.heap.objs.size + 1) s2.heap.objs.size, ⟨⟨.none, he⟩, ⟨_, hi, rfl, rfl⟩, Nat.succ_ne_self _⟩, fun b m => ?_, q⟩
    have le : s2.heap.objs.size ≤ b := by
      rcases List.mem_cons.mp m with y | y
      · rw [y]
        exact Nat.le_succ _
      · rw [List.mem_singleton.mp y]
        exact Nat.le_refl _
    exact I2.fpOk le (I2.hok.fresh le)
end Pm
namespace Pm
open PySem PySem.Spec PyProof.Rows L2 SX
/-! ### sets of texts, filled from an iterator -/
/-- one more text, if it is new -/
def ddS (l : List Str) (v : Str) : List Str := if l.any (· == v) then l else l ++ [v]
def metS (val : Nat → Str) (i : Nat) : List Str := ((List.range i).map val).foldl ddS []
theorem metS_succ (val : Nat → Str) (i : Nat) : metS val (i + 1) = ddS (metS val i) (val i) := by
  unfold metS
  rw [List.range_succ, List.map_append, List.foldl_append]
  rfl
theorem metS_le (val : Nat → Str) : ∀ i, (metS val i).length ≤ i
  | 0 => Nat.le_refl _
  | i + 1 => by
    rw [metS_succ]
    have ih := metS_le val i
    unfold ddS
    split
    · omega
    · rw [List.length_append, List.length_singleton]
      omega
theorem ddS_any (l : List Str) (v k : Str) : (ddS l v).any (· == k) = (l.any (· == k) || decide (k = v)) := by
  unfold ddS
  by_cases h : l.any (· == v) = true
  · rw [if_pos h]
    by_cases e : k = v
    · subst e
      rw [h]
      simp
    · simp [e]
  · rw [if_neg h, List.any_append]
    by_cases e : k = v
    · subst e
      simp
    · have hb : (v == k) = false := by simpa [beq_iff_eq] using (fun h' : v = k => e h'.symm)
      simp [hb, e]
theorem ddS_len (l : List Str) (v : Str) : (ddS l v).length = if l.any (· == v) then l.length else l.length + 1 := by
  unfold ddS
  split <;> simp
section
variable {prog : Program} {w : World} {A : Around} {R : Result → Shared → Prop} {I : Addr} {fp wr : List Addr} {G : Array GenState → Array GenState → Prop} {n : Nat} {Pp : Nat → Value → Prop} {St : Nat → Shared → Prop}
theorem set_loopS (W : WalksS prog w A.in1 I fp wr G n Pp St) (S : Addr) (hSf : S ∉ fp) (val : Nat → Str) (hval : ∀ i v, Pp i v → ∃ t, v = .str (val i) t) (hb : n + 1 < scanBound) :
    ∀ (k i : Nat) (s : Shared), n - i = k → i ≤ n → St i s →
      s.heap.SetOf (PySem.strKind prog w) S (fun k' => (metS val i).any (· == k')) (metS val i).length →
      (∀ s', Moved (S :: wr) G s s' → s'.heap.SetOf (PySem.strKind prog w) S (fun k' => (metS val n).any (· == k')) (metS val n).length → R (.ok (.ret .none)) s') →
      codeAny (model prog w) A (.builtin "set.update.loop" ⟨[.ref S, .ref I], []⟩) R s := by
  have hSw : S ∉ wr := fun h => hSf (W.sub _ h)
  have hsub : ∀ b ∈ wr, b ∈ S :: wr := fun b hb => List.mem_cons_of_mem _ hb
  intro k
  induction k with
  | zero =>
    intro i s hk hi hst hS hR
    have hin : i = n := by omega
    subst hin
    refine codeAny_builtin PyProof.Rows.F.entry_set_update_loop ?_
    rw [Around.under_plainId PyProof.Rows.F.plain_set_update_loop _]
    show wpAny _ A.in1 (pyNext (.ref I) >>= _) _ _ s
    refine wpAny_bind (W.done s _ _ hst fun s' hm => ?_)
    show wpAny _ A.in1 (ret Value.none) _ _ s'
    exact wpAny_pure (hR s' (hm.mono hsub) (by
      obtain ⟨o, es, ep, t, ho, rest⟩ := hS
      exact ⟨o, es, ep, t, hm.heap S _ hSw ho, rest⟩))
  | succ k ih =>
    intro i s hk hi hst hS hR
    have hlt : i < n := by omega
    refine codeAny_builtin PyProof.Rows.F.entry_set_update_loop ?_
    rw [Around.under_plainId PyProof.Rows.F.plain_set_update_loop _]
    show wpAny _ A.in1 (pyNext (.ref I) >>= _) _ _ s
    refine wpAny_bind (W.item i s _ _ hlt hst fun v s' hP hst' hm => ?_)
    obtain ⟨t, rfl⟩ := hval i v hP
    have hS' : s'.heap.SetOf (PySem.strKind prog w) S (fun k' => (metS val i).any (· == k')) (metS val i).length := by
      obtain ⟨o, es, ep, tb, ho, rest⟩ := hS
      exact ⟨o, es, ep, tb, hm.heap S _ hSw ho, rest⟩
    have iskey : (PySem.strKind prog w).is (val i) (.str (val i) t) = true := Froz.is_str _ _
    show wpAny _ A.in1 (holding [Value.str (val i) t] (setAdd S (.str (val i) t)) >>= _) _ _ s'
    refine wpAny_bind (wpAny_holding ?_)
    unfold setAdd
    refine wpAny_holding ?_
    refine wpAny_bind ((PySem.strKind prog w).pyHash (k := val i) iskey ?_)
    have hroom : (metS val i).length + 1 < scanBound := by
      have := metS_le val i
      omega
    refine wpAny_setAddHashed_of (knd := PySem.strKind prog w) (s := { s' with toks := s'.toks + 1 }) iskey rfl hS' hroom fun h' hsb hS2 => ?_
    have hSi : h'.SetOf (PySem.strKind prog w) S (fun k' => (metS val (i + 1)).any (· == k')) (metS val (i + 1)).length :=
      SetOf_congr hS2 (fun k' => by rw [metS_succ, ddS_any]) (by rw [metS_succ, ddS_len])
    refine wpAny_pure ⟨plainId_quiet PyProof.Rows.F.plain_set_update_loop _, ih (i + 1) _ (by omega) hlt (W.frame _ s' _ _ hst' (Nat.le_succ _) fun b hb o e => ?_) hSi fun s'' hm'' hS'' => ?_⟩
    · rw [hsb.2 b (fun h : b = S => hSf (by rw [← h]; exact hb))]
      exact e
    · refine hR s'' (Moved.trans W.gtrans ((hm.mono hsub).then_heap (Nat.le_succ _) fun b o hb e => ?_) hm'') hS''
      rw [hsb.2 b (fun h : b = S => hb (by rw [h]; exact List.mem_cons_self))]
      exact e
end
end Pm
namespace Pm
open PySem PySem.Spec PyProof.Rows L2 SX
theorem sub_str_set' : isSubtype (.type "str") (.type "set") = pure false := by rw [isSubtype_type]; kernel_rfl
theorem sub_str_frozen' : isSubtype (.type "str") (.type "frozenset") = pure false := by rw [isSubtype_type]; kernel_rfl
section
variable {prog : Program} {w : World} {A : Around} {E : Value → Shared → Prop} {s : Shared}
theorem call_set_text {x : Str} {t : Tok} {Q : Value → Shared → Prop}
    (hh : A.handled = none) (hb : x.cps.size + 1 < scanBound)
    (h : ∀ (h' : Heap) (tk : Nat), h'.SetOf (PySem.strKind prog w) s.heap.objs.size (fun k' => (metS (fun i => ⟨#[x.cps.getD i 0]⟩) x.cps.size).any (· == k')) (metS (fun i => ⟨#[x.cps.getD i 0]⟩) x.cps.size).length →
      (∀ b o, b < s.heap.objs.size → s.heap.get? b = some o → h'.get? b = some o) → Q (.ref s.heap.objs.size) { s with heap := h', toks := tk }) :
    wpAny (model prog w) A (call (.type "set") [.str x t]) Q E s := by
  obtain ⟨c, tl, hmro⟩ := F.called_set.mro
  have hmade := F.called_set.made
  have hsub := F.called_set.sub
  refine wpAny_call (codeAny_of_tree ?_)
  show wpAny _ _ (callAny (.type "set") _) _ _ _
  refine wpAny_pure ⟨Code.quiet_builtin _ (by decide +kernel), codeAny_builtin F.entry_type_call ?_⟩
  rw [Around.under_plain (weight_type_call_type "set" [.str x t] []) rfl]
  have h1 := F.called_set.notType
  have h2 := F.called_set.canCreate
  have hct := F.typeCall_set_1 (.str x t)
  repeat (any_goals (first | assumption | wp_step))
  refine codeAny_mono (code_set_new_1 (.str x t) (E := E) (Q₁ := fun obj s₁ => ∃ led : Bool, obj = .ref s.heap.objs.size ∧ s₁ = { s with heap := s.heap.push { cls := .type "set", dict := none, data := .set #[] 0 (.fresh 0 0 led) } }) fun led => ⟨led, rfl, rfl⟩) fun r s₁ hr => ?_
  cases r with
  | error e => exact hr
  | ok fl =>
    cases fl with
    | ret obj =>
      obtain ⟨led, rfl, rfl⟩ := hr
      have hS : (s.heap.push { cls := .type "set", dict := none, data := .set #[] 0 (.fresh 0 0 led) }).get? s.heap.objs.size = some { cls := .type "set", dict := none, data := .set #[] 0 (.fresh 0 0 led) } := Heap.get?_push_size _ rfl
      have hT : Shared.TypeIs { s with heap := s.heap.push { cls := .type "set", dict := none, data := .set #[] 0 (.fresh 0 0 led) } } (.ref s.heap.objs.size) "set" := ⟨_, hS, rfl⟩
      have hli := F.called_set.init.lookup
      have hbi := F.called_set.init.bind (.ref s.heap.objs.size)
      repeat (any_goals (first | assumption | wp_step))
      refine codeAny_mono (codeAny_call_builtin (R := wants (fun r s₂ => r = .none ∧ ∃ h' tk, s₂ = { s with heap := h', toks := tk } ∧
          h'.SetOf (PySem.strKind prog w) s.heap.objs.size (fun k' => (metS (fun i => ⟨#[x.cps.getD i 0]⟩) x.cps.size).any (· == k')) (metS (fun i => ⟨#[x.cps.getD i 0]⟩) x.cps.size).length ∧
          (∀ b o, b < s.heap.objs.size → s.heap.get? b = some o → h'.get? b = some o)) E) F.called_set.init.plain F.entry_set_init (check_set_init_1 hT ?_)) fun r₂ s₂ hr₂ => ?_
      · have hsls := sub_str_set'
        have hslf := sub_str_frozen'
        have hne : (Value.type "str" == Value.type "dict") = false := by decide
        unfold Builtin.«set.__init__» noKeywords Builtin.Frozenset.updateFrom
        generalize hPI : pyIter = PI
        wp_walk
        subst hPI
        refine wpAny_pyIter_str fun o St W hst => ?_
        refine wpAny_bind (wpAny_runValue ?_)
        have hh3 : A.in1.in1.in1.handled = none := by simp [hh]
        have hSf : s.heap.objs.size ∉ [(s.heap.push { cls := .type "set", dict := none, data := .set #[] 0 (.fresh 0 0 led) }).objs.size] := by
          rw [Heap.size_push]
          simp only [List.mem_cons, List.not_mem_nil, or_false]
          exact Nat.ne_of_lt (Nat.lt_succ_self _)
        have hval : ∀ (i : Nat) (v : Value), SignAt x i v → ∃ t, v = .str ((fun i => (⟨#[x.cps.getD i 0]⟩ : Str)) i) t := fun i v ⟨c, u, hc, hv⟩ => by
          refine ⟨u, ?_⟩
          rw [hv]
          have e : x.cps.getD i 0 = c := by
            rw [Array.getD_eq_getD_getElem?, hc]
            rfl
          show _ = Value.str (⟨#[x.cps.getD i 0]⟩ : Str) u
          rw [e]
        refine set_loopS ((W _ hh3).toS) s.heap.objs.size hSf (fun i => ⟨#[x.cps.getD i 0]⟩) hval hb (x.cps.size - 0) 0 _ (by omega) (Nat.zero_le _) hst ?hS0 ?hR
        case hS0 =>
          have hget : ((s.heap.push { cls := .type "set", dict := none, data := .set #[] 0 (.fresh 0 0 led) }).push o).get? s.heap.objs.size
              = some { cls := .type "set", dict := none, data := .set #[] 0 (.fresh 0 0 led) } := Heap.get?_push_of_some _ hS
          exact PyProof.Rows.SetOf_congr ((PyProof.Rows.setObjOf_fresh (knd := PySem.strKind prog w) led).setOf hget (by unfold scanBound; omega)) (fun _ => rfl) rfl
        case hR =>
          intro s' hm hS'
          obtain ⟨h', g', d', tk', os'⟩ := s'
          have eg : g' = s.gens := hm.gens
          have ed : d' = s.drawn := hm.drawn
          have eo : os' = s.os := hm.os
          subst eg; subst ed; subst eo
          show wpAny _ _ _ _ _ _
          refine wpAny_pure ?_
          show wpAny _ _ (ret Value.none) _ _ _
          refine wpAny_pure ⟨rfl, h', tk', rfl, hS', fun b o hb e => ?_⟩
          have hb1 : b ≠ s.heap.objs.size := Nat.ne_of_lt hb
          have hb2 : b ≠ (s.heap.push { cls := .type "set", dict := none, data := .set #[] 0 (.fresh 0 0 led) }).objs.size := by
            rw [Heap.size_push]
            exact Nat.ne_of_lt (Nat.lt_succ_of_lt hb)
          exact hm.heap b o (by simp only [List.mem_cons, List.mem_singleton, List.not_mem_nil, or_false, not_or]; exact ⟨hb1, hb2⟩) (Heap.get?_push_of_some _ (Heap.get?_push_of_some _ e))
      · cases r₂ with
        | error e => exact hr₂
        | ok fl₂ =>
          cases fl₂ with
          | ret r =>
            obtain ⟨rfl, h', tk, rfl, hS', hk'⟩ := hr₂
            repeat (any_goals (first | assumption | wp_step))
            exact h _ _ hS' hk'
          | _ => exact hr₂.elim
    | _ => exact hr.elim
end
/-! ### len(set(text)) -/
theorem metS_nodup (val : Nat → Str) : ∀ i, ((metS val i).length = i ↔ ((List.range i).map val).Nodup)
  | 0 => by simp [metS]
  | i + 1 => by
    have mem : ∀ i k, k ∈ metS val i ↔ k ∈ (List.range i).map val := by
      intro i
      induction i with
      | zero => simp [metS]
      | succ i ih =>
        intro k
        have a : (metS val (i + 1)).any (· == k) = ((metS val i).any (· == k) || decide (k = val i)) := by rw [metS_succ, ddS_any]
        rw [List.range_succ, List.map_append, List.mem_append, ← ih k]
        constructor
        · intro m
          have z : (metS val (i + 1)).any (· == k) = true := List.any_eq_true.mpr ⟨k, m, beq_self_eq_true k⟩
          rw [a, Bool.or_eq_true] at z
          rcases z with z | z
          · obtain ⟨y, my, ey⟩ := List.any_eq_true.mp z
            rw [eq_of_beq ey] at my
            exact .inl my
          · exact .inr (by simp [of_decide_eq_true z])
        · intro m
          have z : (metS val (i + 1)).any (· == k) = true := by
            rw [a, Bool.or_eq_true]
            rcases m with m | m
            · exact .inl (List.any_eq_true.mpr ⟨k, m, beq_self_eq_true k⟩)
            · exact .inr (decide_eq_true (by simpa using m))
          obtain ⟨y, my, ey⟩ := List.any_eq_true.mp z
          rw [eq_of_beq ey] at my
          exact my
    have ih := metS_nodup val i
    have le := metS_le val i
    have lt : (metS val (i + 1)).length = if (metS val i).any (· == val i) then (metS val i).length else (metS val i).length + 1 := by rw [metS_succ, ddS_len]
    have anym : (metS val i).any (· == val i) = true ↔ val i ∈ (List.range i).map val := by
      rw [← mem i, List.any_eq_true]
      exact ⟨fun ⟨y, my, ey⟩ => eq_of_beq ey ▸ my, fun m => ⟨_, m, beq_self_eq_true _⟩⟩
    rw [List.range_succ, List.map_append, List.nodup_append, lt]
    constructor
    · intro e
      split at e
      · omega
      · rename_i na
        have nm : val i ∉ (List.range i).map val := fun m => na (anym.mpr m)
        refine ⟨ih.mp (by omega), by simp, fun a ha b hb eab => nm ?_⟩
        have hb : b = val i := by simpa using hb
        rw [← hb, ← eab]
        exact ha
    · rintro ⟨h1, _, h3⟩
      rw [if_neg fun z => h3 _ (anym.mp z) (val i) (by simp) rfl, ih.mpr h1]
/-- as many as the text has signs just if no sign stands there twice -/
theorem metS_text (z : List Nat) : (metS (fun i => ⟨#[(S z).cps.getD i 0]⟩) (S z).cps.size).length ≤ z.length ∧ ((metS (fun i => ⟨#[(S z).cps.getD i 0]⟩) (S z).cps.size).length = z.length ↔ z.Nodup) := by
  have e1 : (S z).cps.size = z.length := by simp
  rw [e1]
  refine ⟨metS_le _ _, (metS_nodup _ _).trans ?_⟩
  have e2 : (List.range z.length).map (fun i => (⟨#[(S z).cps.getD i 0]⟩ : Str)) = z.map fun c => S [c] := by
    refine List.ext_getElem (by simp) fun i h1 h2 => ?_
    have hi : i < z.length := by simpa using h1
    rw [List.getElem_map, List.getElem_map, List.getElem_range]
    show S [(S z).cps.getD i 0] = S [z[i]]
    rw [Array.getD_eq_getD_getElem?]
    simp [hi]
  rw [e2]
  constructor
  · intro h
    exact List.Pairwise.of_map (f := fun c => S [c]) (fun a b ne e => ne (by rw [e])) h
  · intro h
    exact List.pairwise_map.mpr (h.imp fun ne e => ne (by have := S_inj e; simpa using this))
def tLenSetS (ta : TE) : TE := fun σ H Q => ta σ H fun x H1 => ∃ z : List Nat, x = .str (S z) ∧ z.length ≤ 1000 ∧ ∀ n : Nat, n ≤ z.length → (n = z.length ↔ z.Nodup) → Q (.int (n : Int)) H1
theorem pe_lenSetS {X : Cx} {a : Expr} {ta : TE} {p p2 q pos : Pos} (hg : Gl X "len") (hm : X.mg "len" = none) (hg2 : Gl X "set") (hm2 : X.mg "set" = none) (ha : PE X a ta) (hc : X.calm = true := by rfl)
    (na : starEach [a] X.env = (false, eval a X.env) :: starEach [] X.env := by rfl) : PE X (.Call (.Name "len" p) [.Call (.Name "set" p2) [a] [] q] [] pos) (tLenSetS ta) := by
  refine ⟨fun pins s σ H Q I h => ?_⟩
  refine Call_ (ld_blt I hg hm boot_len ?_)
  refine PyProof.Rows.callWith_builtin1 (PyProof.Rows.args_cons ?_ rfl) rfl rfl
  refine Call_ (ld_blt I hg2 hm2 boot_set ?_)
  refine PyProof.Rows.callWith_type1 (PyProof.Rows.args_cons (thn (ha.run pins s σ H _ I h) fun v s1 ⟨x, H1, I1, r1, q1⟩ => PyProof.Rows.args_nil ?_) na) na rfl
  obtain ⟨z, rfl, few, q1⟩ := q1
  obtain ⟨t, rfl⟩ := r1
  have e1 : (S z).cps.size = z.length := by simp
  have m := metS_text z
  refine call_set_text (I1.ok.hd hc) (by rw [e1]; unfold scanBound; omega) fun h' tk hS hk => ?_
  refine PyProof.Rows.args_nil ?_
  generalize (metS (fun i => ⟨#[(S z).cps.getD i 0]⟩) (S z).cps.size) = L at hS m
  obtain ⟨o, es, ep, t, ho, hex, hd, _, _, _, hf, hn⟩ := hS
  have I2 : L2.Inv X pins σ H1 { s1 with heap := h', toks := tk } := I1.kept fun b o e => hk b o (Heap.lt_size e) e
  exact call_len_set ho hex hd hf (by rw [hn] <;> omega) ⟨.int L.length, H1, I2.tok _, ⟨_, by rw [hn]⟩, q1 _ m.1 m.2⟩
end Pm
namespace Pm
open PySem PySem.Spec PyProof.Rows L2 SX
/-! ### sorted(text) -/
/-- the signs, each a text of its own -/
def ones (z : List Nat) : List Str := z.map fun c => S [c]
theorem strs_signs : ∀ {us : List Value} {z : List Nat}, us.length = z.length → (∀ (j : Nat) (v : Value), us[j]? = some v → ∃ (c : Nat) (t : Tok), z[j]? = some c ∧ v = Value.str (S [c]) t) → StrsAre us (ones z)
  | [], [], _, _ => .nil
  | u :: us, k :: ks, hl, h => by
    obtain ⟨x, t, e1, e2⟩ := h 0 u rfl
    have e1' : k = x := Option.some.inj e1
    subst e1'
    subst e2
    refine .cons _ _ (strs_signs (by simpa using hl) fun j v e => ?_)
    obtain ⟨x, t, a, b⟩ := h (j + 1) v (by simpa using e)
    exact ⟨x, t, by simpa using a, b⟩
  | [], _ :: _, hl, _ => by simp at hl
  | _ :: _, [], hl, _ => by simp at hl
/-- sorted(text): its signs in a new list, in order -/
def rSortedTx : List V → Hp → VK → Prop := fun vs H Q => ∃ z : List Nat, vs = [.str (S z)] ∧ z.length ≤ 1000 ∧ ∀ (ys : List Nat) (p : Addr), ys.Perm z → ys.Pairwise (· ≤ ·) → H p = none → Q (.ref p) (upd H p (.lst ((ones ys).map V.str)))
theorem ones_perm {z : List Nat} : ∀ {l : List Str}, l.Perm (ones z) → ∃ ys : List Nat, ys.Perm z ∧ l = ones ys := fun {l} h => by
  refine ⟨l.map fun s => s.cps.toList.headD 0, ?_, ?_⟩
  · have q := h.map fun s => s.cps.toList.headD 0
    have e : (ones z).map (fun s : Str => s.cps.toList.headD 0) = z := by
      unfold ones
      rw [List.map_map]
      have : ((fun s : Str => s.cps.toList.headD 0) ∘ fun c => S [c]) = id := by
        funext c
        simp
      rw [this, List.map_id]
    rw [e] at q
    exact q
  · unfold ones
    rw [List.map_map]
    refine (List.map_id l).symm.trans (List.map_congr_left fun s hs => ?_)
    obtain ⟨c, _, rfl⟩ := List.mem_map.mp (h.mem_iff.mp hs)
    simp
theorem ones_sorted : ∀ {ys : List Nat}, sortedS (ones ys) = true → ys.Pairwise (· ≤ ·) := by
  have step : ∀ (p : Nat) (l : List Nat), risingS (S [p]) (ones l) = true → (p :: l).Pairwise (· ≤ ·) := by
    intro p l
    induction l generalizing p with
    | nil => intro _; exact List.pairwise_singleton _ _
    | cons x r ih =>
      intro h
      have h : (!ltCps (S [x]).cps.toList (S [p]).cps.toList && risingS (S [x]) (ones r)) = true := h
      rw [Bool.and_eq_true] at h
      have tl := ih x h.2
      have le : p ≤ x := by
        have z := h.1
        rw [ltCps_eq] at z
        by_cases y : x < p
        · rw [decide_eq_true (show (S [x]).cps.toList < (S [p]).cps.toList from List.Lex.rel y)] at z
          cases z
        · omega
      refine List.pairwise_cons.mpr ⟨fun y hy => ?_, tl⟩
      rcases List.mem_cons.mp hy with e | m
      · rw [e]
        exact le
      · exact Nat.le_trans le ((List.pairwise_cons.mp tl).1 y m)
  intro ys h
  cases ys with
  | nil => exact List.Pairwise.nil
  | cons x r => exact step x r h
theorem cr_sortedTx {X : Cx} (hcalm : X.calm = true) : CallR X (.builtin "sorted") rSortedTx := by
  intro pins s σ H xs us Q I r q
  obtain ⟨z, ex, few, q⟩ := q
  subst ex
  obtain ⟨u, eu, rx⟩ := vals1 r
  subst eu
  obtain ⟨t, rfl⟩ := rx
  have e1 : (S z).cps.size = z.length := by simp
  refine Calls.call_function_entry PyProof.Rows.kind_sorted PyProof.Rows.plain_sorted PyProof.Rows.entry_sorted (PyProof.Rows.args_sorted1 _) ?_
  unfold Builtin.«sorted»
  refine wpAny_bind (m := checkCount "sorted" 1 1 _) (wpAny_pure ?_)
  refine wpAny_bind (wpAny_collect_str (A := X.A.in1) (I.ok.hd hcalm) (S z) t (fun s1 acc hk hg hd ho hacc => ?_) (by rw [e1, sizeLine_eq]; omega))
  have hal : acc.toList.length = z.length := by rw [Array.length_toList, hacc.1, e1]
  have hS : StrsAre acc.toList (ones z) := strs_signs hal fun j v e => by
    obtain ⟨c, u, e2, e3⟩ := hacc.2 j v (by rw [← Array.getElem?_toList]; exact e)
    refine ⟨c, u, ?_, e3⟩
    rw [← Array.getElem?_toList] at e2
    exact e2
  obtain ⟨h', g', d', tk', os'⟩ := s1
  have hg : g' = s.gens := hg
  have hd : d' = s.drawn := hd
  have ho : os' = s.os := ho
  subst hg hd ho
  have I1 : L2.Inv X pins σ H { s with heap := h', toks := tk' } := I.kept hk
  refine wpAny_bind (wpAny_newList ?_ (by rw [hal, sizeLine_eq]; omega))
  have hoL : (h'.push (seqObj "list" acc.toList.toArray 0)).get? h'.objs.size = some (seqObj "list" acc.toList.toArray 0) := Heap.get?_push_size _ rfl
  show wpAny _ _ _ _ _ { s with heap := h'.push (seqObj "list" acc.toList.toArray 0), toks := tk' }
  refine wpAny_bind (wpAny_holding (wpAny_call_entry PyProof.Rows.slot_list_sort ⟨_, hoL, rfl⟩ PyProof.Rows.entry_list_sort
    (list_sort_treeKAny strKind_oneLt (s := { s with heap := h'.push (seqObj "list" acc.toList.toArray 0), toks := tk' }) hoL hS.keysOf (fun v₁ v₂ rest e => keyKind_strs (by rw [← e]; exact hS)) (by rw [hal, sizeLine_eq]; omega) fun st' hp hs => ⟨_, rfl, ?_⟩)
    (PyProof.Rows.args_list_sort _)))
  obtain ⟨ss, g1, g2, g3⟩ := sorted_out_str hS hp hs
  obtain ⟨ys, p1, rfl⟩ := ones_perm g2
  obtain ⟨e', he'⟩ := PyProof.Rows.sortedHeap_at (vs := acc.toList) (out := (arrOf st').map (·.2)) hoL
  have hlen : ((ones ys).map V.str).length ≤ sizeLine := by
    rw [List.length_map, g2.length_eq]
    show (ones z).length ≤ _
    rw [show (ones z).length = z.length from List.length_map _]
    exact small_line few
  refine wpAny_pure ⟨_, rfl, .ref h'.objs.size, upd H h'.objs.size (.lst ((ones ys).map V.str)), I1.laid (t' := tk') (fun b u e => ?_) (Nat.le_refl _)
    (show ObjOk X.prog X.w _ _ _ (.lst ((ones ys).map V.str)) from ⟨hlen, ((arrOf st').map (·.2)).toList, e', vals_of_strs g1, by rw [Array.toArray_toList]; exact he'⟩), rfl, q ys _ p1 (ones_sorted g3) (I1.hok.fresh (Nat.le_refl _))⟩
  have hb : b < h'.objs.size := Heap.lt_size e
  rw [PyProof.Rows.sortedHeap_old (Nat.ne_of_lt hb) (by rw [size_push']; exact Nat.lt_succ_of_lt hb)]
  exact Heap.get?_push_of_some _ e
end Pm
namespace Pm
open PySem PySem.Spec PyProof.Rows L2 SX
/-! ### which rows are good -/
def stoneB : List Nat → Bool
  | [c] => decide (Let c)
  | _ => false
def goodB : List Nat → Bool
  | [c] => decide (Good c)
  | _ => false
def okB (w : Int) (z : List Nat) : Bool := (decide (1 ≤ z.length) && decide (z.length ≤ 8) && decide ((z.length : Int) = w)) && z.all fun c => decide (Good c)
def lineOf : Rows → Int
  | [] => 1
  | r :: R => match ((r :: R).take 8).findIdx? (fun z => !okB (r.length : Int) z) with
    | some i => (i : Int) + 1
    | none => if 8 < (r :: R).length then 9 else 0
structure PTxt (K : PySem.W.Frag) (mg : Str → Option Value) (C : Addr) : Prop where
  gC : mg "Picture" = some (.ref C)
  cr : ∃ mc, ClX.CRead K C mc ∧ (∃ u, ClX.CVal K C mc "HOLE" (.str ".") u) ∧ ∃ u, ClX.CVal K C mc "EDGE" (.str "#") u
  stones : ∃ u, mg "STONES" = some u ∧ RelV (.str alphaS) u
  most : ∃ u, mg "MOST" = some u ∧ RelV (.int 8) u
  all : mg "all" = none
  enum : mg "enumerate" = none
theorem len_one {z : List Nat} (h : z.length = 1) : ∃ c, z = [c] := match z, h with | [c], _ => ⟨c, rfl⟩
theorem stoneB_ne {z : List Nat} (h : z.length ≠ 1) : stoneB z = false := by
  match z, h with
  | [], _ => rfl
  | [_], h => exact absurd rfl h
  | _ :: _ :: _, _ => rfl
theorem goodB_ne {z : List Nat} (h : z.length ≠ 1) : goodB z = false := by
  match z, h with
  | [], _ => rfl
  | [_], h => exact absurd rfl h
  | _ :: _ :: _, _ => rfl
section
variable {P : Program} {w : World} {K : PySem.W.Frag} {mg : Str → Option Value} {base : Heap} {C : Addr}
def spStone : Sp := fun vs H Q _ => ∃ z, vs = [.str (S z)] ∧ z.length ≤ 1000 ∧ Q (.bl (stoneB z)) H
theorem scStone : FnScope ["sign"] ["sign"] (defScope gIsStone) := ⟨rfl, rfl, rfl, by decide +kernel, rfl, by decide +kernel, by decide +kernel⟩
theorem ok_stone {f : Addr} {fd : FuncData} (F : Fun K "is_stone" "is_stone" gIsStone f fd) (L : LTxt K mg) (T : PTxt K mg C) : FnOk P w K mg base CX0 1 f fd ["sign"] spStone := by
  refine F.ok scStone (fun vs H Q E h => ?_) (fun cdv A outer s H vs Q E hr h => ?_)
  · obtain ⟨z, rfl, _⟩ := h
    rfl
  · obtain ⟨z, rfl, few, k⟩ := h
    obtain ⟨u, hu, ru⟩ := T.stones
    refine ⟨_, pss_one (ps_ret (pe_and (pe_cmpR op_eq (pe_callB call_len_str (by rfl) L.len PySem.boot_len (pa_cons (pv 0) pa_nil)) pe_int (nomark _)) (pe_one (pe_cmpR op_in_sign (pv 0) (pe_glob (by rfl) hu ru) (by rfl))))), ?_⟩
    refine ⟨_, rfl, _, rfl, by rw [len_S]; exact small_line few, rfl, _, rfl, ite2 (fun e => ?_) (fun e => ?_)⟩
    · have e1 : z.length = 1 := by
        have := of_decide_eq_true e
        simp only [V.int.injEq] at this
        rw [len_S] at this
        omega
      obtain ⟨c, rfl⟩ := len_one e1
      refine ⟨_, rfl, c, _, rfl, rfl, ?_⟩
      have y : decide (c ∈ alphaS.cps.toList) = stoneB [c] := decide_eq_decide.mpr (alpha_mem c)
      rw [y]
      exact k
    · have e1 : z.length ≠ 1 := fun y => e (decide_eq_true (by rw [len_S, y]; rfl))
      rw [stoneB_ne e1] at k
      exact k
def spSoh : Sp := fun vs H Q _ => ∃ z, vs = [.str (S z)] ∧ z.length ≤ 1000 ∧ Q (.bl (goodB z)) H
theorem scSoh : FnScope ["sign"] ["sign"] (defScope gIsStoneOrHole) := ⟨rfl, rfl, rfl, by decide +kernel, rfl, by decide +kernel, by decide +kernel⟩
theorem ok_soh {f g : Addr} {fd gd : FuncData} (F : Fun K "is_stone_or_hole" "is_stone_or_hole" gIsStoneOrHole f fd) (G : Cl P w K mg base CX0 1 "is_stone" ["sign"] spStone g gd) (T : PTxt K mg C) : FnOk P w K mg base CX0 2 f fd ["sign"] spSoh := by
  refine F.ok scSoh (fun vs H Q E h => ?_) (fun cdv A outer s H vs Q E hr h => ?_)
  · obtain ⟨z, rfl, _⟩ := h
    rfl
  · obtain ⟨z, rfl, few, k⟩ := h
    obtain ⟨mc, cr, ⟨u, hu⟩, _⟩ := T.cr
    refine ⟨_, pss_one (ps_ret (pe_or (pe_cmpR op_eq (pv 0) (ClX.pe_cval (pe_glob (v := .ref C) (by rfl) T.gC rfl)) (nomark _)) (pe_one (pe_call G.ok hr (by rfl) G.gl G.kp G.bd .nil pass0 (pa_cons (pv 0) pa_nil))))), ?_⟩
    refine ⟨_, rfl, C, mc, _, u, rfl, cr, hu, rfl, _, rfl, ite2 (fun e => ?_) (fun e => ⟨_, rfl, z, rfl, few, ?_⟩)⟩
    · have e1 : z = [46] := by
        have := of_decide_eq_true e
        simp only [V.str.injEq] at this
        rw [dot_S] at this
        exact S_inj this
      subst e1
      exact k
    · have e1 : z ≠ [46] := fun y => e (decide_eq_true (by rw [y, dot_S]))
      have e2 : stoneB z = goodB z := by
        by_cases l1 : z.length = 1
        · obtain ⟨c, rfl⟩ := len_one l1
          refine decide_eq_decide.mpr ⟨.inr, fun y => ?_⟩
          rcases y with y | y
          · exact absurd (by rw [y]) e1
          · exact y
        · rw [stoneB_ne l1, goodB_ne l1]
      rw [e2]
      exact k
/-! ### a bad row -/
def spBad : Sp := fun vs H Q _ => ∃ z w, vs = [.str (S z), .int w] ∧ z.length ≤ 1000 ∧ ∀ H', Same H H' → Q (.bl (!okB w z)) H'
abbrev nBad : List Str := ["row", "width", "sign"]
theorem scBad : FnScope nBad ["row", "width"] (defScope gIsBadRow) := ⟨rfl, rfl, rfl, by decide +kernel, rfl, by decide +kernel, by decide +kernel⟩
theorem all_good (z : List Nat) : (z.map fun c => goodB [c]).all id = z.all fun c => decide (Good c) := by
  rw [List.all_map]
  rfl
theorem ok_bad {f g : Addr} {fd gd : FuncData} (F : Fun K "_is_bad_row" "_is_bad_row" gIsBadRow f fd) (G : Cl P w K mg base CX0 2 "is_stone_or_hole" ["sign"] spSoh g gd) (L : LTxt K mg) (T : PTxt K mg C) : FnOk P w K mg base CX0 3 f fd ["row", "width"] spBad := by
  refine F.ok scBad (fun vs H Q E h => ?_) (fun cdv A outer s H vs Q E hr h => ?_)
  · obtain ⟨z, w, rfl, _⟩ := h
    rfl
  · obtain ⟨z, w, rfl, few, k⟩ := h
    obtain ⟨um, hm, rm⟩ := T.most
    refine ⟨_, pss_cons (ps_if (PW.pt (pw_or (pt_not (pt_chain op_le op_le pe_int (pe_callB call_len_str (by rfl) L.len PySem.boot_len (pa_cons (pv 0) pa_nil)) (pe_glob (by rfl) hm rm))) (pw_or1 (pt_cmpR op_ne (pe_callB call_len_str (by rfl) L.len PySem.boot_len (pa_cons (pv 0) pa_nil)) (pv 1) (nomark _))))) (pss_one (ps_ret pe_bl)) pss_nil)
      (pss_one (ps_ret (pe_not (pe_callB (cr_all rfl) (by rfl) T.all (by decide +kernel) (pa_cons (pe_lc (own := [("sign", 2)]) (g := gName 2) (tt := tYes) rfl scBad.nd (pi_str (pv 0)) (blkOk_by (N := nBad) (sc := defScope gIsBadRow) (by decide +kernel)) (fun _ _ _ _ _ => pg_name (i := 2) scBad.nd rfl (.inl rfl)) (fun _ _ _ _ _ => pts_nil)
        (fun _ _ _ _ _ => pe_call G.ok hr (by rfl) G.gl G.kp G.bd .nil pass0 (pa_cons (pv 2) pa_nil))) pa_nil))))), ?_⟩
    have line : (S z).length ≤ sizeLine := by rw [len_S]; exact small_line few
    have body : okB w z = (z.all fun c => decide (Good c)) → ∀ H1, Same H H1 → Q (.bl (!(z.all fun c => decide (Good c)))) H1 := fun e H1 s1 => by
      rw [← e]
      exact k H1 s1
    -- what stands behind the test, where it does not hold
    have go : (1 ≤ z.length ∧ z.length ≤ 8 ∧ (z.length : Int) = w) → okB w z = (z.all fun c => decide (Good c)) := fun ⟨a, b, c⟩ => by
      unfold okB
      rw [decide_eq_true a, decide_eq_true b, decide_eq_true c]
      rfl
    have no : ¬ (1 ≤ z.length ∧ z.length ≤ 8 ∧ (z.length : Int) = w) → okB w z = false := fun y => by
      unfold okB
      by_cases a : 1 ≤ z.length
      · by_cases b : z.length ≤ 8
        · by_cases c : (z.length : Int) = w
          · exact absurd ⟨a, b, c⟩ y
          · rw [decide_eq_false c, Bool.and_false]
            rfl
        · rw [decide_eq_false b, Bool.and_false]
          rfl
      · rw [decide_eq_false a]
        rfl
    have yes : ¬ (1 ≤ z.length ∧ z.length ≤ 8 ∧ (z.length : Int) = w) → Q (.bl true) H := fun y => by
      have q := k H (Same.refl H)
      rw [no y] at q
      exact q
    refine ⟨_, rfl, _, rfl, line, _, _, rfl, rfl, _, rfl, ite2 (fun a => ?_) (fun a => ?_)⟩
    · have a1 : 1 ≤ z.length := by
        have y := of_decide_eq_true a
        rw [len_S] at y
        omega
      refine ⟨_, _, rfl, rfl, _, rfl, ?_⟩
      by_cases b : z.length ≤ 8
      · refine iteFe (by rw [len_S]; simp; omega) ⟨_, rfl, _, rfl, line, _, rfl, rfl, _, rfl, ?_⟩
        by_cases c : (z.length : Int) = w
        · refine iteFe (by rw [len_S]; simp [c]) ⟨_, rfl, _, rfl, fun D nD => lc_it walk_str (fun i G => Same H G ∧ G D = some (.lst (((z.take i).map fun c => goodB [c]).map V.bl))) ⟨same_upd nD, upd_same⟩ (fun _ _ _ _ => trivial) ?_ ?_⟩
          · rintro i x G G' hi ⟨sG, hD⟩ ⟨rfl, d, gd, rfl⟩
            have gd2 : z[i]? = some d := by
              have y : z.toArray[i]? = some d := gd
              rwa [List.getElem?_toArray] at y
            refine ⟨rfl, tyes (iteT ⟨_, rfl, [d], rfl, (show 1 ≤ 1000 by decide), _, hD, ?_, ?_, ?_⟩)⟩
            · rw [List.length_map, List.length_map, List.length_take]
              exact small1000 (by omega)
            · exact fun b o e => by
                rw [upd_ne (ne_of_none e nD)]
                exact sG b o e
            · rw [upd_same, List.take_add_one, gd2]
              simp
          · rintro G ⟨sG, hD⟩
            have e1 : (S z).cps.size = z.length := by simp
            rw [e1, List.take_of_length_le (Nat.le_refl _)] at hD
            refine ⟨D, _, rfl, SqL.of hD, _, rfl, ?_⟩
            rw [all_good]
            exact body (go ⟨a1, b, c⟩) G sG
        · exact iteTe (by rw [len_S]; simp [c]) (yes fun y => c y.2.2)
      · exact iteTe (by rw [len_S]; simp; omega) (iteT (yes fun y => b y.2.1))
    · refine ⟨_, rfl, iteT (iteT (yes fun y => a (decide_eq_true ?_)))⟩
      rw [len_S]
      have := y.1
      omega
/-! ### the first bad line -/
def spLine : Sp := fun vs H Q _ => ∃ a R, vs = [.ref a] ∧ H a = some (.lst (rowsV R)) ∧ R.length ≤ 1000 ∧ (∀ r ∈ R, r.length ≤ 1000) ∧ ∀ H', Same H H' → Q (.int (lineOf R)) H'
theorem scLine : FnScope ["rows", "line", "row"] ["rows"] (defScope gBadLine) := ⟨rfl, rfl, rfl, by decide +kernel, rfl, by decide +kernel, by decide +kernel⟩
theorem walkS {K : PySem.W.Frag} {a : Addr} {xs : List V} : Walk (ItS K a) xs.length (fun H => SqL K H a xs) (fun i H v H' => ∃ T x, v = .ref T ∧ H T = none ∧ H' = upd H T (.tup [.int ((i : Int) + 1), x]) ∧ xs[i]? = some x) :=
  ⟨fun i H hi h => ⟨xs, xs[i], h, List.getElem?_eq_getElem hi⟩, fun H h => ⟨xs, h, rfl⟩, fun i H v H' _ h ⟨T, x, a, b, c, d⟩ => ⟨T, x, a, b, c, d xs h⟩⟩
theorem row0 (r : List Nat) (R : Rows) : atI (rowsV (r :: R)) 0 = some (.str (S r)) := atI_nat (j := 0) (by rfl)
theorem rowsV_at {R : Rows} {i : Nat} {x : V} (h : (rowsV R)[i]? = some x) : ∃ r, R[i]? = some r ∧ x = .str (S r) := by
  unfold rowsV at h
  rw [List.getElem?_map] at h
  cases e : R[i]? with
  | none =>
    rw [e] at h
    cases h
  | some r =>
    rw [e] at h
    cases h
    exact ⟨r, rfl, rfl⟩
theorem lineOf_cons {r : List Nat} {R : Rows} : lineOf (r :: R) = match ((r :: R).take 8).findIdx? (fun z => !okB (r.length : Int) z) with
    | some i => (i : Int) + 1
    | none => if 8 < (r :: R).length then 9 else 0 := rfl
theorem find_some {p : List Nat → Bool} : ∀ {l : Rows} {i : Nat} {z : List Nat}, l[i]? = some z → p z = true → (∀ j y, j < i → l[j]? = some y → p y = false) → l.findIdx? p = some i
  | [], i, z, h, _, _ => by simp at h
  | y :: l, 0, z, h, hz, _ => by
    have e : y = z := by simpa using h
    subst e
    rw [List.findIdx?_cons, hz]
    rfl
  | y :: l, i + 1, z, h, hz, hp => by
    have e := find_some (l := l) (i := i) (z := z) (by simpa using h) hz fun j x hj hx => hp (j + 1) x (by omega) (by simpa using hx)
    rw [List.findIdx?_cons, hp 0 y (by omega) rfl, e]
    rfl
theorem find_none {p : List Nat → Bool} {l : Rows} (h : ∀ (j : Nat) (y : List Nat), l[j]? = some y → p y = false) : l.findIdx? p = none := by
  rw [List.findIdx?_eq_none_iff]
  intro x hx
  obtain ⟨j, hj⟩ := List.mem_iff_getElem?.mp hx
  exact h j x hj
theorem ok_line {f g : Addr} {fd gd : FuncData} (F : Fun K "_bad_line" "_bad_line" gBadLine f fd) (G : Cl P w K mg base CX0 3 "is_bad_row_pictures" ["row", "width"] spBad g gd) (L : LTxt K mg) (T : PTxt K mg C) : FnOk P w K mg base CX0 4 f fd ["rows"] spLine := by
  refine F.ok scLine (fun vs H Q E h => ?_) (fun cdv A outer s H vs Q E hr h => ?_)
  · obtain ⟨a, R, rfl, _⟩ := h
    rfl
  · obtain ⟨a, R, rfl, ha, few, each, k⟩ := h
    obtain ⟨um, hm, rm⟩ := T.most
    refine ⟨_, pss_cons (ps_if (pt_not (pt_truth (pv 0) (fun _ => rfl))) (pss_one (ps_ret pe_int)) pss_nil)
      (pss_cons (ps_for PassesOwn.never rfl (pi_enumS (by rfl) T.enum (pa_cons (pe_slice sl_list (pv 0) po_none (po_some (pe_glob (by rfl) hm rm))) pa_nil) (pk_cons pe_int pk_nil)) (pg_tup rfl (pgs_cons (pg_name (i := 1) scLine.nd rfl (.inl rfl)) (pgs_cons (pg_name (i := 2) scLine.nd rfl (.inl rfl)) pgs_nil)))
        (pss_one (ps_if (pt_val (pe_call G.ok hr (by rfl) G.gl G.kp G.bd .nil pass0 (pa_cons (pv 2) (pa_cons (pe_callB call_len_str (by rfl) L.len PySem.boot_len (pa_cons (pe_ix ix_list (pv 0) pe_int (fun _ _ => rfl)) pa_nil)) pa_nil)))) (pss_one (ps_ret (pv 1))) pss_nil)))
      (pss_one (ps_ret (pe_ifExp (pt_cmpR op_gt (pe_callB call_len_seq (by rfl) L.len PySem.boot_len (pa_cons (pv 0) pa_nil)) (pe_glob (by rfl) hm rm) (nomark _)) (pe_op op_add (pe_glob (by rfl) hm rm) pe_int) pe_int)))), ?_⟩
    match R, ha, few, each, k with
    | [], ha, few, each, k =>
      exact ⟨_, rfl, _, .inl ⟨_, SqL.of ha, rfl⟩, iteT (k H (Same.refl H))⟩
    | r :: R, ha, few, each, k =>
      refine ⟨_, rfl, _, .inl ⟨_, SqL.of ha, rfl⟩, iteF ?_⟩
      refine ⟨_, rfl, _, rfl, a, _, rfl, SqL.of ha, fun p np => ?_⟩
      have e8 : cutV (rowsV (r :: R)) none (some 8) = rowsV ((r :: R).take 8) := by
        rw [show (some 8 : Option Int) = some ((8 : Nat) : Int) from rfl, cut_to]
        exact (List.map_take).symm
      rw [e8]
      have s1 := same_upd (o := .lst (rowsV ((r :: R).take 8))) np
      have hp : (upd H p (.lst (rowsV ((r :: R).take 8)))) p = some (.lst (rowsV ((r :: R).take 8))) := upd_same
      generalize upd H p (.lst (rowsV ((r :: R).take 8))) = H1 at s1 hp
      refine ⟨p, _, rfl, rfl, SqL.of hp, for_it walkS (fun i σ G => ∃ y z, σ = [some (.ref a), y, z] ∧ Same H1 G ∧ ∀ j x, j < i → ((r :: R).take 8)[j]? = some x → okB (r.length : Int) x = true) ⟨_, _, rfl, Same.refl _, fun j x hj => absurd hj (by omega)⟩ (fun i σ G _ ⟨_, _, _, sG, _⟩ => SqL.of (sG _ _ hp)) ?_ ?_⟩
      · rintro i x σ G G' hi ⟨y, z, rfl, sG, ok⟩ ⟨T1, x1, rfl, nT, rfl, gx⟩
        obtain ⟨q, gq, rfl⟩ := rowsV_at gx
        have s2 := sG.trans (same_upd (o := .tup [.int ((i : Int) + 1), .str (S q)]) nT)
        refine ⟨T1, _, rfl, SqT.of upd_same, rfl, _, _, rfl, _, _, rfl, rfl, ?_⟩
        have mq : q ∈ r :: R := List.mem_of_mem_take (List.mem_of_getElem? gq)
        refine ⟨_, rfl, _, rfl, a, _, 0, _, rfl, rfl, SqL.of (s2 _ _ (s1 _ _ ha)), row0 r R, _, rfl, by rw [len_S]; exact small_line (each r List.mem_cons_self), q, _, rfl, each q mq, fun G2 sg => ⟨_, rfl, ?_⟩⟩
        rw [len_S]
        by_cases b : okB (r.length : Int) q = true
        · rw [b]
          refine iteF ⟨_, _, rfl, s2.trans sg, fun j x hj hx => ?_⟩
          rcases Nat.lt_succ_iff_lt_or_eq.mp hj with z | z
          · exact ok j x z hx
          · rw [z, gq] at hx
            cases hx
            exact b
        · have b : okB (r.length : Int) q = false := by simpa using b
          rw [b]
          refine iteT ⟨_, rfl, ?_⟩
          have e : lineOf (r :: R) = (i : Int) + 1 := by
            rw [lineOf_cons, find_some gq (by rw [b]; rfl) fun j y hj hy => by rw [ok j y hj hy]; rfl]
          have q2 := k G2 (s1.trans (s2.trans sg))
          rw [e] at q2
          exact q2
      · rintro σ G ⟨y, z, rfl, sG, ok⟩
        have e : lineOf (r :: R) = if 8 < (r :: R).length then 9 else 0 := by
          rw [lineOf_cons, find_none fun j y hy => by
            rw [ok j y ?_ hy]
            · rfl
            · rw [rowsV_len]
              rcases List.getElem?_eq_some_iff.mp hy with ⟨h1, _⟩
              exact h1]
        have q2 := k G (s1.trans sG)
        rw [e] at q2
        refine ⟨_, rfl, a, _, rfl, .inl (SqL.of (sG _ _ (s1 _ _ ha))), _, _, rfl, rfl, _, rfl, ?_⟩
        rw [rowsV_len]
        by_cases b : 8 < (r :: R).length
        · rw [if_pos b] at q2
          exact iteTe (decide_eq_true (by omega)) ⟨_, _, rfl, rfl, q2⟩
        · rw [if_neg b] at q2
          exact iteFe (decide_eq_false (by omega)) q2
end
end Pm
namespace Pm
open PySem PySem.Spec PyProof.Rows L2 SX
/-! ### errors that are raised with fields of their own -/
/-- an error class at C that may be raised: its __init__ at f keeps sp -/
structure EMk (P : Program) (w : World) (K : PySem.W.Frag) (mg : Str → Option Value) (base : Heap) (C : Addr) (name : Str) (ps : List Str) (sp : Sp) (f : Addr) (fd : FuncData) : Prop where
  T : OexC K C
  at_ : PySem.W.findIn K (.ref C) "__init__" = some (some (.ref f))
  ty : PySem.W.typeIn K (.ref f) = some (.type "function")
  ok : FnOk P w K mg base CX0 1 f fd ps sp
  bd : Binds K fd ps []
  gl : mg name = some (.ref C)
def spE1 (C : Addr) (n : Str) : Sp := fun vs H Q _ => ∃ a v, vs = [.ref a, v] ∧ H a = some (exo a C none) ∧ ∀ H' d, H' a = some (exo a C (some d)) → H' d = some (exd d [(n, v)]) → H d = none → d ≠ a → SameBut a H H' → Q .non H'
def spE2 (C : Addr) : Sp := fun vs H Q _ => ∃ a v u, vs = [.ref a, v, u] ∧ H a = some (exo a C none) ∧ ∀ H' d, H' a = some (exo a C (some d)) → H' d = some (exd d [("y", u), ("x", v)]) → H d = none → d ≠ a → SameBut a H H' → Q .non H'
/-- what was there stands when the error is on its way -/
theorem on_way {H H2 : Hp} {a d : Addr} {o : HO} {fs : List (Str × V)} (n : H a = none) (nd : (upd H a o) d = none) (ne : d ≠ a) (s : SameBut a (upd H a o) H2) : Same H (upd (del H2 a) d (.xd fs)) := fun b u e => by
  have nba : b ≠ a := ne_of_none e n
  have nbd : b ≠ d := fun z => by
    rw [z] at e
    rw [upd_ne ne, e] at nd
    cases nd
  rw [upd_ne nbd, del_ne nba]
  exact s b u nba (by rw [upd_ne nba]; exact e)
theorem passF {X : Cx} : Passes (L2.CX X.prog X.w) X E0 := fun _ _ _ _ _ _ _ c => by
  obtain ⟨_, _, _, _, _, _, _, _, _, _, _, _, z⟩ := c
  exact z.elim
/-- an error of the class at C with the fields fs is let out -/
def Lets (E : XK) (C : Addr) (fs : List (Str × V)) (H : Hp) : Prop := ∀ d H', H d = none → H' d = some (.xd fs) → Same H H' → E (.ref C) (some d) H'
/-! ### the error that a suite holds -/
structure ErrC (K : PySem.W.Frag) (D : Addr) : Prop where
  cl : (PySem.W.clsIn K D).isSome = true
  hg : PySem.W.findIn K (.ref D) "__getattribute__" = some (some (.builtin "BaseException.__getattribute__"))
  hk : PySem.W.findIn K (.ref D) "__getattr__" = some none
  hs : PySem.W.subIn K (.ref D) (.type "BaseException") = some true
  ha : PySem.W.findIn K (.ref D) "__class__" = some (some (.builtin "object.__class__"))
  hn : PySem.W.specialIn K (.builtin "object.__class__") "__get__" = some (some (.builtin "getset_descriptor.__get__"))
  ht : PySem.W.takesIn K (.builtin "object.__class__") = some true
  hm : PySem.W.mroIn K D (.type "object") = some true
  hd : PySem.W.hasDictIn K D = true
theorem ErrC.xf {K : PySem.W.Frag} {D : Addr} (C : ErrC K D) : XfC K D := ⟨C.hg, C.hk, C.hs, C.hd⟩
/-- isinstance(e, c), e the error that the suite holds at a, its class cls, its dict d -/
def rIsX (K : PySem.W.Frag) (a : Addr) (cls : Value) (d : Option Addr) : List V → Hp → VK → Prop := fun xs H Q => ∃ (D dd : Addr) (fs : List (Str × V)) (c : V) (cv : Value) (b : Bool),
  xs = [.ref a, c] ∧ cls = .ref D ∧ d = some dd ∧ ErrC K D ∧ H dd = some (.xd fs) ∧ (∀ u, RelV c u → u = cv) ∧ PySem.W.kitOne K (.ref D) cv = some b ∧ Q (.bl b) H
theorem call_isX {X : Cx} {a : Addr} {cls : Value} {d : Option Addr} {oe : Obj} {pn : List (Addr × Obj)} (hz : Zc cls d oe) (hf : ∃ vs, oe.data = .fields vs) : CallR (X.suite a ((a, oe) :: pn)) (.builtin "isinstance") (rIsX X.K a cls d) := by
  intro pins s σ H xs us Q I r h
  obtain ⟨D, dd, fs, c, cv, b, rfl, rfl, rfl, C, hdd, hcv, e, q⟩ := h
  match r with
  | .cons rx (.cons rt .nil) =>
    cases rx
    cases hcv _ rt
    obtain ⟨at_, _⟩ := I.pin (a, oe) (List.mem_append_left _ List.mem_cons_self)
    obtain ⟨vs, hd⟩ := hf
    have own : ObjOk X.prog X.w H s.heap dd (.xd fs) := I.hok dd _ hdd
    obtain ⟨mA, hns, _⟩ := own
    obtain ⟨od, ho, _⟩ := lookIn_ns hns
    have J : PySem.W.InstAt s.heap a oe D (some od) := ⟨at_, hz.1, by unfold PySem.W.notCls; rw [hd] <;> rfl, by rw [hz.2]; exact ho⟩
    exact PySem.W.kia_one (PySem.W.kitx_exc C.cl C.hg C.hk C.hs C.ha C.hn C.ht C.hm) I.kIn J e (fun z => nomatch z) fun tk => ⟨.bl b, H, I.kept (t' := tk) fun _ _ z => z, rfl, q⟩
/-- e.f of that error, whatever its class -/
def tErrX (K : PySem.W.Frag) (a : Addr) (cls : Value) (d : Option Addr) (f : Str) (te : TE) : TE := fun σ H Q => te σ H fun x H1 => ∃ (D dd : Addr) (fs : List (Str × V)) (v : V), x = .ref a ∧ cls = .ref D ∧ d = some dd ∧ ErrC K D ∧ PySem.W.findIn K (.ref D) f = some none ∧ H1 dd = some (.xd fs) ∧ fs.lookup f = some v ∧ Q v H1
theorem pe_errX {X : Cx} {a : Addr} {oe : Obj} {cls : Value} {d : Option Addr} {pn : List (Addr × Obj)} {e : Expr} {te : TE} {pos : Pos} {n : Str} (hz : Zc cls d oe) (hf : ∃ vs, oe.data = .fields vs) (he : PE (X.suite a ((a, oe) :: pn)) e te)
    (hb : attributeBase e n X.env (eval e X.env) = eval e X.env := by rfl) : PE (X.suite a ((a, oe) :: pn)) (.Attribute e n pos) (tErrX X.K a cls d n te) := by
  refine ⟨fun pins s σ H Q I h => attr_of hb (thn (he.run pins s σ H _ I h) fun u s1 ⟨x, H1, I1, rx, D, dd, fs, v, ex, ec, ed, C, hno, hdd, l, q⟩ => ?_)⟩
  subst ex ec ed
  obtain rfl : u = Value.ref a := rx
  obtain ⟨at_, _⟩ := I1.pin (a, oe) (List.mem_append_left _ List.mem_cons_self)
  obtain ⟨vs, hd⟩ := hf
  have own : ObjOk X.prog X.w H1 s1.heap dd (.xd fs) := I1.hok dd _ hdd
  obtain ⟨mA, hns, rel⟩ := own
  obtain ⟨od, ho, hl⟩ := lookIn_ns hns
  have rl := rel n
  rw [l] at rl
  obtain ⟨u, hu, ru⟩ := RelO.some_of (v := v) (o := mA n) rl
  have J : PySem.W.InstAt s1.heap a oe D (some od) := ⟨at_, hz.1, by unfold PySem.W.notCls; rw [hd] <;> rfl, by rw [hz.2]; exact ho⟩
  exact HandSPX.exc_get I1.kIn J C.hg C.hk C.hs (PySem.W.findObj_own C.hd hno rfl (by rw [hl, hu])) (handed_of ru) ⟨v, H1, I1.tok _, ru, q⟩
end Pm
namespace Pm
open PySem PySem.Spec PyProof.Rows L2 SX
section
variable {P : Program} {w : World} {K : PySem.W.Frag} {mg : Str → Option Value} {base : Heap} {C CI : Addr}
theorem scEInvalidPicture : FnScope ["self", "line"] ["self", "line"] (defScope cInvalidPictureInit) := ⟨rfl, rfl, rfl, by decide +kernel, rfl, by decide +kernel, by decide +kernel⟩
theorem okEInvalidPicture {f C : Addr} {fd : FuncData} (F : Fun K "__init__" "InvalidPicture.__init__" cInvalidPictureInit f fd) (T : OexC K C) (nx : PySem.W.findIn K (.ref C) "line" = some none) : FnOk P w K mg base CX0 1 f fd ["self", "line"] (spE1 C "line") := by
  refine F.ok scEInvalidPicture (fun vs H Q E h => ?_) (fun cdv A outer s H vs Q E hr h => ?_)
  · obtain ⟨a, v, rfl, _⟩ := h
    rfl
  · obtain ⟨a, v, rfl, ha, k⟩ := h
    refine ⟨_, pss_one (ps_ost (pv 0) (pv 1)), ?_⟩
    refine ⟨_, rfl, _, rfl, a, C, rfl, T, nx, .inl ⟨ha, fun dx nd ne => ?_⟩⟩
    refine k _ dx upd_same (by rw [upd_ne ne, upd_same]) nd ne fun b o nb e => ?_
    rw [upd_ne nb, upd_ne (ne_of_none e nd)]
    exact e
/-! ### a picture -/
def wideOf (R : Rows) : Int := ((R.headD []).length : Int)
def PicAt (C : Addr) (H : Hp) (r : Addr) (R : Rows) : Prop := ∃ dx l, H r = some (.ins C dx [("_rows", .ref l), ("width", .int (wideOf R)), ("height", .int (R.length : Int))]) ∧ H l = some (.lst (rowsV R))
structure PCls (K : PySem.W.Frag) (C : Addr) : Prop where
  cl : L2.Cls K C
  nR : NoAttr K C "_rows"
  nW : NoAttr K C "width"
  nH : NoAttr K C "height"
def spInit (C CI : Addr) : Sp := fun vs H Q E => ∃ r dx a R, vs = [.ref r, .ref a] ∧ H r = some (.ins C dx []) ∧ H a = some (.lst (rowsV R)) ∧ R.length ≤ 1000 ∧ (∀ z ∈ R, z.length ≤ 1000) ∧
  (0 < lineOf R → Lets E CI [("line", .int (lineOf R))] H) ∧ (lineOf R = 0 → ∀ H', PicAt C H' r R → SameBut r H H' → Q .non H')
theorem lineOf_nonneg (R : Rows) : 0 ≤ lineOf R := by
  match R with
  | [] => exact Int.le_of_lt (by decide)
  | r :: R =>
    rw [lineOf_cons]
    split
    · exact Int.add_nonneg (Int.natCast_nonneg _) (by decide)
    · split <;> decide
theorem scInit : FnScope ["self", "rows", "line"] ["self", "rows"] (defScope cPictureInit) := ⟨rfl, rfl, rfl, by decide +kernel, rfl, by decide +kernel, by decide +kernel⟩
theorem ok_init {f g e : Addr} {fd gd ed : FuncData} (F : Fun K "__init__" "Picture.__init__" cPictureInit f fd) (G : Cl P w K mg base CX0 4 "bad_line_pictures" ["rows"] spLine g gd) (Ex : EMk P w K mg base CI "InvalidPicture" ["self", "line"] (spE1 CI "line") e ed) (L : LTxt K mg) (T : PCls K C) :
    FnOk P w K mg base (L2.CX P w) 5 f fd ["self", "rows"] (spInit C CI) := by
  refine F.okX scInit (fun vs H Q E h => ?_) (fun cdv A outer s H vs Q E hr h => ?_)
  · obtain ⟨r, dx, a, R, rfl, _⟩ := h
    rfl
  · obtain ⟨r, dx, a, R, rfl, hR, ha, few, each, bad, good⟩ := h
    refine ⟨_, pss_cons (ps_set (i := 2) scInit.nd rfl (.inl rfl) (pe_call G.ok hr (by rfl) G.gl G.kp G.bd .nil pass0 (pa_cons (pv 1) pa_nil)))
      (pss_cons (ps_if (pt_cmpR op_gt (pv 2) pe_int (nomark _)) (pss_one (ps_raise rfl (takes_of rfl rfl rfl rfl) (pmk_oex Ex.T Ex.at_ Ex.ty Ex.ok (hr.mono (by decide)) Ex.bd .nil pass0 (by rfl) Ex.gl (pa_cons (pv 2) pa_nil)))) pss_nil)
      (pss_cons (ps_fld (pv 0) (pe_callTy call_list_of (by rfl) L.lst (by decide +kernel) (pa_cons (pv 1) pa_nil)) rfl)
      (pss_cons (ps_fld (pv 0) (pe_callB call_len_str (by rfl) L.len PySem.boot_len (pa_cons (pe_ix ix_list (pv 1) pe_int (fun _ _ => rfl)) pa_nil)) rfl)
      (pss_one (ps_fld (pv 0) (pe_callB call_len_seq (by rfl) L.len PySem.boot_len (pa_cons (pv 1) pa_nil)) rfl))))), ?_⟩
    refine ⟨_, rfl, a, R, rfl, ha, few, each, fun H1 s1 => ?_⟩
    refine ⟨_, rfl, _, _, rfl, rfl, _, rfl, ite2 (fun p => ?_) (fun p => ?_)⟩
    · have pos : 0 < lineOf R := of_decide_eq_true p
      refine ⟨_, rfl, by show 1 ≤ 1000; decide, fun x nx => ⟨x, _, rfl, upd_same, fun H2 d h1 h2 nd ne sb => ⟨rfl, d, _, h1, h2, ?_, ?_⟩⟩⟩
      · rwa [upd_ne ne] at nd
      · have nd1 : H1 d = none := by rwa [upd_ne ne] at nd
        exact bad pos d _ (back s1 nd1) upd_same (s1.trans (on_way nx nd ne sb))
    · have zero : lineOf R = 0 := by
        have y := lineOf_nonneg R
        have z : ¬ 0 < lineOf R := fun y => p (decide_eq_true y)
        omega
      match R, ha, few, each, bad, good, zero with
      | q :: R, ha, few, each, bad, good, zero =>
        refine ⟨_, rfl, a, _, rfl, .inl (SqL.of (s1 _ _ ha)), fun l nl => ⟨_, rfl, r, C, dx, [], rfl, same_upd nl _ _ (s1 _ _ hR), T.cl, T.nR, by show 0 < 1000; decide, ?_⟩⟩
        have nra : a ≠ r := ne_of (s1 _ _ ha) (s1 _ _ hR) (by intro z; cases z)
        have nlr : l ≠ r := Ne.symm (ne_of_none (s1 _ _ hR) nl)
        have nla : l ≠ a := Ne.symm (ne_of_none (s1 _ _ ha) nl)
        refine ⟨_, rfl, a, _, 0, _, rfl, rfl, SqL.of (by rw [upd_ne nra, upd_ne nla.symm]; exact s1 _ _ ha), row0 q R, _, rfl, by rw [len_S]; exact small_line (each q List.mem_cons_self), _, rfl, r, C, dx, _, rfl, upd_same, T.cl, T.nW, by show 1 < 1000; decide, ?_⟩
        refine ⟨_, rfl, a, _, rfl, .inl (SqL.of (by rw [upd_ne nra, upd_ne nra, upd_ne nla.symm]; exact s1 _ _ ha)), _, rfl, r, C, dx, _, rfl, upd_same, T.cl, T.nH, by show 2 < 1000; decide, ?_⟩
        refine good zero _ ⟨dx, l, ?_, ?_⟩ fun b o nb e => ?_
        · rw [upd_same, rowsV_len, len_S]
          rfl
        · rw [upd_ne nlr, upd_ne nlr, upd_ne nlr]
          exact upd_same
        · rw [upd_ne nb, upd_ne nb, upd_ne nb]
          exact same_upd nl _ _ (s1 _ _ e)
end
end Pm
namespace Pm
open PySem PySem.Spec PyProof.Rows L2 SX
/-! ### calls whose errors are wished for at the caller's slots -/
section
variable {X : Cx} {CXf : CXT} {k : Nat} {f C : Addr} {fd : FuncData} {ps : List Str} {sp : Sp} {E : L2.St → XK} {x m : Str} {p pos apos : Pos} {e o : Expr} {es : List Expr} {ta : TE} {t : TA} {pins : List (Addr × Obj)} {σ : L2.St} {H : Hp} {s : Shared} {Q : VK} {us : List Value} {vs : List V}
/-- how a callee's end is taken -/
theorem end_of {r : Result} {s' : Shared} (I : L2.Inv X pins σ H s) (hx : PassesAt CXf X σ (E σ)) (h : match r with | .ok (.ret v) => EP X pins σ Q v s' | .ok _ => False | .error er => CXf X.stack H s (E σ) er s') :
    match r with | .ok (.ret v) => EP X pins σ Q v s' | .ok _ => False | .error er => X.xe er s' := by
  cases r with
  | error er => exact hx pins H s er s' I h
  | ok fl =>
    cases fl with
    | ret u => exact h
    | next => exact h
    | brk => exact h
    | cont => exact h
theorem make_runS (M : Mk X.K C f) (F : FnOk X.prog X.w X.K X.mg X.base CXf k f fd ps sp) (hr : Room (k + 1) X.A) (hb : Binds X.K fd ps []) (hx : PassesAt CXf X σ (E σ)) (I : L2.Inv X pins σ H s) (rv : Vals vs us)
    (h : ∀ x dx, H x = none → H dx = none → dx ≠ x → sp (.ref x :: vs) (upd (upd H dx (.own x)) x (.ins C dx [])) (fun v H2 => v = .non ∧ Q (.ref x) H2) (E σ)) : wpAny (model X.prog X.w) X.A (call (.ref C) us) (EP X pins σ Q) X.xe s := by
  have big : s.heap.objs.size ≤ s.heap.objs.size + 1 := Nat.le_succ _
  have asked := h (s.heap.objs.size + 1) s.heap.objs.size (I.hok.fresh big) (I.hok.fresh (Nat.le_refl _)) (Nat.ne_of_lt (Nat.lt_succ_self _))
  have J := Inv.made (C := C) I
  have rs : Vals (V.ref (s.heap.objs.size + 1) :: vs) (Value.ref (s.heap.objs.size + 1) :: us) := .cons rfl rv
  have len : (Value.ref (s.heap.objs.size + 1) :: us ++ []).length = ps.length := by
    rw [List.append_nil, ← rs.length]
    exact F.len _ _ _ _ asked
  have env := J.env0.make C us []
  have bind := hb _ (Value.ref (s.heap.objs.size + 1) :: us) J.kIn len
  rw [List.append_nil] at bind
  refine wpAny_call (make_map (f := f) I.kIn M.makes M.init (beq_iff_eq.mp M.fn) (codeAny_mono (F.run _ X.stack _ _ ⟨Value.ref (s.heap.objs.size + 1) :: us, []⟩ (Value.ref (s.heap.objs.size + 1) :: us) _ _ (E σ) (hr.make C us []) env bind rs asked) fun r s' z => ?_))
  cases r with
  | error er => exact hx pins _ _ er s' J z
  | ok fl =>
    cases fl with
    | ret u =>
      obtain ⟨v, H', I3, rv3, ev, q3⟩ := J.after z
      subst ev
      exact ⟨rv3, .ref (s.heap.objs.size + 1), H', I3, rfl, q3⟩
    | next => exact z.elim
    | brk => exact z.elim
    | cont => exact z.elim
def tMakeS (C : Addr) (sp : Sp) (E : L2.St → XK) (t : TA) : TE := fun σ H Q => t σ H fun vs H1 => ∀ x dx, H1 x = none → H1 dx = none → dx ≠ x → sp (.ref x :: vs) (upd (upd H1 dx (.own x)) x (.ins C dx [])) (fun v H2 => v = .non ∧ Q (.ref x) H2) (E σ)
/-- C(e, ..), C a name of the module -/
theorem pe_makeS (M : Mk X.K C f) (F : FnOk X.prog X.w X.K X.mg X.base CXf k f fd ps sp) (hr : Room (k + 1) X.A) (hg : Gl X x) (hm : X.mg x = some (.ref C)) (hb : Binds X.K fd ps []) (hx : ∀ σ, PassesAt CXf X σ (E σ)) (ha : PA X (e :: es) t)
    (dbg : (x == ("__debug__" : Str)) = false := by decide) (st : starEach (e :: es) X.env = (false, eval e X.env) :: starEach es X.env := by rfl) (pl : (backTo pos (starEach es X.env)).any (·.1) = false := by rfl) :
    PE X (.Call (.Name x p) (e :: es) [] pos) (tMakeS C sp E t) := by
  refine ⟨fun pins s σ H Q I h => wpAny_Call_Name_kw (ld_glob I hg hm ?_ dbg)⟩
  refine PySem.W.callWith_K (h₀ := X.base) I.ok.mod.kin M.kp (thn (ha.run pos pins s σ H _ I h) fun us s1 ⟨vs, H1, I1, rv, q⟩ => ⟨I1.kIn, ?_⟩) st pl
  exact make_runS M F hr hb (hx σ) I1 rv q
def tMakeV (i : Nat) (C : Addr) (sp : Sp) (E : L2.St → XK) (t : TA) : TE := fun σ H Q => σ[i]? = some (some (.ref C)) ∧ tMakeS C sp E t σ H Q
/-- c(e, ..), the class at C in slot i -/
theorem pe_makeV {i : Nat} (M : Mk X.K C f) (F : FnOk X.prog X.w X.K X.mg X.base CXf k f fd ps sp) (hr : Room (k + 1) X.A) (hN : X.N[i]? = some x) (hv : Vis X.env.scope x) (hb : Binds X.K fd ps []) (hx : ∀ σ, PassesAt CXf X σ (E σ)) (ha : PA X (e :: es) t)
    (dbg : (x == ("__debug__" : Str)) = false := by decide) (hcd : (x == ("__classdict__" : Str)) = false := by decide) (st : starEach (e :: es) X.env = (false, eval e X.env) :: starEach es X.env := by rfl) (pl : (backTo pos (starEach es X.env)).any (·.1) = false := by rfl) :
    PE X (.Call (.Name x p) (e :: es) [] pos) (tMakeV i C sp E t) := by
  refine ⟨fun pins s σ H Q I ⟨hs, h⟩ => ?_⟩
  refine wpAny_Call_Name_kw (thn ((pe_var (pos := p) hN hv dbg hcd).run pins s σ H (fun v H1 => v = .ref C ∧ H1 = H) I ⟨.ref C, hs, rfl, rfl⟩) fun u s0 ⟨v, H0, I0, r0, ev, eh⟩ => ?_)
  subst ev eh
  obtain rfl : u = Value.ref C := r0
  refine PySem.W.callWith_K (h₀ := X.base) I.ok.mod.kin M.kp (thn (ha.run pos pins s0 σ _ _ I0 h) fun us s1 ⟨vs, H1, I1, rv, q⟩ => ⟨I1.kIn, ?_⟩) st pl
  exact make_runS M F hr hb (hx σ) I1 rv q
def tMethE (C : Addr) (m : Str) (sp : Sp) (E : L2.St → XK) (ta : TE) (t : TA) : TE := fun σ H Q => ta σ H fun x H1 => ∃ a dx fs, x = .ref a ∧ H1 a = some (.ins C dx fs) ∧ fs.lookup m = none ∧ t σ H1 fun vs H2 => sp (x :: vs) H2 Q (E σ)
/-- o.m(e, ..) -/
theorem pe_methE {pl : Sem Bool} (he : PE X o ta) (c : L2.Cls X.K C) (hm : Meth X.K C m f) (F : FnOk X.prog X.w X.K X.mg X.base CXf k f fd ps sp) (hr : Room k X.A) (hb : Binds X.K fd ps []) (hx : ∀ σ, PassesAt CXf X σ (E σ)) (ha : PA X (e :: es) t)
    (st : starEach (e :: es) X.env = (false, eval e X.env) :: starEach es X.env := by rfl) (pl2 : (backTo pos (starEach es X.env)).any (·.1) = false := by rfl)
    (ht : eval (.Call (.Attribute o m apos) (e :: es) [] pos) X.env = (do
      let ov ← eval o X.env
      standAt apos.atName
      let (f, first) ← holding [ov] (getMethod ov m pl)
      callWith pos f first (backTo pos (starEach (e :: es) X.env)) (backToKw pos (keywordEach [] X.env))) := by rfl) :
    PE X (.Call (.Attribute o m apos) (e :: es) [] pos) (tMethE C m sp E ta t) := by
  refine ⟨fun pins s σ H Q I h => PySem.W.methodCall_KW (pl := pl) (thn (he.run pins s σ H _ I h) fun u s1 ⟨x, H1, I1, rx, a, dx, fs, ex, ea, l, q⟩ => ?_) ht⟩
  subst ex
  obtain rfl : u = Value.ref a := rx
  refine getmeth_ok I1 ea c hm l (PySem.W.callWith_K (first := [.ref a]) (h₀ := X.base) I.ok.mod.kin hm.kp (thn (ha.run pos pins s1 σ H1 _ I1 q) fun us s2 ⟨vs, H2, I2, rv, q2⟩ => ⟨I2.kIn, ?_⟩) st pl2)
  exact run_fnS (us := .ref a :: us) (vs := .ref a :: vs) F hr hb (hx σ) I2 (.cons rfl rv) q2
/-! ### a classmethod -/
open ClX in
def tCMethE (C : Addr) (sp : Sp) (E : L2.St → XK) (ta : TE) (t : TA) : TE := fun σ H Q => ta σ H fun x H1 => x = .ref C ∧ t σ H1 fun vs H2 => sp (.ref C :: vs) H2 Q (E σ)
open ClX in
theorem run_cmE {q g : Addr} (F : FnR X.prog X.w X.K X.mg X.base CXf k g sp) (hr : Room k X.A) (hx : PassesAt CXf X σ (E σ)) (I : L2.Inv X ((q, PySem.W.methodObj (.ref g) (.ref C)) :: pins) σ H s)
    (rv : Vals vs us) (h : sp (.ref C :: vs) H Q (E σ)) : wpAny (model X.prog X.w) X.A (call (.ref q) us) (EP X pins σ Q) X.xe s := by
  have go : wpAny (model X.prog X.w) X.A (call (.ref q) us) (EP X ((q, PySem.W.methodObj (.ref g) (.ref C)) :: pins) σ Q) X.xe s := by
    refine wpAny_call (PySem.W.method_call (pin_at I) (codeAny_mono (F X.A X.stack s H (.ref C :: us) (.ref C :: vs) Q (E σ) hr I.env0 (.cons rfl rv) h) fun r s' z => ?_))
    cases r with
    | error er => exact hx _ H s er s' I z
    | ok fl =>
      cases fl with
      | ret u => exact I.after z
      | next => exact z.elim
      | brk => exact z.elim
      | cont => exact z.elim
  exact thn go fun _ _ y => unpinE y
open ClX in
theorem pe_cmethE {g c : Addr} {mc : Value} {pl : Sem Bool} (he : PE X o ta) (r : CRead X.K C mc) (cm : CMet X.K C mc m c g) (F : FnR X.prog X.w X.K X.mg X.base CXf k g sp) (hr : Room k X.A) (hx : ∀ σ, PassesAt CXf X σ (E σ)) (ha : PA X (e :: es) t)
    (st : starEach (e :: es) X.env = (false, eval e X.env) :: starEach es X.env := by rfl) (pl2 : (backTo pos (starEach es X.env)).any (·.1) = false := by rfl)
    (ht : eval (.Call (.Attribute o m apos) (e :: es) [] pos) X.env = (do
      let ov ← eval o X.env
      standAt apos.atName
      let (f, first) ← holding [ov] (getMethod ov m pl)
      callWith pos f first (backTo pos (starEach (e :: es) X.env)) (backToKw pos (keywordEach [] X.env))) := by rfl) :
    PE X (.Call (.Attribute o m apos) (e :: es) [] pos) (tCMethE C sp E ta t) := by
  refine ⟨fun pins s σ H Q I h => PySem.W.methodCall_KW (pl := pl) (thn (he.run pins s σ H _ I h) fun u s1 ⟨x, H1, I1, rx, ex, q⟩ => ?_) ht⟩
  subst ex
  obtain rfl : u = Value.ref C := rx
  refine getmethcm_ok I1 r cm fun s2 I2 => ?_
  refine callwith_cm I2 (base_none I1 (Nat.le_refl _)) cm.fi (thn (ha.run pos _ s2 σ H1 _ I2 q) fun us s3 ⟨vs, H2, I3, rv, q2⟩ => ⟨⟨pin_at I3, I3.kIn⟩, ?_⟩) st pl2
  exact run_cmE F hr (hx σ) I3 rv q2
end
end Pm
namespace Pm
open PySem PySem.Spec PyProof.Rows L2 SX
/-! ### texts of different signs; their order -/
/-- the built-ins and constants that rules ask for besides -/
structure STxt (K : PySem.W.Frag) (mg : Str → Option Value) : Prop where
  set : mg "set" = none
  srt : mg "sorted" = none
/-- the signs in order -/
def asc (z : List Nat) : List Nat := z.mergeSort fun a b => decide (a ≤ b)
theorem asc_perm (z : List Nat) : (asc z).Perm z := List.mergeSort_perm _ _
theorem asc_le (z : List Nat) : (asc z).Pairwise (· ≤ ·) := by
  have h := List.pairwise_mergeSort (le := fun a b : Nat => decide (a ≤ b)) (fun a b c h1 h2 => decide_eq_true (Nat.le_trans (of_decide_eq_true h1) (of_decide_eq_true h2))) (fun a b => by
    rcases Nat.le_total a b with h | h
    · simp [h]
    · simp [h]) z
  exact h.imp fun e => of_decide_eq_true e
theorem two_sorted : ∀ {l m : List Nat}, l.Perm m → l.Pairwise (· ≤ ·) → m.Pairwise (· ≤ ·) → l = m
  | [], m, p, _, _ => (List.Perm.nil_eq p)
  | a :: l, [], p, _, _ => absurd p.length_eq (by simp)
  | a :: l, b :: m, p, h1, h2 => by
    have ha := List.pairwise_cons.mp h1
    have hb := List.pairwise_cons.mp h2
    have ab : a = b := by
      have m1 : a ∈ b :: m := p.mem_iff.mp List.mem_cons_self
      have m2 : b ∈ a :: l := p.mem_iff.mpr List.mem_cons_self
      rcases List.mem_cons.mp m1 with e | e
      · exact e
      · rcases List.mem_cons.mp m2 with e2 | e2
        · exact e2.symm
        · exact Nat.le_antisymm (ha.1 b e2) (hb.1 a e)
    subst ab
    rw [two_sorted (p.cons_inv) ha.2 hb.2]
theorem asc_of {ys z : List Nat} (p : ys.Perm z) (h : ys.Pairwise (· ≤ ·)) : ys = asc z := two_sorted (p.trans (asc_perm z).symm) h (asc_le z)
theorem joinL_one : ∀ z : List Nat, TL.joinL [] (z.map fun c => [c]) = z
  | [] => rfl
  | [c] => rfl
  | c :: d :: z => congrArg (c :: ·) (joinL_one (d :: z))
theorem sum_one : ∀ z : List Nat, (z.map fun _ => 1).sum = z.length
  | [] => rfl
  | c :: z => by
    rw [List.map_cons, List.sum_cons, sum_one z, List.length_cons, Nat.add_comm]
theorem join_ones (z : List Nat) : Txt.join ("" : Str) (ones z) = S z := by
  have e : ("" : Str) = S [] := by decide +kernel
  have e2 : ones z = (z.map fun c => [c]).map S := by unfold ones; rw [List.map_map]; rfl
  rw [e, e2, join_S]
  exact congrArg S (joinL_one z)
def diffB (b : Nat) (z : List Nat) : Bool := (decide (z ≠ []) && decide z.Nodup) && z.all fun c => decide (c = b) || decide (Let c)
section
variable {P : Program} {w : World} {K : PySem.W.Frag} {mg : Str → Option Value} {base : Heap} {C : Addr}
def spAsc : Sp := fun vs H Q _ => ∃ z, vs = [.str (S z)] ∧ z.length ≤ 1000 ∧ ∀ H', Same H H' → Q (.str (S (asc z))) H'
theorem scAsc : FnScope ["signs"] ["signs"] (defScope gInAsciiOrder) := ⟨rfl, rfl, rfl, by decide +kernel, rfl, by decide +kernel, by decide +kernel⟩
theorem ok_asc {f : Addr} {fd : FuncData} (F : Fun K "in_ascii_order" "in_ascii_order" gInAsciiOrder f fd) (R : STxt K mg) : FnOk P w K mg base CX0 1 f fd ["signs"] spAsc := by
  refine F.ok scAsc (fun vs H Q E h => ?_) (fun cdv A outer s H vs Q E hr h => ?_)
  · obtain ⟨z, rfl, _⟩ := h
    rfl
  · obtain ⟨z, rfl, few, k⟩ := h
    refine ⟨_, pss_one (ps_ret (pe_join pe_str (pe_callB (cr_sortedTx rfl) (by rfl) R.srt (by decide +kernel) (pa_cons (pv 0) pa_nil)))), ?_⟩
    refine ⟨⟨_, rfl⟩, _, rfl, z, rfl, few, fun ys p pm pw np => ⟨_, p, ones ys, rfl, rfl, .inl (SqL.of upd_same), ?_, ?_⟩⟩
    · have e : ((ones ys).map (·.length)).sum = ys.length := by
        unfold ones
        rw [List.map_map]
        have : ((fun x : Str => x.length) ∘ fun c => S [c]) = fun _ => 1 := by
          funext c
          exact S_len [c]
        rw [this]
        exact sum_one ys
      rw [e]
      have := pm.length_eq
      show ys.length + (ones ys).length * 0 ≤ 16777216
      omega
    · rw [join_ones, asc_of pm pw]
      exact k _ (same_upd np)
def spDiff : Sp := fun vs H Q _ => ∃ z b, vs = [.str (S z), .str (S [b])] ∧ z.length ≤ 1000 ∧ ∀ H', Same H H' → Q (.bl (diffB b z)) H'
abbrev nDiff : List Str := ["signs", "besides", "sign"]
theorem scDiff : FnScope nDiff ["signs", "besides"] (defScope gAreDifferentSigns) := ⟨rfl, rfl, rfl, by decide +kernel, rfl, by decide +kernel, by decide +kernel⟩
theorem ok_differ {f g : Addr} {fd gd : FuncData} (F : Fun K "are_different_signs" "are_different_signs" gAreDifferentSigns f fd) (G : Cl P w K mg base CX0 1 "is_stone" ["sign"] spStone g gd) (L : LTxt K mg) (T : PTxt K mg C) (R : STxt K mg) :
    FnOk P w K mg base CX0 2 f fd ["signs", "besides"] spDiff := by
  refine F.ok scDiff (fun vs H Q E h => ?_) (fun cdv A outer s H vs Q E hr h => ?_)
  · obtain ⟨z, b, rfl, _⟩ := h
    rfl
  · obtain ⟨z, b, rfl, few, k⟩ := h
    refine ⟨_, pss_cons (ps_if (PW.pt (pw_or (pt_cmpR op_eq (pv 0) pe_str (nomark _)) (pw_or1 (pt_cmpR op_lt (pe_lenSetS (by rfl) L.len (by rfl) R.set (pv 0)) (pe_callB call_len_str (by rfl) L.len PySem.boot_len (pa_cons (pv 0) pa_nil)) (nomark _))))) (pss_one (ps_ret pe_bl)) pss_nil)
      (pss_one (ps_ret (pe_callB (cr_all rfl) (by rfl) T.all (by decide +kernel) (pa_cons (pe_lc (own := [("sign", 2)]) (g := gName 2) (tt := tYes) rfl scDiff.nd (pi_str (pv 0)) (blkOk_by (N := nDiff) (sc := defScope gAreDifferentSigns) (by decide +kernel)) (fun _ _ _ _ _ => pg_name (i := 2) scDiff.nd rfl (.inl rfl)) (fun _ _ _ _ _ => pts_nil)
        (fun _ _ _ _ _ => pe_or (pe_cmpR op_eq (pv 2) (pv 1) (nomark _)) (pe_one (pe_call G.ok hr (by rfl) G.gl G.kp G.bd .nil pass0 (pa_cons (pv 2) pa_nil))))) pa_nil)))), ?_⟩
    have line : (S z).length ≤ sizeLine := by rw [len_S]; exact small_line few
    have emp : ("" : Str) = S [] := by decide +kernel
    refine ⟨_, rfl, rfl, _, rfl, ?_⟩
    by_cases e0 : z = []
    · refine iteTe (decide_eq_true (by rw [e0, emp])) (iteT ?_)
      have q := k H (Same.refl H)
      rw [show diffB b z = false by unfold diffB; rw [e0]; rfl] at q
      exact q
    · refine iteFe (decide_eq_false fun y => e0 ?_) ⟨_, rfl, z, rfl, few, fun n nl nd => ⟨_, rfl, _, rfl, line, _, _, rfl, rfl, _, rfl, ?_⟩⟩
      · simp only [V.str.injEq] at y
        rw [emp] at y
        exact S_inj y
      by_cases e1 : z.Nodup
      · refine iteFe (decide_eq_false (by rw [len_S, nd.mpr e1]; omega)) ?_
        have dB : diffB b z = z.all fun c => decide (c = b) || decide (Let c) := by
          unfold diffB
          rw [decide_eq_true e0, decide_eq_true e1]
          rfl
        refine ⟨_, rfl, _, rfl, fun D nD => lc_it walk_str (fun i G => Same H G ∧ G D = some (.lst (((z.take i).map fun c => decide (c = b) || decide (Let c)).map V.bl))) ⟨same_upd nD, upd_same⟩ (fun _ _ _ _ => trivial) ?_ ?_⟩
        · rintro i x G G' hi ⟨sG, hD⟩ ⟨rfl, d, gd, rfl⟩
          have gd2 : z[i]? = some d := by
            have y : z.toArray[i]? = some d := gd
            rwa [List.getElem?_toArray] at y
          have last : ∀ v : Bool, v = (decide (d = b) || decide (Let d)) → ∃ xs, G' D = some (.lst xs) ∧ xs.length < sizeLine ∧ Same H (upd G' D (.lst (xs ++ [.bl v]))) ∧ upd G' D (.lst (xs ++ [.bl v])) D = some (.lst (((z.take (i + 1)).map fun c => decide (c = b) || decide (Let c)).map V.bl)) := fun v ev => by
            refine ⟨_, hD, ?_, fun a o e => ?_, ?_⟩
            · rw [List.length_map, List.length_map, List.length_take]
              exact small1000 (by omega)
            · rw [upd_ne (ne_of_none e nD)]
              exact sG a o e
            · rw [upd_same, List.take_add_one, gd2, ev]
              simp
          refine ⟨rfl, tyes (iteT ⟨_, rfl, _, rfl, rfl, _, rfl, ?_⟩)⟩
          by_cases e2 : d = b
          · refine iteTe (decide_eq_true (by rw [e2])) ?_
            exact last true (by rw [decide_eq_true e2]; rfl)
          · refine iteFe (decide_eq_false fun y => e2 ?_) ⟨_, rfl, [d], rfl, (show 1 ≤ 1000 by decide), ?_⟩
            · simp only [V.str.injEq] at y
              have := S_inj (a := [d]) (b := [b]) y
              simpa using this
            · exact last _ (by rw [decide_eq_false e2]; rfl)
        · rintro G ⟨sG, hD⟩
          have e3 : (S z).cps.size = z.length := by simp
          rw [e3, List.take_of_length_le (Nat.le_refl _)] at hD
          refine ⟨D, _, rfl, SqL.of hD, ?_⟩
          have q := k G sG
          rw [dB, show (z.all fun c => decide (c = b) || decide (Let c)) = (z.map fun c => decide (c = b) || decide (Let c)).all id by rw [List.all_map]; rfl] at q
          exact q
      · refine iteTe (decide_eq_true ?_) ?_
        · rw [len_S]
          have : n ≠ z.length := fun y => e1 (nd.mp y)
          omega
        · have q := k H (Same.refl H)
          rw [show diffB b z = false by unfold diffB; rw [decide_eq_false e1, Bool.and_false]; rfl] at q
          exact q
end
end Pm
/-! ### values as trees: what an expression comes to, without a word of the heap -/
namespace Tr
open PySem PySem.Spec PyProof.Rows L2
inductive D where
  | non
  | bl (b : Bool)
  | int (i : Int)
  | str (s : Str)
  | tup (xs : List D)
  | lst (xs : List D)
  | obj (C : Addr) (fs : List (Str × D))
  | val (v : V)
  | hp (φ : Hp → V → Prop)
/-- what a def alone holds and may still change: a list; an object at x that is being made -/
inductive Ow where
  | l (xs : List D)
  | o (x dx C : Addr) (fs : List (Str × D))
/-- a slot of a def: not known, a tree, a thing of its own -/
inductive Sl where
  | no
  | d (x : D)
  | own (c : Ow)
abbrev Env := List Sl
mutual
inductive Rep (K : PySem.W.Frag) (F : Hp) : V → D → Prop
  | non : Rep K F .non .non
  | bl (b : Bool) : Rep K F (.bl b) (.bl b)
  | int (i : Int) : Rep K F (.int i) (.int i)
  | str (s : Str) : Rep K F (.str s) (.str s)
  | tup {a : Addr} {vs : List V} {xs : List D} (h : F a = some (.tup vs)) (r : Reps K F vs xs) : Rep K F (.ref a) (.tup xs)
  | lst {a : Addr} {vs : List V} {xs : List D} (h : F a = some (.lst vs)) (r : Reps K F vs xs) : Rep K F (.ref a) (.lst xs)
  | obj {a C dx : Addr} {fv : List (Str × V)} {fs : List (Str × D)} (h : F a = some (.ins C dx fv)) (r : FReps K F fv fs) : Rep K F (.ref a) (.obj C fs)
  | val (v : V) : Rep K F v (.val v)
  | hp {v : V} {φ : Hp → V → Prop} (m : ∀ F F' : Hp, Same F F' → φ F v → φ F' v) (h : φ F v) : Rep K F v (.hp φ)
inductive Reps (K : PySem.W.Frag) (F : Hp) : List V → List D → Prop
  | nil : Reps K F [] []
  | cons {v : V} {d : D} {vs : List V} {ds : List D} (h : Rep K F v d) (r : Reps K F vs ds) : Reps K F (v :: vs) (d :: ds)
inductive FReps (K : PySem.W.Frag) (F : Hp) : List (Str × V) → List (Str × D) → Prop
  | nil : FReps K F [] []
  | cons {n : Str} {v : V} {d : D} {vs : List (Str × V)} {ds : List (Str × D)} (h : Rep K F v d) (r : FReps K F vs ds) : FReps K F ((n, v) :: vs) ((n, d) :: ds)
end
inductive OwR (K : PySem.W.Frag) (F : Hp) : Addr → HO → Ow → Prop
  | l {p : Addr} {vs : List V} {xs : List D} (r : Reps K F vs xs) : OwR K F p (.lst vs) (.l xs)
  | o {x dx C : Addr} {fv : List (Str × V)} {fs : List (Str × D)} (r : FReps K F fv fs) : OwR K F x (.ins C dx fv) (.o x dx C fs)
section
variable {K : PySem.W.Frag} {F F' H H' : Hp}
theorem sq_l {a : Addr} {xs : List V} (s : Same F F') (h : SqL K F a xs) : SqL K F' a xs := s.seq h
theorem sq_t {a : Addr} {xs : List V} (s : Same F F') (h : SqT K F a xs) : SqT K F' a xs := by
  rcases h with (h | ⟨o, h⟩) | h
  · exact .inl (.inl (s _ _ h))
  · exact .inl (.inr ⟨o, s _ _ h⟩)
  · exact .inr h
theorem tofl {a : Addr} {xs : List V} (h : F a = some (.lst xs)) : SqL K F a xs := .inl (.inl h)
theorem toft {a : Addr} {xs : List V} (h : F a = some (.tup xs)) : SqT K F a xs := .inl (.inl h)
mutual
theorem Rep.mono (s : Same F F') : ∀ {v : V} {d : D}, Rep K F v d → Rep K F' v d
  | _, _, .non => .non
  | _, _, .bl b => .bl b
  | _, _, .int i => .int i
  | _, _, .str z => .str z
  | _, _, .tup h r => .tup (s _ _ h) (Reps.mono s r)
  | _, _, .lst h r => .lst (s _ _ h) (Reps.mono s r)
  | _, _, .obj h r => .obj (s _ _ h) (FReps.mono s r)
  | _, _, .val v => .val v
  | _, _, .hp m h => .hp m (m _ _ s h)
theorem Reps.mono (s : Same F F') : ∀ {v : List V} {d : List D}, Reps K F v d → Reps K F' v d
  | _, _, .nil => .nil
  | _, _, .cons h r => .cons (Rep.mono s h) (Reps.mono s r)
theorem FReps.mono (s : Same F F') : ∀ {v : List (Str × V)} {d : List (Str × D)}, FReps K F v d → FReps K F' v d
  | _, _, .nil => .nil
  | _, _, .cons h r => .cons (Rep.mono s h) (FReps.mono s r)
end
theorem OwR.mono (s : Same F F') {p : Addr} {ho : HO} {c : Ow} : OwR K F p ho c → OwR K F' p ho c
  | .l r => .l (Reps.mono s r)
  | .o r => .o (FReps.mono s r)
theorem OwR.lst {p : Addr} {ho : HO} {ds : List D} (h : OwR K F p ho (.l ds)) : ∃ vs, ho = .lst vs ∧ Reps K F vs ds := by
  cases h with
  | l r => exact ⟨_, rfl, r⟩
theorem OwR.obj {p x dx C : Addr} {ho : HO} {fs : List (Str × D)} (h : OwR K F p ho (.o x dx C fs)) : p = x ∧ ∃ fv, ho = .ins C dx fv ∧ FReps K F fv fs := by
  cases h with
  | o r => exact ⟨rfl, _, rfl, r⟩
theorem Reps.length : ∀ {vs : List V} {ds : List D}, Reps K F vs ds → vs.length = ds.length
  | _, _, .nil => rfl
  | _, _, .cons _ r => congrArg (· + 1) (Reps.length r)
theorem Reps.at {ds : List D} : ∀ {vs : List V} {i : Nat} {d : D}, Reps K F vs ds → ds[i]? = some d → ∃ v, vs[i]? = some v ∧ Rep K F v d := by
  induction ds with
  | nil => intro vs i d r h; cases h
  | cons e ds ih =>
    intro vs i d r h
    cases r with
    | cons h0 r =>
      cases i with
      | zero => cases h; exact ⟨_, rfl, h0⟩
      | succ i =>
        obtain ⟨v, e, q⟩ := ih r h
        exact ⟨v, e, q⟩
theorem Reps.atV {vs : List V} : ∀ {ds : List D} {i : Nat} {v : V}, Reps K F vs ds → vs[i]? = some v → ∃ d, ds[i]? = some d ∧ Rep K F v d := by
  induction vs with
  | nil => intro ds i v r h; cases h
  | cons e vs ih =>
    intro ds i v r h
    cases r with
    | cons h0 r =>
      cases i with
      | zero => cases h; exact ⟨_, rfl, h0⟩
      | succ i =>
        obtain ⟨v, e, q⟩ := ih r h
        exact ⟨v, e, q⟩
theorem Reps.append : ∀ {vs ws : List V} {ds es : List D}, Reps K F vs ds → Reps K F ws es → Reps K F (vs ++ ws) (ds ++ es)
  | _, _, _, _, .nil, q => q
  | _, _, _, _, .cons h r, q => .cons h (Reps.append r q)
theorem Reps.take : ∀ {vs : List V} {ds : List D} (n : Nat), Reps K F vs ds → Reps K F (vs.take n) (ds.take n)
  | _, _, 0, _ => by rw [List.take_zero, List.take_zero]; exact .nil
  | _, _, n + 1, .nil => .nil
  | _, _, n + 1, .cons h r => .cons h (Reps.take n r)
theorem Reps.drop : ∀ {vs : List V} {ds : List D} (n : Nat), Reps K F vs ds → Reps K F (vs.drop n) (ds.drop n)
  | _, _, 0, r => by rw [List.drop_zero, List.drop_zero]; exact r
  | _, _, n + 1, .nil => .nil
  | _, _, n + 1, .cons h r => Reps.drop n r
theorem Reps.rev : ∀ {vs : List V} {ds : List D}, Reps K F vs ds → Reps K F vs.reverse ds.reverse
  | _, _, .nil => .nil
  | _, _, .cons h r => by rw [List.reverse_cons, List.reverse_cons]; exact (Reps.rev r).append (.cons h .nil)
theorem Reps.strs : ∀ {ss : List Str} {vs : List V}, Reps K F vs (ss.map D.str) → vs = ss.map V.str
  | [], _, .nil => rfl
  | s :: ss, _, .cons (.str _) r => by rw [Reps.strs r]; rfl
theorem Reps.ints : ∀ {ss : List Int} {vs : List V}, Reps K F vs (ss.map D.int) → vs = ss.map V.int
  | [], _, .nil => rfl
  | s :: ss, _, .cons (.int _) r => by rw [Reps.ints r]; rfl
theorem Reps.bls : ∀ {ss : List Bool} {vs : List V}, Reps K F vs (ss.map D.bl) → vs = ss.map V.bl
  | [], _, .nil => rfl
  | s :: ss, _, .cons (.bl _) r => by rw [Reps.bls r]; rfl
theorem FReps.look {f : Str} {d : D} : ∀ {fv : List (Str × V)} {fs : List (Str × D)}, FReps K F fv fs → fs.lookup f = some d → ∃ v, fv.lookup f = some v ∧ Rep K F v d
  | _, _, .nil, h => by cases h
  | _, _, .cons (n := n) h0 r, h => by
    rw [List.lookup_cons] at h ⊢
    by_cases e : (f == n) = true
    · rw [e] at h ⊢
      cases h
      exact ⟨_, rfl, h0⟩
    · have e : (f == n) = false := by simpa using e
      rw [e] at h ⊢
      exact r.look h
theorem FReps.none {f : Str} : ∀ {fv : List (Str × V)} {fs : List (Str × D)}, FReps K F fv fs → fs.lookup f = none → fv.lookup f = none
  | _, _, .nil, _ => rfl
  | _, _, .cons (n := n) h0 r, h => by
    rw [List.lookup_cons] at h ⊢
    by_cases e : (f == n) = true
    · rw [e] at h
      cases h
    · have e : (f == n) = false := by simpa using e
      rw [e] at h ⊢
      exact r.none h
/-! ### what stands while a def runs -/
/-- the heap grows; what stands outside of the frozen part stays outside -/
structure Gr (F H F' H' : Hp) : Prop where
  f : Same F F'
  h : Same H H'
  x : ∀ a o, H a = some o → F a = none → F' a = none
theorem Gr.refl (F H : Hp) : Gr F H F H := ⟨Same.refl _, Same.refl _, fun _ _ _ e => e⟩
theorem Gr.trans {F1 H1 F2 H2 : Hp} (a : Gr F H F1 H1) (b : Gr F1 H1 F2 H2) : Gr F H F2 H2 := ⟨a.f.trans b.f, a.h.trans b.h, fun p o e n => b.x p o (a.h _ _ e) (a.x p o e n)⟩
def SlR (K : PySem.W.Frag) (H0 F H : Hp) (o : Option V) : Sl → Prop
  | .no => True
  | .d x => ∃ v, o = some v ∧ Rep K F v x
  | .own c => ∃ p ho, o = some (.ref p) ∧ H0 p = none ∧ F p = none ∧ H p = some ho ∧ OwR K F p ho c
structure Wd (K : PySem.W.Frag) (B : Hp × Hp) (F H : Hp) (σ : L2.St) (Γ : Env) : Prop where
  ff : Same B.1 F
  hh : Same B.2 H
  fh : Same F H
  ex : ∀ a o, B.2 a = some o → B.1 a = none → F a = none
  len : σ.length = Γ.length
  sl : ∀ (i : Nat) (o : Option V) (s : Sl), σ[i]? = some o → Γ[i]? = some s → SlR K B.2 F H o s
  dj : ∀ (i j : Nat) (p : Addr) (xs ys : Ow), i ≠ j → σ[i]? = some (some (.ref p)) → σ[j]? = some (some (.ref p)) → Γ[i]? = some (.own xs) → Γ[j]? = some (.own ys) → False
theorem sup {p : Addr} {o : HO} (h : H p = none) : Same H (upd H p o) := fun b x e => by
  rw [upd_ne (ne_of_none e h)]
  exact e
theorem SlR.gr {H0 : Hp} {o : Option V} {s : Sl} (h : SlR K H0 F H o s) (g : Gr F H F' H') : SlR K H0 F' H' o s := by
  cases s with
  | no => trivial
  | d x =>
    obtain ⟨v, e, r⟩ := h
    exact ⟨v, e, r.mono g.f⟩
  | own xs =>
    obtain ⟨p, vs, e, n0, nf, hp, r⟩ := h
    exact ⟨p, vs, e, n0, g.x _ _ hp nf, g.h _ _ hp, r.mono g.f⟩
theorem Wd.gr {B : Hp × Hp} {σ : L2.St} {Γ : Env} (w : Wd K B F H σ Γ) (g : Gr F H F' H') (fh : Same F' H') : Wd K B F' H' σ Γ :=
  ⟨w.ff.trans g.f, w.hh.trans g.h, fh, fun a o e n => g.x a o (w.hh _ _ e) (w.ex a o e n), w.len, fun i o s a b => (w.sl i o s a b).gr g, w.dj⟩
theorem Gr.new {p : Addr} {o : HO} (fh : Same F H) (n : H p = none) : Gr F H (upd F p o) (upd H p o) :=
  ⟨sup (fh.free n), sup n, fun a u e f => by rw [upd_ne (ne_of_none e n)]; exact f⟩
theorem same_both {p : Addr} {o : HO} (s : Same F H) : Same (upd F p o) (upd H p o) := fun a x e => by
  by_cases h : a = p
  · subst h
    rw [upd_same] at e ⊢
    exact e
  · rw [upd_ne h] at e ⊢
    exact s _ _ e
theorem Wd.slot {B : Hp × Hp} {σ : L2.St} {Γ : Env} {i : Nat} {x : D} (w : Wd K B F H σ Γ) (g : Γ[i]? = some (.d x)) : ∃ v, σ[i]? = some (some v) ∧ Rep K F v x := by
  have li : i < Γ.length := (List.getElem?_eq_some_iff.mp g).1
  have ls : i < σ.length := by rw [w.len]; exact li
  obtain ⟨v, e, r⟩ := w.sl i _ _ (List.getElem?_eq_getElem ls) g
  exact ⟨v, by rw [List.getElem?_eq_getElem ls, e], r⟩
/-! ### readings -/
def tEv (K : PySem.W.Frag) (B : Hp × Hp) (Γ : Env) (d : D) : TE := fun σ H Q => ∃ F, Wd K B F H σ Γ ∧ ∀ v F' H', Wd K B F' H' σ Γ → Gr F H F' H' → Rep K F' v d → Q v H'
def tEvT (K : PySem.W.Frag) (B : Hp × Hp) (Γ : Env) (b : Bool) : TT := fun σ H Q => ∃ F, Wd K B F H σ Γ ∧ ∀ F' H', Wd K B F' H' σ Γ → Gr F H F' H' → Q b H'
def tEvA (K : PySem.W.Frag) (B : Hp × Hp) (Γ : Env) (ds : List D) : TA := fun σ H Q => ∃ F, Wd K B F H σ Γ ∧ ∀ vs F' H', Wd K B F' H' σ Γ → Gr F H F' H' → Reps K F' vs ds → Q vs H'
end
abbrev Ok (X : Cx) (B : Hp × Hp) (e : Expr) (Γ : Env) (d : D) : Prop := PE X e (tEv X.K B Γ d)
abbrev OkT (X : Cx) (B : Hp × Hp) (e : Expr) (Γ : Env) (b : Bool) : Prop := PT X e (tEvT X.K B Γ b)
abbrev OkA (X : Cx) (B : Hp × Hp) (es : List Expr) (Γ : Env) (ds : List D) : Prop := PA X es (tEvA X.K B Γ ds)
section
variable {X : Cx} {B : Hp × Hp} {Γ : Env} {e a b c : Expr} {es rest : List Expr} {x y z : D} {pos apos : Pos}
theorem PE.weak {t t' : TE} (h : PE X e t) (w : ∀ σ H Q, t' σ H Q → t σ H Q) : PE X e t' := ⟨fun pins s σ H Q I q => h.run pins s σ H Q I (w _ _ _ q)⟩
theorem PT.weak {t t' : TT} (h : PT X e t) (w : ∀ σ H Q, t' σ H Q → t σ H Q) : PT X e t' := ⟨fun pins s σ H Q I q => h.run pins s σ H Q I (w _ _ _ q)⟩
theorem PA.weak {t t' : TA} (h : PA X es t) (w : ∀ σ H Q, t' σ H Q → t σ H Q) : PA X es t' := ⟨fun k pins s σ H Q I q => h.run k pins s σ H Q I (w _ _ _ q)⟩
theorem PS.weak {s : Stmt} {t t' : TS} (h : PS X s t) (w : ∀ D σ H, t' D σ H → t D σ H) : PS X s t' := ⟨fun pins s σ H D I q => h.run pins s σ H D I (w _ _ _ q)⟩
theorem PSs.weak {s : List Stmt} {t t' : TS} (h : PSs X s t) (w : ∀ D σ H, t' D σ H → t D σ H) : PSs X s t' := ⟨fun pins s σ H D I q => h.run pins s σ H D I (w _ _ _ q)⟩
/-- a reading that only asks where p holds -/
theorem PE.when {p : Prop} {t : TE} (h : p → PE X e t) : PE X e (fun σ H Q => p ∧ t σ H Q) := ⟨fun pins s σ H Q I q => (h q.1).run pins s σ H Q I q.2⟩
theorem PT.when {p : Prop} {t : TT} (h : p → PT X e t) : PT X e (fun σ H Q => p ∧ t σ H Q) := ⟨fun pins s σ H Q I q => (h q.1).run pins s σ H Q I q.2⟩
theorem PW.when {p : Prop} {t : TT} (h : p → PW X e t) : PW X e (fun σ H Q => p ∧ t σ H Q) := ⟨fun k pins s σ H Q I q => (h q.1).run k pins s σ H Q I q.2⟩
theorem PSs.when {s : List Stmt} {p : Prop} {t : TS} (h : p → PSs X s t) : PSs X s (fun D σ H => p ∧ t D σ H) := ⟨fun pins s σ H D I q => (h q.1).run pins s σ H D I q.2⟩
theorem PSs.exi {ι : Sort _} {s : List Stmt} {t : ι → TS} (h : ∀ i, PSs X s (t i)) : PSs X s (fun D σ H => ∃ i, t i D σ H) := ⟨fun pins s σ H D I ⟨i, q⟩ => (h i).run pins s σ H D I q⟩
theorem PE.exi {ι : Sort _} {t : ι → TE} (h : ∀ i, PE X e (t i)) : PE X e (fun σ H Q => ∃ i, t i σ H Q) := ⟨fun pins s σ H Q I ⟨i, q⟩ => (h i).run pins s σ H Q I q⟩
theorem PT.exi {ι : Sort _} {t : ι → TT} (h : ∀ i, PT X e (t i)) : PT X e (fun σ H Q => ∃ i, t i σ H Q) := ⟨fun pins s σ H Q I ⟨i, q⟩ => (h i).run pins s σ H Q I q⟩
theorem ok_var {i : Nat} (h : PE X e (tVar i)) (g : Γ[i]? = some (.d x)) : Ok X B e Γ x := PE.weak h fun σ H Q ⟨F, w, k⟩ => by
  obtain ⟨v, e, r⟩ := w.slot g
  exact ⟨v, e, k v F H w (Gr.refl _ _) r⟩
theorem ok_c {v : V} (h : PE X e (tC v)) (r : ∀ K F, Rep K F v x) : Ok X B e Γ x := PE.weak h fun σ H Q ⟨F, w, k⟩ => k v F H w (Gr.refl _ _) (r _ _)
theorem ok_int {i : Int} {j : Nat} : Ok X B (.Constant (.int i) j pos) Γ (.int i) := ok_c pe_int fun _ _ => .int i
theorem ok_str {s : Str} {j : Nat} : Ok X B (.Constant (.str s) j pos) Γ (.str s) := ok_c pe_str fun _ _ => .str s
theorem ok_bl {s : Bool} {j : Nat} : Ok X B (.Constant (.bool s) j pos) Γ (.bl s) := ok_c pe_bl fun _ _ => .bl s
theorem ok_non {j : Nat} : Ok X B (.Constant .none j pos) Γ .non := ok_c pe_non fun _ _ => .non
/-- what a two-place rule gives -/
def R2T (K : PySem.W.Frag) (r : R2) (x y z : D) : Prop := ∀ F H, Same F H → ∀ v w, Rep K F v x → Rep K F w y → ∀ Q : VK, (∀ u F' H', Gr F H F' H' → Same F' H' → Rep K F' u z → Q u H') → r v w H Q
theorem ev_op {r : R2} (ho : ∀ {ta tb : TE}, PE X a ta → PE X b tb → PE X e (tOp r ta tb)) (ha : Ok X B a Γ x) (hb : Ok X B b Γ y) (h : R2T X.K r x y z) : Ok X B e Γ z := PE.weak (ho ha hb) fun σ H Q ⟨F, w, k⟩ =>
  ⟨F, w, fun v F1 H1 w1 g1 r1 => ⟨F1, w1, fun u F2 H2 w2 g2 r2 => h F2 H2 w2.fh v u (r1.mono g2.f) r2 Q fun q F3 H3 g3 fh r3 => k q F3 H3 (w2.gr g3 fh) ((g1.trans g2).trans g3) r3⟩⟩
theorem r2_val {K : PySem.W.Frag} {r : R2} (h : ∀ F H, Same F H → ∀ v w, Rep K F v x → Rep K F w y → ∀ Q : VK, (∀ u, (∀ F, Rep K F u z) → Q u H) → r v w H Q) : R2T K r x y z := fun F H fh v w rv rw Q q => h F H fh v w rv rw Q fun u ru => q u F H (Gr.refl _ _) fh (ru F)
end
end Tr
/-! ### the rules for expressions -/
namespace Tr
open PySem PySem.Spec PyProof.Rows L2 SX
abbrev D.tx (z : List Nat) : D := .str (S z)
theorem sz5 {n : Nat} (h : n ≤ 100000) : n ≤ sizeLine := Nat.le_trans h (by decide)
theorem sz5' {n : Nat} (h : n < 100000) : n < sizeLine := Nat.lt_of_lt_of_le h (by decide)
theorem lenS (a : List Nat) : (S a).length = a.length := S_len a
theorem cpsS (z : List Nat) : (S z).cps.toList = z := by
  show z.toArray.toList = z
  simp
section
variable {K : PySem.W.Frag} {F H : Hp}
theorem r2_i {g : Int → Int → V} {z : D} {i j : Int} (h : ∀ F, Rep K F (g i j) z) : R2T K (rI0 g) (.int i) (.int j) z := r2_val fun F H fh v w rv rw Q q => by
  cases rv; cases rw
  exact ⟨i, j, rfl, rfl, q _ h⟩
theorem r2_iC {C : Int → Int → Prop} {g : Int → Int → V} {z : D} {i j : Int} (c : C i j) (h : ∀ F, Rep K F (g i j) z) : R2T K (rI C g) (.int i) (.int j) z := r2_val fun F H fh v w rv rw Q q => by
  cases rv; cases rw
  exact ⟨i, j, rfl, rfl, c, q _ h⟩
theorem dec_tx {y z : List Nat} : decide (V.str (S y) = V.str (S z)) = decide (y = z) := decide_eq_decide.mpr ⟨fun h => S_inj (V.str.inj h), fun h => by rw [h]⟩
theorem dec_i {i j : Int} : decide (V.int i = V.int j) = decide (i = j) := decide_eq_decide.mpr ⟨fun h => V.int.inj h, fun h => by rw [h]⟩
theorem dec_b {i j : Bool} : decide (V.bl i = V.bl j) = decide (i = j) := decide_eq_decide.mpr ⟨fun h => V.bl.inj h, fun h => by rw [h]⟩
end
section
variable {X : Cx} {B : Hp × Hp} {Γ : Env} {e a b c : Expr} {es rest : List Expr} {x y z : D} {pos apos : Pos} {i j : Int} {p q : Bool} {u w : List Nat}
theorem ok_tx {s : Str} {j : Nat} {z : List Nat} (h : s = S z) : Ok X B (.Constant (.str s) j pos) Γ (.tx z) := by
  subst h
  exact ok_str
theorem ok_glob {x : Str} {v : V} {d : D} {g : Value} (hg : Gl X x) (hm : X.mg x = some g) (r : RelV v g) (h : ∀ K F, Rep K F v d) (hd : (x == ("__debug__" : Str)) = false := by decide) : Ok X B (.Name x pos) Γ d := ok_c (pe_glob hg hm r hd) h
/-! numbers -/
theorem t_add (ha : Ok X B a Γ (.int i)) (hb : Ok X B b Γ (.int j)) : Ok X B (.BinOp a .Add b pos) Γ (.int (i + j)) := ev_op (fun p q => pe_op op_add p q) ha hb (r2_i fun _ => .int _)
theorem t_sub (ha : Ok X B a Γ (.int i)) (hb : Ok X B b Γ (.int j)) : Ok X B (.BinOp a .Sub b pos) Γ (.int (i - j)) := ev_op (fun p q => pe_op op_sub p q) ha hb (r2_i fun _ => .int _)
theorem t_mul (ha : Ok X B a Γ (.int i)) (hb : Ok X B b Γ (.int j)) (c : CMul i j) : Ok X B (.BinOp a .Mult b pos) Γ (.int (i * j)) := ev_op (fun p q => pe_op op_mul p q) ha hb (r2_iC c fun _ => .int _)
theorem t_mod (ha : Ok X B a Γ (.int i)) (hb : Ok X B b Γ (.int j)) (c : 0 < j) : Ok X B (.BinOp a .Mod b pos) Γ (.int (i % j)) := ev_op (fun p q => pe_op op_mod p q) ha hb (r2_iC c fun _ => .int _)
theorem t_fdiv (ha : Ok X B a Γ (.int i)) (hb : Ok X B b Γ (.int j)) (c : CDiv i j) : Ok X B (.BinOp a .FloorDiv b pos) Γ (.int (i / j)) := ev_op (fun p q => pe_op op_fdiv p q) ha hb (r2_iC c fun _ => .int _)
theorem t_lt (ha : Ok X B a Γ (.int i)) (hb : Ok X B b Γ (.int j)) : Ok X B (.Compare a [.Lt] [b] pos) Γ (.bl (decide (i < j))) := ev_op (fun p q => pe_cmpR op_lt p q (nomark _)) ha hb (r2_i fun _ => .bl _)
theorem t_le (ha : Ok X B a Γ (.int i)) (hb : Ok X B b Γ (.int j)) : Ok X B (.Compare a [.LtE] [b] pos) Γ (.bl (decide (i ≤ j))) := ev_op (fun p q => pe_cmpR op_le p q (nomark _)) ha hb (r2_i fun _ => .bl _)
theorem t_gt (ha : Ok X B a Γ (.int i)) (hb : Ok X B b Γ (.int j)) : Ok X B (.Compare a [.Gt] [b] pos) Γ (.bl (decide (j < i))) := ev_op (fun p q => pe_cmpR op_gt p q (nomark _)) ha hb (r2_i fun _ => .bl _)
theorem t_ge (ha : Ok X B a Γ (.int i)) (hb : Ok X B b Γ (.int j)) : Ok X B (.Compare a [.GtE] [b] pos) Γ (.bl (decide (j ≤ i))) := ev_op (fun p q => pe_cmpR op_ge p q (nomark _)) ha hb (r2_i fun _ => .bl _)
theorem t_neg (ha : Ok X B a Γ (.int i)) : Ok X B (.UnaryOp .USub a pos) Γ (.int (-i)) := PE.weak (pe_un un_neg ha) fun σ H Q ⟨F, w, k⟩ => ⟨F, w, fun v F1 H1 w1 g1 r1 => by
  cases r1
  exact ⟨i, rfl, k _ F1 H1 w1 g1 (.int _)⟩⟩
/-! equal: numbers, texts, bools -/
theorem r2_eqI {K : PySem.W.Frag} : R2T K rEq (.int i) (.int j) (.bl (decide (i = j))) := r2_val fun F H fh v w rv rw Q q => by
  cases rv; cases rw
  exact ⟨rfl, by rw [dec_i]; exact q _ fun _ => .bl _⟩
theorem r2_eqS {K : PySem.W.Frag} : R2T K rEq (.tx u) (.tx w) (.bl (decide (u = w))) := r2_val fun F H fh v w rv rw Q q => by
  cases rv; cases rw
  exact ⟨rfl, by rw [dec_tx]; exact q _ fun _ => .bl _⟩
theorem r2_eqB {K : PySem.W.Frag} : R2T K rEq (.bl p) (.bl q) (.bl (decide (p = q))) := r2_val fun F H fh v w rv rw Q q => by
  cases rv; cases rw
  exact ⟨rfl, by rw [dec_b]; exact q _ fun _ => .bl _⟩
theorem r2_neI {K : PySem.W.Frag} : R2T K rNe (.int i) (.int j) (.bl (!decide (i = j))) := r2_val fun F H fh v w rv rw Q q => by
  cases rv; cases rw
  exact ⟨rfl, by rw [dec_i]; exact q _ fun _ => .bl _⟩
theorem r2_neS {K : PySem.W.Frag} : R2T K rNe (.tx u) (.tx w) (.bl (!decide (u = w))) := r2_val fun F H fh v w rv rw Q q => by
  cases rv; cases rw
  exact ⟨rfl, by rw [dec_tx]; exact q _ fun _ => .bl _⟩
theorem r2_neB {K : PySem.W.Frag} : R2T K rNe (.bl p) (.bl q) (.bl (!decide (p = q))) := r2_val fun F H fh v w rv rw Q q => by
  cases rv; cases rw
  exact ⟨rfl, by rw [dec_b]; exact q _ fun _ => .bl _⟩
theorem t_eq {d : D} (ha : Ok X B a Γ x) (hb : Ok X B b Γ y) (h : R2T X.K rEq x y d) : Ok X B (.Compare a [.Eq] [b] pos) Γ d := ev_op (fun p q => pe_cmpR op_eq p q (nomark _)) ha hb h
theorem t_ne {d : D} (ha : Ok X B a Γ x) (hb : Ok X B b Γ y) (h : R2T X.K rNe x y d) : Ok X B (.Compare a [.NotEq] [b] pos) Γ d := ev_op (fun p q => pe_cmpR op_ne p q (nomark _)) ha hb h
theorem t_isN (ha : Ok X B a Γ .non) (hb : Ok X B b Γ .non) : Ok X B (.Compare a [.Is] [b] pos) Γ (.bl true) := ev_op (fun p q => pe_cmpR op_isN p q (nomark _)) ha hb (r2_val fun F H fh v w rv rw Q q => by
  cases rv; cases rw
  exact ⟨rfl, q _ fun _ => .bl _⟩)
/-! texts -/
theorem t_addS (ha : Ok X B a Γ (.tx u)) (hb : Ok X B b Γ (.tx w)) (l : u.length + w.length ≤ 100000) : Ok X B (.BinOp a .Add b pos) Γ (.tx (u ++ w)) := ev_op (fun p q => pe_op op_add_str p q) ha hb (r2_val fun F H fh v w' rv rw Q q => by
  cases rv; cases rw
  refine ⟨_, _, rfl, rfl, by rw [lenS, lenS]; exact sz5 l, ?_⟩
  rw [S_cat]
  exact q _ fun _ => .str _)
theorem t_inS {n : Nat} (ha : Ok X B a Γ (.tx [n])) (hb : Ok X B b Γ (.tx w)) (hm : behindInMarks .In b = false) : Ok X B (.Compare a [.In] [b] pos) Γ (.bl (decide (n ∈ w))) := ev_op (fun p q => pe_cmpR op_in_sign p q hm) ha hb (r2_val fun F H fh v w' rv rw Q q => by
  cases rv; cases rw
  refine ⟨n, S w, rfl, rfl, ?_⟩
  rw [cpsS]
  exact q _ fun _ => .bl _)
theorem t_notInS {n : Nat} (ha : Ok X B a Γ (.tx [n])) (hb : Ok X B b Γ (.tx w)) (hm : behindInMarks .NotIn b = false) : Ok X B (.Compare a [.NotIn] [b] pos) Γ (.bl (!decide (n ∈ w))) := ev_op (fun p q => pe_cmpR op_notIn_sign p q hm) ha hb (r2_val fun F H fh v w' rv rw Q q => by
  cases rv; cases rw
  refine ⟨n, S w, rfl, rfl, ?_⟩
  rw [cpsS]
  exact q _ fun _ => .bl _)
/-! items -/
theorem atR {K : PySem.W.Frag} {F : Hp} {vs : List V} {ds : List D} {i : Int} {d : D} (r : Reps K F vs ds) (h : atI ds i = some d) : ∃ v, atI vs i = some v ∧ Rep K F v d := by
  unfold atI at h ⊢
  rw [r.length]
  cases e : ixN ds.length i with
  | none => rw [e] at h; cases h
  | some j =>
    rw [e] at h
    exact r.at h
theorem t_ixL {ds : List D} (ha : Ok X B a Γ (.lst ds)) (hb : Ok X B b Γ (.int i)) (h : atI ds i = some x) (hs : PlainIx b) : Ok X B (.Subscript a b pos) Γ x := ev_op (fun p q => pe_ix ix_list p q hs) ha hb fun F H fh v w rv rw Q q => by
  cases rw
  cases rv with
  | lst hp r =>
    obtain ⟨v, e, rv⟩ := atR r h
    exact ⟨_, _, i, v, rfl, rfl, tofl (fh _ _ hp), e, q v F H (Gr.refl _ _) fh rv⟩
theorem t_ixT {ds : List D} (ha : Ok X B a Γ (.tup ds)) (hb : Ok X B b Γ (.int i)) (h : atI ds i = some x) (hs : PlainIx b) : Ok X B (.Subscript a b pos) Γ x := ev_op (fun p q => pe_ix ix_tup p q hs) ha hb fun F H fh v w rv rw Q q => by
  cases rw
  cases rv with
  | tup hp r =>
    obtain ⟨v, e, rv⟩ := atR r h
    exact ⟨_, _, i, v, rfl, rfl, toft (fh _ _ hp), e, q v F H (Gr.refl _ _) fh rv⟩
theorem t_ixS {n : Nat} (ha : Ok X B a Γ (.tx u)) (hb : Ok X B b Γ (.int i)) (l : u.length ≤ 100000) (h : atI u i = some n) (hs : PlainIx b) : Ok X B (.Subscript a b pos) Γ (.tx [n]) := ev_op (fun p q => pe_ix ix_str p q hs) ha hb (r2_val fun F H fh v w rv rw Q q => by
  cases rv; cases rw
  exact ⟨_, i, n, rfl, rfl, by rw [lenS]; exact sz5 l, by rw [cpsS]; exact h, q _ fun _ => .str _⟩)
/-! arguments, displays -/
theorem a_nil : OkA X B [] Γ [] := PA.weak pa_nil fun σ H Q ⟨F, w, k⟩ => k [] F H w (Gr.refl _ _) .nil
theorem a_cons {ds : List D} (ha : Ok X B e Γ x) (hr : OkA X B es Γ ds) (hs : starEach (e :: es) X.env = (false, eval e X.env) :: starEach es X.env := by rfl) : OkA X B (e :: es) Γ (x :: ds) := PA.weak (pa_cons ha hr hs) fun σ H Q ⟨F, w, k⟩ =>
  ⟨F, w, fun v F1 H1 w1 g1 r1 => ⟨F1, w1, fun vs F2 H2 w2 g2 r2 => k (v :: vs) F2 H2 w2 (g1.trans g2) (.cons (r1.mono g2.f) r2)⟩⟩
theorem t_tup {x1} {ds : List D} (h : OkA X B es Γ ds) (l : ds.length ≤ 100000) : Ok X B (.Tuple es x1 pos) Γ (.tup ds) := PE.weak (pe_tup h) fun σ H Q ⟨F, w, k⟩ => ⟨F, w, fun vs F1 H1 w1 g1 r1 =>
  ⟨by rw [r1.length]; exact sz5 l, fun p n => k _ (upd F1 p (.tup vs)) _ (w1.gr (Gr.new w1.fh n) (same_both w1.fh)) (g1.trans (Gr.new w1.fh n)) (.tup upd_same (r1.mono (Gr.new (o := .tup vs) w1.fh n).f))⟩⟩
theorem t_lst {ds : List D} (h : OkA X B es Γ ds) (l : ds.length ≤ 100000) : Ok X B (.List es pos) Γ (.lst ds) := PE.weak (pe_lst h) fun σ H Q ⟨F, w, k⟩ => ⟨F, w, fun vs F1 H1 w1 g1 r1 =>
  ⟨by rw [r1.length]; exact sz5 l, fun p n => k _ (upd F1 p (.lst vs)) _ (w1.gr (Gr.new w1.fh n) (same_both w1.fh)) (g1.trans (Gr.new w1.fh n)) (.lst upd_same (r1.mono (Gr.new (o := .lst vs) w1.fh n).f))⟩⟩
theorem t_cat {ds fs : List D} (ha : Ok X B a Γ (.lst ds)) (hb : Ok X B b Γ (.lst fs)) (l : ds.length + fs.length ≤ 100000) : Ok X B (.BinOp a .Add b pos) Γ (.lst (ds ++ fs)) := ev_op (fun p q => pe_op op_cat p q) ha hb fun F H fh v w rv rw Q q => by
  cases rv with
  | @lst _ vs1 _ h1 r1 =>
    cases rw with
    | @lst _ vs2 _ h2 r2 =>
      refine ⟨_, _, _, _, rfl, rfl, fh _ _ h1, fh _ _ h2, by rw [r1.length, r2.length]; exact sz5 l, fun p n => ?_⟩
      have g := Gr.new (o := .lst (vs1 ++ vs2)) fh n
      exact q _ _ _ g (same_both fh) (.lst upd_same ((r1.append r2).mono g.f))
/-! tests; and, or, not -/
theorem o_val (h : Ok X B e Γ (.bl p)) (he : ∀ whole, isTrue e X.env whole = (do let v ← whole; standAt e.pos; holding [v] (truthy v)) := by intro _; rfl) : OkT X B e Γ p := PT.weak (pt_val h he) fun σ H Q ⟨F, w, k⟩ => ⟨F, w, fun v F1 H1 w1 g1 r1 => by
  cases r1
  exact ⟨p, rfl, k F1 H1 w1 g1⟩⟩
theorem o_not (h : OkT X B a Γ p) : OkT X B (.UnaryOp .Not a pos) Γ (!p) := PT.weak (pt_not h) fun σ H Q ⟨F, w, k⟩ => ⟨F, w, fun F1 H1 w1 g1 => k F1 H1 w1 g1⟩
abbrev OkW (X : Cx) (B : Hp × Hp) (e : Expr) (Γ : Env) (b : Bool) : Prop := PW X e (tEvT X.K B Γ b)
theorem o_w (h : OkW X B e Γ p) : OkT X B e Γ p := h.pt
theorem w_and1 (h : OkT X B a Γ p) : OkW X B (.BoolOp .And [a] pos) Γ p := pw_and1 h
theorem w_or1 (h : OkT X B a Γ p) : OkW X B (.BoolOp .Or [a] pos) Γ p := pw_or1 h
theorem PW.weak {t t' : TT} (h : PW X e t) (w : ∀ σ H Q, t' σ H Q → t σ H Q) : PW X e t' := ⟨fun k pins s σ H Q I q => h.run k pins s σ H Q I (w _ _ _ q)⟩
theorem w_and (ha : OkT X B a Γ p) (hb : p = true → OkW X B (.BoolOp .And (b :: rest) pos) Γ q) : OkW X B (.BoolOp .And (a :: b :: rest) pos) Γ (p && q) := PW.weak (pw_and ha (PW.when hb)) fun σ H Q ⟨F, w, k⟩ => ⟨F, w, fun F1 H1 w1 g1 => by
  cases p with
  | true => exact iteT ⟨rfl, F1, w1, fun F2 H2 w2 g2 => k F2 H2 w2 (g1.trans g2)⟩
  | false => exact iteF (k F1 H1 w1 g1)⟩
theorem w_or (ha : OkT X B a Γ p) (hb : p = false → OkW X B (.BoolOp .Or (b :: rest) pos) Γ q) : OkW X B (.BoolOp .Or (a :: b :: rest) pos) Γ (p || q) := PW.weak (pw_or ha (PW.when hb)) fun σ H Q ⟨F, w, k⟩ => ⟨F, w, fun F1 H1 w1 g1 => by
  cases p with
  | true => exact iteT (k F1 H1 w1 g1)
  | false => exact iteF ⟨rfl, F1, w1, fun F2 H2 w2 g2 => k F2 H2 w2 (g1.trans g2)⟩⟩
theorem v_one {op} (h : Ok X B a Γ x) : Ok X B (.BoolOp op [a] pos) Γ x := pe_one h
theorem v_and (ha : Ok X B a Γ (.bl p)) (hb : p = true → Ok X B (.BoolOp .And (b :: rest) pos) Γ (.bl q)) : Ok X B (.BoolOp .And (a :: b :: rest) pos) Γ (.bl (p && q)) := PE.weak (pe_and ha (PE.when hb)) fun σ H Q ⟨F, w, k⟩ => ⟨F, w, fun v F1 H1 w1 g1 r1 => by
  cases r1
  refine ⟨p, rfl, ?_⟩
  cases p with
  | true => exact iteT ⟨rfl, F1, w1, fun v F2 H2 w2 g2 r2 => k v F2 H2 w2 (g1.trans g2) r2⟩
  | false => exact iteF (k _ F1 H1 w1 g1 (.bl _))⟩
theorem v_or (ha : Ok X B a Γ (.bl p)) (hb : p = false → Ok X B (.BoolOp .Or (b :: rest) pos) Γ (.bl q)) : Ok X B (.BoolOp .Or (a :: b :: rest) pos) Γ (.bl (p || q)) := PE.weak (pe_or ha (PE.when hb)) fun σ H Q ⟨F, w, k⟩ => ⟨F, w, fun v F1 H1 w1 g1 r1 => by
  cases r1
  refine ⟨p, rfl, ?_⟩
  cases p with
  | true => exact iteT (k _ F1 H1 w1 g1 (.bl _))
  | false => exact iteF ⟨rfl, F1, w1, fun v F2 H2 w2 g2 r2 => k v F2 H2 w2 (g1.trans g2) r2⟩⟩
theorem v_not (h : Ok X B a Γ (.bl p)) : Ok X B (.UnaryOp .Not a pos) Γ (.bl (!p)) := PE.weak (pe_not h) fun σ H Q ⟨F, w, k⟩ => ⟨F, w, fun v F1 H1 w1 g1 r1 => by
  cases r1
  exact ⟨p, rfl, k _ F1 H1 w1 g1 (.bl _)⟩⟩
theorem t_if {y' : D} (hc : OkT X B c Γ p) (ha : p = true → Ok X B a Γ y) (hb : p = false → Ok X B b Γ y') : Ok X B (.IfExp c a b pos) Γ (bif p then y else y') := PE.weak (pe_ifExp hc (PE.when ha) (PE.when hb)) fun σ H Q ⟨F, w, k⟩ => ⟨F, w, fun F1 H1 w1 g1 => by
  cases p with
  | true => exact iteT ⟨rfl, F1, w1, fun v F2 H2 w2 g2 r2 => k v F2 H2 w2 (g1.trans g2) r2⟩
  | false => exact iteF ⟨rfl, F1, w1, fun v F2 H2 w2 g2 r2 => k v F2 H2 w2 (g1.trans g2) r2⟩⟩
theorem ok_as {d d' : D} (h : Ok X B e Γ d) (q : d = d') : Ok X B e Γ d' := q ▸ h
theorem o_as (h : OkT X B e Γ p) (e2 : p = q) : OkT X B e Γ q := e2 ▸ h
/-! built-ins -/
def RCT (K : PySem.W.Frag) (r : List V → Hp → VK → Prop) (ds : List D) (z : D) : Prop := ∀ F H, Same F H → ∀ vs, Reps K F vs ds → ∀ Q : VK, (∀ u F' H', Gr F H F' H' → Same F' H' → Rep K F' u z → Q u H') → r vs H Q
theorem t_cb {r : List V → Hp → VK → Prop} {ds : List D} (ho : ∀ {t : TA}, PA X es t → PE X e (tCB r t)) (ha : OkA X B es Γ ds) (h : RCT X.K r ds z) : Ok X B e Γ z := PE.weak (ho ha) fun σ H Q ⟨F, w, k⟩ =>
  ⟨F, w, fun vs F1 H1 w1 g1 r1 => h F1 H1 w1.fh vs r1 Q fun u F2 H2 g2 fh r2 => k u F2 H2 (w1.gr g2 fh) (g1.trans g2) r2⟩
def RMT (K : PySem.W.Frag) (r : V → List V → Hp → VK → Prop) (x : D) (ds : List D) (z : D) : Prop := ∀ F H, Same F H → ∀ v vs, Rep K F v x → Reps K F vs ds → ∀ Q : VK, (∀ u F' H', Gr F H F' H' → Same F' H' → Rep K F' u z → Q u H') → r v vs H Q
theorem t_bm {r : V → List V → Hp → VK → Prop} {T : String} {ds : List D} {o : Expr} (ho : ∀ {to : TE} {t : TA}, PE X o to → PA X es t → PE X e (tBM X.K T r to t)) (hx : Ok X B o Γ x) (ha : OkA X B es Γ ds) (ty : ∀ F H v, Same F H → Rep X.K F v x → tyV X.K T v H) (h : RMT X.K r x ds z) : Ok X B e Γ z :=
  PE.weak (ho hx ha) fun σ H Q ⟨F, w, k⟩ => ⟨F, w, fun v F1 H1 w1 g1 r1 => ⟨ty F1 H1 v w1.fh r1, F1, w1, fun vs F2 H2 w2 g2 r2 => h F2 H2 w2.fh v vs (r1.mono g2.f) r2 Q fun u F3 H3 g3 fh r3 => k u F3 H3 (w2.gr g3 fh) ((g1.trans g2).trans g3) r3⟩⟩
theorem ty_str {K : PySem.W.Frag} {s : Str} : ∀ F H v, Same F H → Rep K F v (.str s) → tyV K "str" v H := fun F H v _ r => by
  cases r
  rfl
def rLen (K : PySem.W.Frag) : List V → Hp → VK → Prop := fun xs H Q => ∃ p ys, xs = [.ref p] ∧ (SqL K H p ys ∨ SqT K H p ys) ∧ Q (.int ys.length) H
theorem rc_len {K : PySem.W.Frag} {ds : List D} : RCT K (rLen K) [.lst ds] (.int (ds.length : Int)) := fun F H fh vs r Q q => by
  cases r with
  | cons h r =>
    cases r
    cases h with
    | lst h r => exact ⟨_, _, rfl, .inl (tofl (fh _ _ h)), by rw [r.length]; exact q _ F H (Gr.refl _ _) fh (.int _)⟩
theorem rc_lenT {K : PySem.W.Frag} {ds : List D} : RCT K (rLen K) [.tup ds] (.int (ds.length : Int)) := fun F H fh vs r Q q => by
  cases r with
  | cons h r =>
    cases r
    cases h with
    | tup h r => exact ⟨_, _, rfl, .inr (toft (fh _ _ h)), by rw [r.length]; exact q _ F H (Gr.refl _ _) fh (.int _)⟩
def rLenS : List V → Hp → VK → Prop := fun xs H Q => ∃ z, xs = [.str z] ∧ z.length ≤ sizeLine ∧ Q (.int z.length) H
theorem rc_lenS {K : PySem.W.Frag} {u : List Nat} (l : u.length ≤ 100000) : RCT K rLenS [.tx u] (.int (u.length : Int)) := fun F H fh vs r Q q => by
  cases r with
  | cons h r =>
    cases r
    cases h
    exact ⟨_, rfl, by rw [lenS]; exact sz5 l, by rw [lenS]; exact q _ F H (Gr.refl _ _) fh (.int _)⟩
def rStrI : List V → Hp → VK → Prop := fun xs H Q => ∃ i, xs = [.int i] ∧ i.natAbs.log2 < 1920 ∧ Q (.str (toString i)) H
theorem rc_strI {K : PySem.W.Frag} {i : Int} {u : List Nat} (l : i.natAbs.log2 < 1920) (e : (toString i : Str) = S u) : RCT K rStrI [.int i] (.tx u) := fun F H fh vs r Q q => by
  cases r with
  | cons h r =>
    cases r
    cases h
    exact ⟨_, rfl, l, by rw [e]; exact q _ F H (Gr.refl _ _) fh (.str _)⟩
def rJoinT (K : PySem.W.Frag) : V → List V → Hp → VK → Prop := fun x xs H Q => ∃ a p, ∃ ys : List Str, x = .str a ∧ xs = [.ref p] ∧ (SqL K H p (ys.map V.str) ∨ SqT K H p (ys.map V.str)) ∧ (ys.map (·.length)).sum + ys.length * a.length ≤ 16777216 ∧ Q (.str (Txt.join a ys)) H
theorem sum_len : ∀ (zs : List (List Nat)) (m : Nat), (∀ z ∈ zs, z.length ≤ m) → ((zs.map S).map (·.length)).sum ≤ zs.length * m
  | [], m, _ => by simp
  | z :: zs, m, h => by
    have e := sum_len zs m fun y hy => h y (List.mem_cons_of_mem _ hy)
    have l := h z List.mem_cons_self
    rw [List.map_cons, List.map_cons, List.sum_cons, List.length_cons, Nat.succ_mul, lenS]
    omega
theorem rm_join {K : PySem.W.Frag} {u : List Nat} {zs : List (List Nat)} (m : Nat) (h : ∀ z ∈ zs, z.length ≤ m) (l : zs.length * (m + u.length) ≤ 16777216) : RMT K (rJoinT K) (.tx u) [.lst (zs.map D.tx)] (.tx (TL.joinL u zs)) := fun F H fh v vs rv r Q q => by
  cases rv
  cases r with
  | cons h1 r =>
    cases r
    cases h1 with
    | @lst a vs _ h2 r2 =>
      have e : vs = (zs.map S).map V.str := by
        have := Reps.strs (ss := zs.map S) (K := K) (F := F) (vs := vs) (by rw [List.map_map]; exact r2)
        exact this
      subst e
      refine ⟨S u, a, zs.map S, rfl, rfl, .inl (tofl (fh _ _ h2)), ?_, ?_⟩
      · have := sum_len zs m h
        rw [List.length_map, lenS]
        rw [Nat.mul_add] at l
        omega
      · rw [join_S]
        exact q _ F H (Gr.refl _ _) fh (.str _)
/-! slices -/
def OkO (X : Cx) (B : Hp × Hp) (o : Option Expr) (Γ : Env) (i : Option Int) : Prop := PO X o (fun σ H Q => ∃ F, Wd X.K B F H σ Γ ∧ ∀ F' H', Wd X.K B F' H' σ Γ → Gr F H F' H' → Q i H')
theorem PO.weak {o : Option Expr} {t t' : TO} (h : PO X o t) (w : ∀ σ H Q, t' σ H Q → t σ H Q) : PO X o t' := ⟨fun pins s σ H Q I q => h.run pins s σ H Q I (w _ _ _ q)⟩
theorem so_none : OkO X B none Γ none := PO.weak po_none fun σ H Q ⟨F, w, k⟩ => k F H w (Gr.refl _ _)
theorem so_some (h : Ok X B e Γ (.int i)) : OkO X B (some e) Γ (some i) := PO.weak (po_some h) fun σ H Q ⟨F, w, k⟩ => ⟨F, w, fun v F1 H1 w1 g1 r1 => by
  cases r1
  exact ⟨i, rfl, k F1 H1 w1 g1⟩⟩
/-- xs[lo:hi] of trees -/
def cutTr (xs : List D) (lo hi : Option Int) : List D := (xs.drop (HT.sIx xs.length 0 lo)).take (HT.sIx xs.length xs.length hi - HT.sIx xs.length 0 lo)
theorem Reps.cut {K : PySem.W.Frag} {F : Hp} {vs : List V} {ds : List D} (r : Reps K F vs ds) (lo hi : Option Int) : Reps K F (cutV vs lo hi) (cutTr ds lo hi) := by
  unfold cutV cutTr
  rw [r.length]
  exact (r.drop _).take _
theorem t_slL {ds : List D} {lo hi : Option Expr} {l h : Option Int} {p2 : Pos} (he : Ok X B e Γ (.lst ds)) (hl : OkO X B lo Γ l) (hu : OkO X B hi Γ h) : Ok X B (.Subscript e (.Slice lo hi none p2) pos) Γ (.lst (cutTr ds l h)) :=
  PE.weak (pe_slice sl_list he hl hu) fun σ H Q ⟨F, w, k⟩ => ⟨F, w, fun v F1 H1 w1 g1 r1 => ⟨F1, w1, fun F2 H2 w2 g2 => ⟨F2, w2, fun F3 H3 w3 g3 => by
    cases r1 with
    | @lst a vs _ h1 r1 =>
      have h3 := w3.fh _ _ (g3.f _ _ (g2.f _ _ h1))
      refine ⟨a, vs, rfl, tofl h3, fun p n => ?_⟩
      have g := Gr.new (o := .lst (cutV vs l h)) w3.fh n
      exact k _ _ _ (w3.gr g (same_both w3.fh)) (((g1.trans g2).trans g3).trans g) (.lst upd_same (((r1.mono (g2.f.trans g3.f)).cut l h).mono g.f))⟩⟩⟩
theorem t_slS {lo hi : Option Expr} {l h : Option Int} {p2 : Pos} (he : Ok X B e Γ (.tx u)) (hl : OkO X B lo Γ l) (hu : OkO X B hi Γ h) (lu : u.length ≤ 100000) : Ok X B (.Subscript e (.Slice lo hi none p2) pos) Γ (.str (cutS (S u) l h)) :=
  PE.weak (pe_slice sl_str he hl hu) fun σ H Q ⟨F, w, k⟩ => ⟨F, w, fun v F1 H1 w1 g1 r1 => ⟨F1, w1, fun F2 H2 w2 g2 => ⟨F2, w2, fun F3 H3 w3 g3 => by
    cases r1
    exact ⟨S u, rfl, by rw [lenS]; exact sz5 lu, k _ F3 H3 w3 ((g1.trans g2).trans g3) (.str _)⟩⟩⟩⟩
end
end Tr
/-! ### calls, objects, statements -/
namespace Tr
open PySem PySem.Spec PyProof.Rows L2 SX
/-! promises of defs, by trees -/
def spT (K : PySem.W.Frag) (ds : List D) (d : D) : Sp := fun vs H Q _ => ∃ F, Same F H ∧ Reps K F vs ds ∧ ∀ v F' H', Gr F H F' H' → Same F' H' → Rep K F' v d → Q v H'
def spG (K : PySem.W.Frag) (G : List D → D → Prop) : Sp := fun vs H Q E => ∃ ds d, G ds d ∧ spT K ds d vs H Q E
section
variable {X : Cx} {B : Hp × Hp} {Γ Γ' : Env} {e a b c o : Expr} {es rest : List Expr} {x y z : D} {pos apos : Pos} {i j : Int} {p q : Bool} {u w : List Nat} {E : XK}
theorem t_call {sp : Sp} {ds : List D} (ho : ∀ {t : TA}, PA X es t → PE X e (tCall sp [] E t)) (ha : OkA X B es Γ ds) (h : ∀ vs H Q, spT X.K ds z vs H Q E → sp vs H Q E) : Ok X B e Γ z := PE.weak (ho ha) fun σ H Q ⟨F, w, k⟩ =>
  ⟨F, w, fun vs F1 H1 w1 g1 r1 => by
    show sp (vs ++ []) H1 Q E
    rw [List.append_nil]
    exact h _ _ _ ⟨F1, w1.fh, r1, fun v F2 H2 g2 fh r2 => k v F2 H2 (w1.gr g2 fh) (g1.trans g2) r2⟩⟩
theorem t_callG {G : List D → D → Prop} {ds : List D} (ho : ∀ {t : TA}, PA X es t → PE X e (tCall (spG X.K G) [] E t)) (ha : OkA X B es Γ ds) (h : G ds z) : Ok X B e Γ z := t_call ho ha fun _ _ _ q => ⟨ds, z, h, q⟩
theorem t_meth {C : Addr} {m : Str} {sp : Sp} {fs : List (Str × D)} {ds : List D} (ho : ∀ {to : TE} {t : TA}, PE X o to → PA X es t → PE X e (tMeth C m sp [] E to t)) (hx : Ok X B o Γ (.obj C fs)) (ha : OkA X B es Γ ds) (nf : fs.lookup m = none)
    (h : ∀ vs H Q, spT X.K (.obj C fs :: ds) z vs H Q E → sp vs H Q E) : Ok X B e Γ z := PE.weak (ho hx ha) fun σ H Q ⟨F, w, k⟩ => ⟨F, w, fun v F1 H1 w1 g1 r1 => by
  cases r1 with
  | obj h1 r1 =>
    refine ⟨_, _, _, rfl, w1.fh _ _ h1, r1.none nf, F1, w1, fun vs F2 H2 w2 g2 r2 => ?_⟩
    show sp (_ :: (vs ++ [])) H2 Q E
    rw [List.append_nil]
    exact h _ _ _ ⟨F2, w2.fh, .cons (.obj (g2.f _ _ h1) (r1.mono g2.f)) r2, fun v F3 H3 g3 fh r3 => k v F3 H3 (w2.gr g3 fh) ((g1.trans g2).trans g3) r3⟩⟩
theorem t_meth0 {C : Addr} {m : Str} {sp : Sp} {fs : List (Str × D)} (ho : ∀ {to : TE}, PE X o to → PE X e (tMeth C m sp [] E to tNil)) (hx : Ok X B o Γ (.obj C fs)) (nf : fs.lookup m = none)
    (h : ∀ vs H Q, spT X.K [.obj C fs] z vs H Q E → sp vs H Q E) : Ok X B e Γ z := PE.weak (ho hx) fun σ H Q ⟨F, w, k⟩ => ⟨F, w, fun v F1 H1 w1 g1 r1 => by
  cases r1 with
  | obj h1 r1 =>
    refine ⟨_, _, _, rfl, w1.fh _ _ h1, r1.none nf, ?_⟩
    exact h _ _ _ ⟨F1, w1.fh, .cons (.obj h1 r1) .nil, fun v F3 H3 g3 fh r3 => k v F3 H3 (w1.gr g3 fh) (g1.trans g3) r3⟩⟩
theorem t_fld {C : Addr} {f : Str} {fs : List (Str × D)} (hx : Ok X B o Γ (.obj C fs)) (c : Cls X.K C) (n : NoAttr X.K C f) (l : fs.lookup f = some z) (hb : attributeBase o f X.env (eval o X.env) = eval o X.env) : Ok X B (.Attribute o f pos) Γ z :=
  PE.weak (pe_fld hx hb) fun σ H Q ⟨F, w, k⟩ => ⟨F, w, fun v F1 H1 w1 g1 r1 => by
    cases r1 with
    | obj h1 r1 =>
      obtain ⟨v, e, rv⟩ := r1.look l
      exact ⟨_, _, _, _, v, rfl, w1.fh _ _ h1, c, n, e, k v F1 H1 w1 g1 rv⟩⟩
theorem t_con {C : Addr} {f : Str} {fs : List (Str × D)} {v : V} {u : Value} (hx : Ok X B o Γ (.obj C fs)) (c : Cls X.K C) (n : Con X.K C f v u) (l : fs.lookup f = none) (r : ∀ F, Rep X.K F v z) (hb : attributeBase o f X.env (eval o X.env) = eval o X.env) : Ok X B (.Attribute o f pos) Γ z :=
  PE.weak (pe_con hx hb) fun σ H Q ⟨F, w, k⟩ => ⟨F, w, fun v' F1 H1 w1 g1 r1 => by
    cases r1 with
    | obj h1 r1 => exact ⟨_, _, _, _, v, u, rfl, w1.fh _ _ h1, c, n, r1.none l, k v F1 H1 w1 g1 (r _)⟩⟩
theorem t_prop {C : Addr} {sp : Sp} {fs : List (Str × D)} (ho : ∀ {to : TE}, PE X o to → PE X e (tProp C sp [] E to)) (hx : Ok X B o Γ (.obj C fs)) (h : ∀ vs H Q, spT X.K [.obj C fs] z vs H Q E → sp vs H Q E) : Ok X B e Γ z :=
  PE.weak (ho hx) fun σ H Q ⟨F, w, k⟩ => ⟨F, w, fun v F1 H1 w1 g1 r1 => by
    cases r1 with
    | obj h1 r1 =>
      refine ⟨_, _, _, rfl, w1.fh _ _ h1, ?_⟩
      exact h _ _ _ ⟨F1, w1.fh, .cons (.obj h1 r1) .nil, fun v F3 H3 g3 fh r3 => k v F3 H3 (w1.gr g3 fh) (g1.trans g3) r3⟩⟩
end
/-! ### statements -/
inductive Out where
  | nx (Γ : Env)
  | rt (d : D)
structure Wb (B : Hp × Hp) (F H : Hp) : Prop where
  ff : Same B.1 F
  hh : Same B.2 H
  fh : Same F H
  ex : ∀ a o, B.2 a = some o → B.1 a = none → F a = none
theorem Wd.b {K : PySem.W.Frag} {B : Hp × Hp} {F H : Hp} {σ : L2.St} {Γ : Env} (w : Wd K B F H σ Γ) : Wb B F H := ⟨w.ff, w.hh, w.fh, w.ex⟩
def after (K : PySem.W.Frag) (B : Hp × Hp) (D : Ends) : Out → Prop
  | .nx Γ => ∀ σ F H, Wd K B F H σ Γ → D.nx σ H
  | .rt d => ∀ v F H, Wb B F H → Rep K F v d → D.rt v H
def tSt (K : PySem.W.Frag) (B : Hp × Hp) (Γ : Env) (o : Out) : TS := fun D σ H => ∃ F, Wd K B F H σ Γ ∧ after K B D o
abbrev OkS (X : Cx) (B : Hp × Hp) (s : Stmt) (Γ : Env) (o : Out) : Prop := PS X s (tSt X.K B Γ o)
abbrev OkSs (X : Cx) (B : Hp × Hp) (s : List Stmt) (Γ : Env) (o : Out) : Prop := PSs X s (tSt X.K B Γ o)
theorem after.imp {K : PySem.W.Frag} {B : Hp × Hp} {D D' : Ends} {o : Out} (h : after K B D o) (n : ∀ Γ, o = .nx Γ → ∀ σ F H, Wd K B F H σ Γ → D'.nx σ H) (r : D'.rt = D.rt) : after K B D' o := by
  cases o with
  | nx Γ => exact n Γ rfl
  | rt d => intro v F H w q; rw [r]; exact h v F H w q
section
variable {X : Cx} {B : Hp × Hp} {Γ Γ' Γ1 : Env} {e a b c o : Expr} {es rest : List Expr} {x y z d : D} {pos pos' apos : Pos} {p q : Bool} {s : Stmt} {r ss : List Stmt} {ou : Out} {i : Nat}
theorem s_nil : OkSs X B [] Γ (.nx Γ) := PSs.weak pss_nil fun D σ H ⟨F, w, k⟩ => k σ F H w
theorem s_cons (h : OkS X B s Γ (.nx Γ1)) (hr : OkSs X B r Γ1 ou) : OkSs X B (s :: r) Γ ou := PSs.weak (pss_cons h hr) fun D σ H ⟨F, w, k⟩ => ⟨F, w, fun σ' F' H' w' => ⟨F', w', k⟩⟩
theorem s_one (h : OkS X B s Γ ou) : OkSs X B [s] Γ ou := pss_one h
theorem s_ret (h : Ok X B e Γ d) : OkS X B (.Return (some e) pos) Γ (.rt d) := PS.weak (ps_ret h) fun D σ H ⟨F, w, k⟩ => ⟨F, w, fun v F' H' w' g r => k v F' H' w'.b r⟩
theorem Wd.set {K : PySem.W.Frag} {F H : Hp} {σ : L2.St} {v : V} (w : Wd K B F H σ Γ) (r : Rep K F v d) : Wd K B F H (σ.set i (some v)) (Γ.set i (.d d)) := by
  refine ⟨w.ff, w.hh, w.fh, w.ex, by rw [List.length_set, List.length_set, w.len], fun j o s h1 h2 => ?_, fun j k p xs ys ne h1 h2 h3 h4 => ?_⟩
  · rw [List.getElem?_set] at h1 h2
    by_cases e : i = j
    · rw [if_pos e] at h1 h2
      split at h1
      · split at h2
        · cases h1; cases h2
          exact ⟨v, rfl, r⟩
        · cases h2
      · cases h1
    · rw [if_neg e] at h1 h2
      exact w.sl j o s h1 h2
  · rw [List.getElem?_set] at h1 h2 h3 h4
    have nj : i ≠ j := fun e => by
      rw [if_pos e] at h3
      split at h3 <;> cases h3
    have nk : i ≠ k := fun e => by
      rw [if_pos e] at h4
      split at h4 <;> cases h4
    rw [if_neg nj] at h1 h3
    rw [if_neg nk] at h2 h4
    exact w.dj j k p xs ys ne h1 h2 h3 h4
theorem s_set (ho : ∀ {t : TE}, PE X e t → PS X s (tAsg t (gName i))) (h : Ok X B e Γ d) : OkS X B s Γ (.nx (Γ.set i (.d d))) := PS.weak (ho h) fun D σ H ⟨F, w, k⟩ => ⟨F, w, fun v F' H' w' g r => k _ F' H' (w'.set r)⟩
/-- a new list of the def's own -/
theorem Wd.setOwn {K : PySem.W.Frag} {F H : Hp} {σ : L2.St} {p : Addr} {ho : HO} {ds : Ow} (w : Wd K B F H σ Γ) (n : H p = none) (r : OwR K F p ho ds) : Wd K B F (upd H p ho) (σ.set i (some (.ref p))) (Γ.set i (.own ds)) := by
  have sp := sup (o := ho) n
  refine ⟨w.ff, w.hh.trans sp, w.fh.trans sp, w.ex, by rw [List.length_set, List.length_set, w.len], fun j o s h1 h2 => ?_, fun j k p' xs ys ne h1 h2 h3 h4 => ?_⟩
  · rw [List.getElem?_set] at h1 h2
    by_cases e : i = j
    · rw [if_pos e] at h1 h2
      split at h1
      · split at h2
        · cases h1; cases h2
          exact ⟨p, ho, rfl, w.hh.free n, w.fh.free n, upd_same, r⟩
        · cases h2
      · cases h1
    · rw [if_neg e] at h1 h2
      have q := w.sl j o s h1 h2
      cases s with
      | no => trivial
      | d x => exact q
      | own xs =>
        obtain ⟨p1, vs1, e1, a1, a2, a3, a4⟩ := q
        exact ⟨p1, vs1, e1, a1, a2, sp _ _ a3, a4⟩
  · rw [List.getElem?_set] at h1 h2 h3 h4
    have old : ∀ (k : Nat) (ys : Ow), σ[k]? = some (some (.ref p)) → Γ[k]? = some (.own ys) → False := fun k ys e1 e2 => by
      obtain ⟨p1, vs1, e3, a1, a2, a3, a4⟩ := w.sl k _ _ e1 e2
      cases e3
      rw [n] at a3
      cases a3
    by_cases ej : i = j
    · by_cases ek : i = k
      · exact ne (ej.symm.trans ek)
      · rw [if_pos ej] at h1 h3
        rw [if_neg ek] at h2 h4
        split at h1
        · cases h1
          exact old k ys h2 h4
        · cases h1
    · rw [if_neg ej] at h1 h3
      by_cases ek : i = k
      · rw [if_pos ek] at h2 h4
        split at h2
        · cases h2
          exact old j xs h1 h3
        · cases h2
      · rw [if_neg ek] at h2 h4
        exact w.dj j k p' xs ys ne h1 h2 h3 h4
theorem s_setOwn {ds : List D} (ho : ∀ {t : TA}, PA X es t → PS X s (tAsg (tLst t) (gName i))) (h : OkA X B es Γ ds) (l : ds.length ≤ 100000) : OkS X B s Γ (.nx (Γ.set i (.own (.l ds)))) :=
  PS.weak (ho h) fun D σ H ⟨F, w, k⟩ => ⟨F, w, fun vs F' H' w' g r => ⟨by rw [r.length]; exact sz5 l, fun p n => k _ F' _ (w'.setOwn n (.l r))⟩⟩
theorem Wd.grow {K : PySem.W.Frag} {F H : Hp} {σ : L2.St} {p : Addr} {ho hw : HO} {ds es : Ow} (w : Wd K B F H σ Γ) (hs : σ[i]? = some (some (.ref p))) (hg : Γ[i]? = some (.own ds)) (hp : H p = some ho) (h0 : B.2 p = none) (hF : F p = none) (r : OwR K F p hw es) :
    Wd K B F (upd H p hw) σ (Γ.set i (.own es)) := by
  have sb : ∀ {G : Hp}, G p = none → Same G H → Same G (upd H p hw) := fun n s a o e => by
    rw [upd_ne (ne_of_none e n)]
    exact s _ _ e
  refine ⟨w.ff, sb h0 w.hh, sb hF w.fh, w.ex, by rw [List.length_set, w.len], fun j o s h1 h2 => ?_, fun j k p' xs ys ne h1 h2 h3 h4 => ?_⟩
  · rw [List.getElem?_set] at h2
    by_cases e : i = j
    · rw [if_pos e] at h2
      subst e
      split at h2
      · cases h2
        rw [hs] at h1
        cases h1
        exact ⟨p, hw, rfl, h0, hF, upd_same, r⟩
      · cases h2
    · rw [if_neg e] at h2
      have q := w.sl j o s h1 h2
      cases s with
      | no => trivial
      | d x => exact q
      | own xs =>
        obtain ⟨p1, vs1, e1, a1, a2, a3, a4⟩ := q
        have ne : p1 ≠ p := fun y => by
          subst y
          subst e1
          exact w.dj i j p1 ds xs e hs h1 hg h2
        exact ⟨p1, vs1, e1, a1, a2, by rw [upd_ne ne]; exact a3, a4⟩
  · rw [List.getElem?_set] at h3 h4
    have back : ∀ (m : Nat) (zs : Ow), (if i = m then (if i < Γ.length then some (Sl.own es) else none) else Γ[m]?) = some (.own zs) → ∃ zs', Γ[m]? = some (.own zs') := fun m zs h => by
      by_cases e : i = m
      · subst e
        exact ⟨ds, hg⟩
      · rw [if_neg e] at h
        exact ⟨zs, h⟩
    obtain ⟨xs', h3⟩ := back j xs h3
    obtain ⟨ys', h4⟩ := back k ys h4
    exact w.dj j k p' xs' ys' ne h1 h2 h3 h4
theorem Wd.own {K : PySem.W.Frag} {F H : Hp} {σ : L2.St} {ds : Ow} (w : Wd K B F H σ Γ) (g : Γ[i]? = some (.own ds)) : ∃ p vs, σ[i]? = some (some (.ref p)) ∧ B.2 p = none ∧ F p = none ∧ H p = some vs ∧ OwR K F p vs ds := by
  have li : i < Γ.length := (List.getElem?_eq_some_iff.mp g).1
  have ls : i < σ.length := by rw [w.len]; exact li
  obtain ⟨p, vs, e, r⟩ := w.sl i _ _ (List.getElem?_eq_getElem ls) g
  exact ⟨p, vs, by rw [List.getElem?_eq_getElem ls, e], r⟩
/-- xs.append(e), xs the def's own list -/
theorem s_append {ds : List D} (ho : ∀ {t : TA}, PA X es t → PS X s (tDrop (tBM X.K "list" rAppend (tVar i) t))) (g : Γ[i]? = some (.own (.l ds))) (h : OkA X B es Γ [d]) (l : ds.length < 100000) : OkS X B s Γ (.nx (Γ.set i (.own (.l (ds ++ [d]))))) :=
  PS.weak (ho h) fun D σ H ⟨F, w, k⟩ => by
    obtain ⟨p, ho, e, h0, hF, hp, r⟩ := w.own g
    obtain ⟨vs, rfl, q⟩ := r.lst
    refine ⟨_, e, .inl ⟨rfl, _, tofl hp⟩, F, w, fun ws F1 H1 w1 g1 r1 => ?_⟩
    cases r1 with
    | @cons v _ _ _ h1 r1 =>
      cases r1
      have hp1 := g1.h _ _ hp
      have hF1 := g1.x _ _ hp hF
      refine ⟨p, vs, v, rfl, rfl, hp1, by rw [q.length]; exact sz5' l, k _ F1 _ (w1.grow e g hp1 h0 hF1 (.l ((q.mono g1.f).append (.cons h1 .nil))))⟩
/-- the def's own list will not grow any more -/
def Ow.tree : Ow → D
  | .l xs => .lst xs
  | .o _ _ C fs => .obj C fs
theorem OwR.rep {K : PySem.W.Frag} {F : Hp} {p : Addr} {ho : HO} {c : Ow} (r : OwR K F p ho c) (h : F p = some ho) : Rep K F (.ref p) c.tree := by
  cases r with
  | l r => exact .lst h r
  | o r => exact .obj h r
theorem Wd.freeze {K : PySem.W.Frag} {F H : Hp} {σ : L2.St} {ds : Ow} (w : Wd K B F H σ Γ) (g : Γ[i]? = some (.own ds)) : ∃ F', Same F F' ∧ Wd K B F' H σ (Γ.set i (.d ds.tree)) := by
  obtain ⟨p, vs, e, h0, hF, hp, r⟩ := w.own g
  have sF := sup (o := vs) hF
  refine ⟨upd F p vs, sF, w.ff.trans sF, w.hh, fun a o q => ?_, fun a o h1 h2 => ?_, by rw [List.length_set, w.len], fun j o s h1 h2 => ?_, fun j k p' xs ys ne h1 h2 h3 h4 => ?_⟩
  · by_cases y : a = p
    · subst y
      rw [upd_same] at q
      rw [← q]
      exact hp
    · rw [upd_ne y] at q
      exact w.fh _ _ q
  · rw [upd_ne (fun y => by rw [y, h0] at h1; cases h1)]
    exact w.ex a o h1 h2
  · rw [List.getElem?_set] at h2
    by_cases y : i = j
    · rw [if_pos y] at h2
      subst y
      split at h2
      · cases h2
        rw [e] at h1
        cases h1
        exact ⟨_, rfl, (r.mono sF).rep upd_same⟩
      · cases h2
    · rw [if_neg y] at h2
      have q := w.sl j o s h1 h2
      cases s with
      | no => trivial
      | d x =>
        obtain ⟨v, ev, rv⟩ := q
        exact ⟨v, ev, rv.mono sF⟩
      | own xs =>
        obtain ⟨p1, vs1, e1, a1, a2, a3, a4⟩ := q
        have ne : p1 ≠ p := fun z => by
          subst z
          subst e1
          exact w.dj i j p1 ds xs y e h1 g h2
        exact ⟨p1, vs1, e1, a1, by rw [upd_ne ne]; exact a2, a3, a4.mono sF⟩
  · rw [List.getElem?_set] at h3 h4
    have nj : i ≠ j := fun y => by
      rw [if_pos y] at h3
      split at h3 <;> cases h3
    have nk : i ≠ k := fun y => by
      rw [if_pos y] at h4
      split at h4 <;> cases h4
    rw [if_neg nj] at h3
    rw [if_neg nk] at h4
    exact w.dj j k p' xs ys ne h1 h2 h3 h4
theorem s_freeze {ds : Ow} (i : Nat) (g : Γ[i]? = some (.own ds)) (h : OkSs X B ss (Γ.set i (.d ds.tree)) ou) : OkSs X B ss Γ ou := PSs.weak h fun D σ H ⟨F, w, k⟩ => by
  obtain ⟨F', _, w'⟩ := w.freeze g
  exact ⟨F', w', k⟩
/-! if -/
theorem s_if {o1 o2 : Out} (hc : OkT X B c Γ p) (ha : p = true → OkSs X B ss Γ o1) (hb : p = false → OkSs X B r Γ o2) : OkS X B (.If c ss r pos) Γ (bif p then o1 else o2) :=
  PS.weak (ps_if hc (PSs.when ha) (PSs.when hb)) fun D σ H ⟨F, w, k⟩ => ⟨F, w, fun F1 H1 w1 g1 => by
    cases p with
    | true => exact iteT ⟨rfl, F1, w1, k⟩
    | false => exact iteF ⟨rfl, F1, w1, k⟩⟩
/-- if c: .. return; the rest -/
theorem s_ifRet (hc : OkT X B c Γ p) (ha : p = true → OkSs X B ss Γ (.rt d)) (hr : p = false → OkSs X B r Γ ou) : OkSs X B (.If c ss [] pos :: r) Γ (bif p then .rt d else ou) :=
  PSs.weak (pss_cons (ps_if hc (PSs.when ha) pss_nil) (PSs.when hr)) fun D σ H ⟨F, w, k⟩ => ⟨F, w, fun F1 H1 w1 g1 => by
    cases p with
    | true => exact iteT ⟨rfl, F1, w1, k⟩
    | false => exact iteF ⟨rfl, F1, w1, k⟩⟩
theorem s_ifRet2 (hc : OkT X B c Γ p) (ha : p = true → OkSs X B ss Γ (.rt x)) (hr : p = false → OkSs X B r Γ (.rt y)) : OkSs X B (.If c ss [] pos :: r) Γ (.rt (bif p then x else y)) := by
  have h := s_ifRet (pos := pos) hc ha hr
  cases p with
  | true => exact h
  | false => exact h
/-- both ways end in one form of the slots -/
theorem s_ifJoin {G : Bool → Env} (hc : OkT X B c Γ p) (ha : p = true → OkSs X B ss Γ (.nx (G true))) (hb : p = false → OkSs X B r Γ (.nx (G false))) : OkS X B (.If c ss r pos) Γ (.nx (G p)) := by
  have h := s_if (pos := pos) hc ha hb
  cases p with
  | true => exact h
  | false => exact h
/-- slots may be forgotten -/
def le : Env → Env → Prop := fun Γ Γ' => Γ.length = Γ'.length ∧ ∀ (i : Nat) (s : Sl), Γ'[i]? = some s → s = .no ∨ Γ[i]? = some s
theorem Wd.le {K : PySem.W.Frag} {F H : Hp} {σ : L2.St} (w : Wd K B F H σ Γ) (h : le Γ Γ') : Wd K B F H σ Γ' := by
  refine ⟨w.ff, w.hh, w.fh, w.ex, w.len.trans h.1, fun j o s h1 h2 => ?_, fun j k p xs ys ne h1 h2 h3 h4 => ?_⟩
  · rcases h.2 j s h2 with rfl | q
    · trivial
    · exact w.sl j o s h1 q
  · rcases h.2 j _ h3 with y | q3
    · cases y
    · rcases h.2 k _ h4 with y | q4
      · cases y
      · exact w.dj j k p xs ys ne h1 h2 q3 q4
theorem le.refl : le Γ Γ := ⟨rfl, fun _ _ h => .inr h⟩
theorem le.cons {s s' : Sl} (h : le Γ Γ') (e : s' = .no ∨ s = s') : le (s :: Γ) (s' :: Γ') := ⟨congrArg (· + 1) h.1, fun i t q => by
  cases i with
  | zero =>
    cases q
    rcases e with e | e
    · exact .inl e
    · exact .inr (by rw [e]; rfl)
  | succ i => exact h.2 i t q⟩
theorem s_le (h : le Γ Γ') (hs : OkSs X B ss Γ (.nx Γ)) : OkSs X B ss Γ (.nx Γ') := PSs.weak hs fun D σ H ⟨F, w, k⟩ => ⟨F, w, fun σ' F' H' w' => k σ' F' H' (w'.le h)⟩
theorem s_leO {Γ2 : Env} (hs : OkSs X B ss Γ (.nx Γ2)) (h : le Γ2 Γ') : OkSs X B ss Γ (.nx Γ') := PSs.weak hs fun D σ H ⟨F, w, k⟩ => ⟨F, w, fun σ' F' H' w' => k σ' F' H' (w'.le h)⟩
theorem s_leI {Γ2 : Env} (h : le Γ Γ2) (hs : OkSs X B ss Γ2 ou) : OkSs X B ss Γ ou := PSs.weak hs fun D σ H ⟨F, w, k⟩ => ⟨F, w.le h, k⟩
/-! targets -/
def BindG (K : PySem.W.Frag) (B : Hp × Hp) (vs : List Nat) (g : TG) (Γ : Env) (d : D) (Γ' : Env) : Prop := ∀ σ F H v, Wd K B F H σ Γ → Rep K F v d → ∀ R : L2.St → Hp → Prop, (∀ σ', Wd K B F H σ' Γ' → wipe σ' vs = wipe σ vs → R σ' H) → g v σ H R
def BindGs (K : PySem.W.Frag) (B : Hp × Hp) (vs : List Nat) (g : TGs) (Γ : Env) (ds : List D) (Γ' : Env) : Prop := ∀ σ F H us, Wd K B F H σ Γ → Reps K F us ds → ∀ R : L2.St → Hp → Prop, (∀ σ', Wd K B F H σ' Γ' → wipe σ' vs = wipe σ vs → R σ' H) → g us σ H R
theorem wipe_set {σ : L2.St} {o : Option V} : ∀ {vs : List Nat}, i ∈ vs → wipe (σ.set i o) vs = wipe σ vs
  | [], h => nomatch h
  | v :: vs, h => by
    unfold wipe
    by_cases m : i ∈ vs
    · rw [wipe_set m]
    · have e : i = v := by
        rcases List.mem_cons.mp h with h | h
        · exact h
        · exact absurd h m
      subst e
      have comm : ∀ (vs : List Nat), i ∉ vs → wipe (σ.set i o) vs = (wipe σ vs).set i o := fun vs => by
        induction vs with
        | nil => intro _; rfl
        | cons v vs ih =>
          intro n
          unfold wipe
          rw [ih (fun k => n (List.mem_cons_of_mem _ k))]
          exact List.set_comm _ _ (fun k => n (by rw [k]; exact List.mem_cons_self))
      rw [comm vs m, List.set_set]
theorem b_name {K : PySem.W.Frag} {vs : List Nat} (m : i ∈ vs) : BindG K B vs (gName i) Γ d (Γ.set i (.d d)) := fun σ F H v w r R h => h _ (w.set r) (wipe_set m)
theorem b_nil {K : PySem.W.Frag} {vs : List Nat} : BindGs K B vs gNil Γ [] Γ := fun σ F H us w r R h => by
  cases r
  exact ⟨rfl, h σ w rfl⟩
theorem b_cons {K : PySem.W.Frag} {vs : List Nat} {g : TG} {t : TGs} {ds : List D} {Γ2 : Env} (h1 : BindG K B vs g Γ d Γ1) (h2 : BindGs K B vs t Γ1 ds Γ2) : BindGs K B vs (gCons g t) Γ (d :: ds) Γ2 := fun σ F H us w r R h => by
  cases r with
  | cons r1 r2 => exact ⟨_, _, rfl, h1 σ F H _ w r1 _ fun σ1 w1 e1 => h2 σ1 F H _ w1 r2 R fun σ2 w2 e2 => h σ2 w2 (e2.trans e1)⟩
theorem b_tup {K : PySem.W.Frag} {vs : List Nat} {n : Nat} {t : TGs} {ds : List D} (h : BindGs K B vs t Γ ds Γ') (l : ds.length = n := by rfl) : BindG K B vs (gTup K n t) Γ (.tup ds) Γ' := fun σ F H v w r R q => by
  cases r with
  | tup h1 r1 => exact ⟨_, _, rfl, toft (w.fh _ _ h1), by rw [r1.length, l], h σ F H _ w r1 R q⟩
/-! what is walked: the items as trees -/
def TreeIt (K : PySem.W.Frag) (J : It) (F0 : Hp) (ds : List D) : Prop := ∃ (G : Hp → Prop) (Y : Nat → Hp → V → Hp → Prop), Walk J ds.length G Y ∧ (∀ F H, Same F0 F → Same F H → G H) ∧
  ∀ i F H v H' d, Same F0 F → Same F H → ds[i]? = some d → Y i H v H' → ∃ F', Gr F H F' H' ∧ Same F' H' ∧ Rep K F' v d
def tIt (K : PySem.W.Frag) (B : Hp × Hp) (Γ : Env) (ds : List D) : TI := fun σ H R => ∃ F, Wd K B F H σ Γ ∧ ∀ J F' H', Wd K B F' H' σ Γ → Gr F H F' H' → TreeIt K J F' ds → R J H'
theorem PI.weak {tg : Expr} {t t' : TI} (h : PI X tg e t) (w : ∀ σ H R, t' σ H R → t σ H R) : PI X tg e t' := ⟨fun pins s σ H R I q => h.run pins s σ H R I (w _ _ _ q)⟩
abbrev OkI (X : Cx) (B : Hp × Hp) (tg e : Expr) (Γ : Env) (ds : List D) : Prop := PI X tg e (tIt X.K B Γ ds)
theorem i_list {tg : Expr} {ds : List D} (h : Ok X B e Γ (.lst ds)) : OkI X B tg e Γ ds := PI.weak (pi_list h) fun σ H R ⟨F, w, k⟩ => ⟨F, w, fun v F1 H1 w1 g1 r1 => by
  cases r1 with
  | @lst a us _ h1 r1 =>
    refine ⟨a, rfl, ⟨us, tofl (w1.fh _ _ h1)⟩, k _ F1 H1 w1 g1 ⟨_, _, by rw [← r1.length]; exact walk_list (K := X.K) (a := a) (xs := us), fun F H s fh => tofl (fh _ _ (s _ _ h1)), fun i F H v H' d s fh hd y => ?_⟩⟩
    obtain ⟨rfl, hx⟩ := y
    obtain ⟨d', hd', rx⟩ := r1.atV hx
    rw [hd] at hd'
    cases hd'
    exact ⟨F, Gr.refl _ _, fh, rx.mono s⟩⟩
theorem i_tup {tg : Expr} {ds : List D} (h : Ok X B e Γ (.tup ds)) : OkI X B tg e Γ ds := PI.weak (pi_tup h) fun σ H R ⟨F, w, k⟩ => ⟨F, w, fun v F1 H1 w1 g1 r1 => by
  cases r1 with
  | @tup a us _ h1 r1 =>
    refine ⟨a, rfl, ⟨us, toft (w1.fh _ _ h1)⟩, k _ F1 H1 w1 g1 ⟨_, _, by rw [← r1.length]; exact walk_tup (K := X.K) (a := a) (xs := us), fun F H s fh => toft (fh _ _ (s _ _ h1)), fun i F H v H' d s fh hd y => ?_⟩⟩
    obtain ⟨rfl, hx⟩ := y
    obtain ⟨d', hd', rx⟩ := r1.atV hx
    rw [hd] at hd'
    cases hd'
    exact ⟨F, Gr.refl _ _, fh, rx.mono s⟩⟩
theorem i_str {tg : Expr} {u : List Nat} (h : Ok X B e Γ (.tx u)) : OkI X B tg e Γ (u.map fun c => .tx [c]) := PI.weak (pi_str h) fun σ H R ⟨F, w, k⟩ => ⟨F, w, fun v F1 H1 w1 g1 r1 => by
  cases r1
  have eu : (S u).cps.size = u.length := by rw [← Array.length_toList, cpsS]
  refine ⟨S u, rfl, k _ F1 H1 w1 g1 ⟨_, _, by rw [List.length_map, ← eu]; exact walk_str (z := S u), fun F H s fh => True.intro, fun i F H v H' d s fh hd y => ?_⟩⟩
  obtain ⟨rfl, c, hc, rfl⟩ := y
  have hc' : u[i]? = some c := by
    rw [← Array.getElem?_toList, cpsS] at hc
    exact hc
  rw [List.getElem?_map, hc'] at hd
  cases hd
  exact ⟨F, Gr.refl _ _, fh, .str _⟩⟩
theorem i_range1 {tg : Expr} {n : Nat} {i : Int} (ho : ∀ {t : TA}, PA X es t → PI X tg e (iRng1 t)) (h : OkA X B es Γ [.int i]) (hn : i.toNat = n) (l : -(2 ^ 62) ≤ i ∧ i < 2 ^ 62) : OkI X B tg e Γ ((List.range n).map fun k : Nat => .int (k : Int)) := PI.weak (ho h) fun σ H R ⟨F, w, k⟩ => ⟨F, w, fun vs F1 H1 w1 g1 r1 => by
  cases r1 with
  | cons r1 r2 =>
    cases r2
    cases r1
    refine ⟨i, rfl, l.1, l.2, k _ F1 H1 w1 g1 ⟨_, _, by rw [List.length_map, List.length_range, hn]; exact walk_range (lo := 0) (n := n), fun F H s fh => True.intro, fun j F H v H' d s fh hd y => ?_⟩⟩
    obtain ⟨rfl, rfl⟩ := y
    rw [List.getElem?_map] at hd
    cases e : (List.range n)[j]? with
    | none => rw [e] at hd; cases hd
    | some m =>
      rw [e] at hd
      cases hd
      have em : m = j := by
        obtain ⟨h1, h2⟩ := List.getElem?_eq_some_iff.mp e
        rw [List.getElem_range] at h2
        exact h2.symm
      subst em
      refine ⟨F, Gr.refl _ _, fh, ?_⟩
      show Rep X.K F (.int (0 + (m : Int))) (.int (m : Int))
      rw [Int.zero_add]
      exact .int _⟩
theorem i_range2 {tg : Expr} {n : Nat} {i j : Int} (ho : ∀ {t : TA}, PA X es t → PI X tg e (iRng2 t)) (h : OkA X B es Γ [.int i, .int j]) (hn : (j - i).toNat = n) (l : -(2 ^ 62) ≤ i ∧ i < 2 ^ 62 ∧ -(2 ^ 62) ≤ j ∧ j < 2 ^ 62) : OkI X B tg e Γ ((List.range n).map fun k : Nat => .int (i + (k : Int))) := PI.weak (ho h) fun σ H R ⟨F, w, k⟩ => ⟨F, w, fun vs F1 H1 w1 g1 r1 => by
  cases r1 with
  | cons r1 r2 =>
    cases r2 with
    | cons r2 r3 =>
      cases r3
      cases r1
      cases r2
      refine ⟨i, j, rfl, l, k _ F1 H1 w1 g1 ⟨_, _, by rw [List.length_map, List.length_range, hn]; exact walk_range (lo := i) (n := n), fun F H s fh => True.intro, fun j F H v H' d s fh hd y => ?_⟩⟩
      obtain ⟨rfl, rfl⟩ := y
      rw [List.getElem?_map] at hd
      cases e : (List.range n)[j]? with
      | none => rw [e] at hd; cases hd
      | some m =>
        rw [e] at hd
        cases hd
        have em : m = j := by
          obtain ⟨h1, h2⟩ := List.getElem?_eq_some_iff.mp e
          rw [List.getElem_range] at h2
          exact h2.symm
        subst em
        exact ⟨F, Gr.refl _ _, fh, .int _⟩⟩
/-! for over a list -/
theorem Wd.up {K : PySem.W.Frag} {F F1 H H1 : Hp} {σ σ1 : L2.St} (w : Wd K (F1, B.2) F H σ Γ) (w1 : Wd K B F1 H1 σ1 Γ1) : Wd K B F H σ Γ := ⟨w1.ff.trans w.ff, w.hh, w.fh, fun a o h1 h2 => w.ex a o h1 (w1.ex a o h1 h2), w.len, w.sl, w.dj⟩
theorem Wd.dn {K : PySem.W.Frag} {F H : Hp} {σ : L2.St} (w : Wd K B F H σ Γ) : Wd K (F, B.2) F H σ Γ := ⟨Same.refl _, w.hh, w.fh, fun _ _ _ h => h, w.len, w.sl, w.dj⟩
theorem Wb.up {K : PySem.W.Frag} {F F1 H H1 : Hp} {σ1 : L2.St} (w : Wb (F1, B.2) F H) (w1 : Wd K B F1 H1 σ1 Γ1) : Wb B F H := ⟨w1.ff.trans w.ff, w.hh, w.fh, fun a o h1 h2 => w.ex a o h1 (w1.ex a o h1 h2)⟩
def runF {α S : Type} (f : S → α → Sum D S) : S → List α → Sum D S
  | s, [] => .inr s
  | s, k :: ks => match f s k with
    | .inl d => .inl d
    | .inr s' => runF f s' ks
theorem runF_snoc {α S : Type} {f : S → α → Sum D S} {k : α} : ∀ {ks : List α} {s s' : S}, runF f s ks = .inr s' → runF f s (ks ++ [k]) = f s' k
  | [], s, s', h => by
    cases h
    show (match f s k with | .inl d => Sum.inl d | .inr s' => runF f s' []) = f s k
    cases f s k <;> rfl
  | a :: ks, s, s', h => by
    show (match f s a with | .inl d => Sum.inl d | .inr s' => runF f s' (ks ++ [k])) = f s' k
    have h : (match f s a with | .inl d => Sum.inl d | .inr s' => runF f s' ks) = .inr s' := h
    cases e : f s a with
    | inl d => rw [e] at h; cases h
    | inr t =>
      rw [e] at h
      exact runF_snoc h
theorem runF_stop {α S : Type} {f : S → α → Sum D S} {d : D} : ∀ {ks ls : List α} {s : S}, runF f s ks = .inl d → runF f s (ks ++ ls) = .inl d
  | [], _, _, h => by cases h
  | a :: ks, ls, s, h => by
    show (match f s a with | .inl d => Sum.inl d | .inr s' => runF f s' (ks ++ ls)) = .inl d
    have h : (match f s a with | .inl d => Sum.inl d | .inr s' => runF f s' ks) = .inl d := h
    cases e : f s a with
    | inl d' => rw [e] at h; exact h
    | inr t => rw [e] at h; exact runF_stop h
def outOf {S : Type} (env : S → Env) : Sum D S → Out
  | .inl d => .rt d
  | .inr s => .nx (env s)
theorem s_forR {α S : Type} {g : TG} {vs : List Nat} {body : List Stmt} {tg : Expr} (env : S → Env) (f : S → α → Sum D S) (ks : List α) (enc : α → D) (s0 : S) (bound : S → α → Env)
    (ho : ∀ {wi : TI} {tb : TS}, PI X tg e wi → PSs X body tb → PS X s (tFor wi g tb)) (hi : OkI X B tg e (env s0) (ks.map enc))
    (hg : ∀ (B : Hp × Hp) s k, k ∈ ks → BindG X.K B vs g (env s) (enc k) (bound s k)) (hb : ∀ (B : Hp × Hp) i k s, ks[i]? = some k → runF f s0 (ks.take i) = .inr s → OkSs X B body (bound s k) (outOf env (f s k))) :
    OkS X B s (env s0) (outOf env (runF f s0 ks)) := by
  have hall : PSs X body (fun D σ H => ∃ B : Hp × Hp, ∃ i : Nat, ∃ k : α, ∃ s : S, ∃ h : ks[i]? = some k ∧ runF f s0 (ks.take i) = .inr s, tSt X.K B (bound s k) (outOf env (f s k)) D σ H) :=
    PSs.exi fun B => PSs.exi fun i => PSs.exi fun k => PSs.exi fun s => PSs.exi fun h => hb B i k s h.1 h.2
  refine PS.weak (ho hi hall) fun D σ H ⟨F, w, k⟩ => ⟨F, w, fun J F1 H1 w1 g1 ⟨G, Y, wk, hG, hY⟩ => ?_⟩
  rw [List.length_map] at wk
  refine for_it wk (g := g) (tb := fun D σ H => ∃ B : Hp × Hp, ∃ i : Nat, ∃ k : α, ∃ s : S, ∃ h : ks[i]? = some k ∧ runF f s0 (ks.take i) = .inr s, tSt X.K B (bound s k) (outOf env (f s k)) D σ H) (D := D) (fun i σ H => ∃ F s, Wd X.K (F1, B.2) F H σ (env s) ∧ runF f s0 (ks.take i) = .inr s ∧ i ≤ ks.length) ⟨F1, s0, w1.dn, by rw [List.take_zero]; rfl, Nat.zero_le _⟩ (fun i σ H _ ⟨F, s, w, _⟩ => hG F H w.ff w.fh) ?_ ?_
  · rintro i x σ H H' hi ⟨F2, s, w2, hr, hl⟩ hy
    obtain ⟨k0, hk⟩ : ∃ k0, ks[i]? = some k0 := ⟨ks[i], List.getElem?_eq_getElem hi⟩
    obtain ⟨F3, g3, fh3, rx⟩ := hY i F2 H x H' (enc k0) w2.ff w2.fh (by rw [List.getElem?_map, hk]; rfl) hy
    have w3 := w2.gr g3 fh3
    have tk : ks.take (i + 1) = ks.take i ++ [k0] := by rw [List.take_add_one, hk]; rfl
    refine hg (F1, B.2) s k0 (List.mem_of_getElem? hk) σ F3 H' x w3 rx _ fun σ3 w4 _ => ⟨(F1, B.2), i, k0, s, ⟨hk, hr⟩, F3, w4, ?_⟩
    have e2 := runF_snoc (k := k0) hr
    rw [← tk] at e2
    cases e : f s k0 with
    | inl d =>
      rw [e] at e2
      have e3 : runF f s0 ks = .inl d := by
        have := runF_stop (ls := ks.drop (i + 1)) e2
        rwa [List.take_append_drop] at this
      rw [e3] at k
      intro v F' H' wb r
      exact k v F' H' (wb.up w1) r
    | inr s' =>
      rw [e] at e2
      intro σ' F' H' w'
      exact ⟨F', s', w', e2, hi⟩
  · rintro σ H ⟨F2, s, w2, hr, hl⟩
    rw [List.take_of_length_le (Nat.le_refl _)] at hr
    rw [hr] at k
    exact k σ F2 H (w2.up w1)
theorem runF_fold {α S : Type} {step : S → α → S} : ∀ {ks : List α} {s : S}, runF (fun s k => .inr (step s k)) s ks = .inr (ks.foldl step s)
  | [], _ => rfl
  | k :: ks, s => runF_fold (ks := ks) (s := step s k)
theorem s_for {α S : Type} {g : TG} {vs : List Nat} {body : List Stmt} {tg : Expr} (env : S → Env) (step : S → α → S) (ks : List α) (enc : α → D) (s0 : S) (bound : S → α → Env)
    (ho : ∀ {wi : TI} {tb : TS}, PI X tg e wi → PSs X body tb → PS X s (tFor wi g tb)) (hi : OkI X B tg e (env s0) (ks.map enc))
    (hg : ∀ (B : Hp × Hp) s k, k ∈ ks → BindG X.K B vs g (env s) (enc k) (bound s k)) (hb : ∀ (B : Hp × Hp) i k s, ks[i]? = some k → s = (ks.take i).foldl step s0 → OkSs X B body (bound s k) (.nx (env (step s k)))) :
    OkS X B s (env s0) (.nx (env (ks.foldl step s0))) := by
  have h := s_forR (vs := vs) env (fun s k => .inr (step s k)) ks enc s0 bound ho hi hg fun B i k s h1 h2 => hb B i k s h1 (by rw [runF_fold] at h2; exact (Sum.inr.inj h2).symm)
  rw [runF_fold] at h
  exact h
theorem runF_any {α : Type} {c : α → Bool} {d : D} : ∀ {ks : List α}, runF (fun (s : Unit) k => bif c k then .inl d else .inr s) () ks = bif ks.any c then .inl d else .inr ()
  | [] => rfl
  | k :: ks => by
    rw [List.any_cons]
    have ih := runF_any (c := c) (d := d) (ks := ks)
    cases h : c k with
    | true => simp only [runF, h, cond_true, Bool.true_or]
    | false =>
      simp only [runF, h, cond_false, Bool.false_or]
      exact ih
/-- for ..: if c: return d; then the rest -/
theorem s_forAny {α : Type} {g : TG} {vs : List Nat} {body : List Stmt} {tg : Expr} (c : α → Bool) (ks : List α) (enc : α → D) (bound : α → Env)
    (ho : ∀ {wi : TI} {tb : TS}, PI X tg e wi → PSs X body tb → PS X s (tFor wi g tb)) (hi : OkI X B tg e Γ (ks.map enc))
    (hg : ∀ (B : Hp × Hp) k, k ∈ ks → BindG X.K B vs g Γ (enc k) (bound k)) (hb : ∀ (B : Hp × Hp) k, k ∈ ks → OkSs X B body (bound k) (bif c k then .rt d else .nx Γ))
    (hr : ks.any c = false → OkSs X B r Γ ou) : OkSs X B (s :: r) Γ (bif ks.any c then .rt d else ou) := by
  have h := s_forR (S := Unit) (vs := vs) (fun _ => Γ) (fun s k => bif c k then .inl d else .inr s) ks enc () (fun _ k => bound k) ho hi (fun B _ k m => hg B k m) fun B i k s h1 h2 => by
    have q := hb B k (List.mem_of_getElem? h1)
    cases e : c k with
    | true => rw [e] at q; exact q
    | false => rw [e] at q; exact q
  rw [runF_any] at h
  cases e : ks.any c with
  | true =>
    rw [e] at h
    exact PSs.weak (pss_cons h (PSs.when (p := False) (t := fun _ _ _ => False) fun z => z.elim)) fun D σ H ⟨F, w, k⟩ => ⟨F, w, k⟩
  | false =>
    rw [e] at h
    exact s_cons h (hr e)
/-! comprehensions over a list -/
theorem le_of_bind {K : PySem.W.Frag} {F H : Hp} {σ : L2.St} (vs : List Nat) (w : Wd K B F H σ Γ) (hG : Γ' = vs.foldr (fun i Γ => Γ.set i .no) Γ) : Wd K B F H (wipe σ vs) Γ' := by
  subst hG
  induction vs with
  | nil => exact w
  | cons v vs ih =>
    unfold wipe
    rw [List.foldr_cons]
    generalize wipe σ vs = σ1 at ih
    generalize vs.foldr (fun i Γ => Γ.set i .no) Γ = Γ1 at ih
    refine ⟨ih.ff, ih.hh, ih.fh, ih.ex, by rw [List.length_set, List.length_set, ih.len], fun j o s h1 h2 => ?_, fun j k p xs ys ne h1 h2 h3 h4 => ?_⟩
    · rw [List.getElem?_set] at h1 h2
      by_cases e : v = j
      · rw [if_pos e] at h2
        split at h2
        · cases h2
          trivial
        · cases h2
      · rw [if_neg e] at h1 h2
        exact ih.sl j o s h1 h2
    · rw [List.getElem?_set] at h1 h2 h3 h4
      have nj : v ≠ j := fun e => by
        rw [if_pos e] at h3
        split at h3 <;> cases h3
      have nk : v ≠ k := fun e => by
        rw [if_pos e] at h4
        split at h4 <;> cases h4
      rw [if_neg nj] at h1 h3
      rw [if_neg nk] at h2 h4
      exact ih.dj j k p xs ys ne h1 h2 h3 h4
abbrev wiped (Γ : Env) (vs : List Nat) : Env := vs.foldr (fun i Γ => Γ.set i .no) Γ
def tEl (K : PySem.W.Frag) {α : Type} (ks : List α) (bound : α → Env) (f : α → D) : TE := fun σ H Q => ∃ B : Hp × Hp, ∃ k : α, ∃ m : k ∈ ks, tEv K B (bound k) (f k) σ H Q
def tElT (K : PySem.W.Frag) {α : Type} (ks : List α) (bound : α → Env) (p : α → Bool) : TT := fun σ H Q => ∃ B : Hp × Hp, ∃ k : α, ∃ m : k ∈ ks, tEvT K B (bound k) (p k) σ H Q
theorem pe_el {α : Type} {ks : List α} {bound : α → Env} {f : α → D} (h : ∀ (B : Hp × Hp) k, k ∈ ks → Ok X B e (bound k) (f k)) : PE X e (tEl X.K ks bound f) := PE.exi fun B => PE.exi fun k => PE.exi fun m => h B k m
theorem pt_el {α : Type} {ks : List α} {bound : α → Env} {f : α → Bool} (h : ∀ (B : Hp × Hp) k, k ∈ ks → OkT X B e (bound k) (f k)) : PT X e (tElT X.K ks bound f) := PT.exi fun B => PT.exi fun k => PT.exi fun m => h B k m
theorem wipe_wipe (vs : List Nat) (σ : L2.St) : wipe (wipe σ vs) vs = wipe σ vs := by
  have key : ∀ (us vs : List Nat) (σ : L2.St), (∀ u ∈ us, u ∈ vs) → wipe (wipe σ us) vs = wipe σ vs := fun us => by
    induction us with
    | nil => intro vs σ _; rfl
    | cons u us ih =>
      intro vs σ h
      rw [show wipe σ (u :: us) = (wipe σ us).set u none from rfl, wipe_set (h u List.mem_cons_self)]
      exact ih vs σ fun y m => h y (List.mem_cons_of_mem _ m)
  exact key vs vs σ fun _ m => m
theorem lc_read {K : PySem.W.Frag} {α : Type} {g : TG} {vs : List Nat} {tt : TT} (ks : List α) (enc : α → D) (bound : α → Env) (p : α → Bool) (f : α → D)
    (ht : ∀ (B : Hp × Hp) k σ H Q, k ∈ ks → tEvT K B (bound k) (p k) σ H Q → tt σ H Q)
    (hg : ∀ (B : Hp × Hp) k, k ∈ ks → BindG K B vs g (wiped Γ vs) (enc k) (bound k)) (few : ks.length ≤ 90000) : ∀ σ H Q, tEv K B Γ (.lst ((ks.filter p).map f)) σ H Q → tLc (tIt K B Γ (ks.map enc)) g tt (tEl K (ks.filter p) bound f) vs σ H Q := by
  intro σ H Q ⟨F, w, k⟩
  refine ⟨F, w, fun J F1 H1 w1 g1 ⟨G, Y, wk, hG, hY⟩ Dd nD => ?_⟩
  rw [List.length_map] at wk
  refine lc_it wk (fun i G => ∃ F2 acc, Wd K B F2 G σ Γ ∧ Gr F1 H1 F2 G ∧ F2 Dd = none ∧ G Dd = some (.lst acc) ∧ Reps K F2 acc (((ks.take i).filter p).map f) ∧ i ≤ ks.length) ⟨F1, [], ?_, ⟨Same.refl _, sup nD, fun _ _ _ e => e⟩, w1.fh.free nD, upd_same, by rw [List.take_zero]; exact .nil, Nat.zero_le _⟩ (fun i G _ ⟨F2, acc, w2, g2, _⟩ => hG F2 G g2.f w2.fh) ?_ ?_
  · exact w1.gr ⟨Same.refl _, sup nD, fun _ _ _ e => e⟩ (w1.fh.trans (sup nD))
  · rintro i x G G' hi ⟨F2, acc, w2, g2, nF, hD, rD, hl⟩ hy
    obtain ⟨k0, hk⟩ : ∃ k0, ks[i]? = some k0 := ⟨ks[i], List.getElem?_eq_getElem hi⟩
    obtain ⟨F3, g3, fh3, rx⟩ := hY i F2 G x G' (enc k0) g2.f w2.fh (by rw [List.getElem?_map, hk]; rfl) hy
    have mk := List.mem_of_getElem? hk
    have tk : ks.take (i + 1) = ks.take i ++ [k0] := by rw [List.take_add_one, hk]; rfl
    refine hg B k0 mk (wipe σ vs) F3 G' x (le_of_bind vs (w2.gr g3 fh3) rfl) rx _ fun σ3 w3 e3 => ⟨by rw [e3, wipe_wipe], ht B k0 σ3 G' _ mk ⟨F3, w3, fun F4 G4 w4 g4' => ?_⟩⟩
    have g4 := g3.trans g4'
    have wG : Wd K B F4 G4 σ Γ := w2.gr g4 w4.fh
    cases ep : p k0 with
    | true =>
      refine iteT ⟨B, k0, List.mem_filter.mpr ⟨mk, ep⟩, F4, w4, fun y F5 G5 w5 g5 r5 => ?_⟩
      have g45 := g4.trans g5
      have hD5 := g45.h _ _ hD
      have nF5 := g45.x _ _ hD nF
      refine ⟨acc, hD5, ?_, F5, acc ++ [y], ?_, ?_, nF5, upd_same, ?_, hi⟩
      · rw [rD.length, List.length_map]
        refine sz5' ?_
        have := List.length_filter_le p (ks.take i)
        rw [List.length_take] at this
        omega
      · have w5' := w2.gr g45 w5.fh
        refine ⟨w5'.ff, ?_, ?_, w5'.ex, w5'.len, fun j o s q1 q2 => ?_, w5'.dj⟩
        · intro b o q
          have hb1 := w1.hh _ _ q
          rw [upd_ne (ne_of_none hb1 nD)]
          exact w5'.hh _ _ q
        · intro b o q
          rw [upd_ne (fun y => by rw [y, nF5] at q; cases q)]
          exact w5'.fh _ _ q
        · have q := w5'.sl j o s q1 q2
          cases s with
          | no => trivial
          | d x => exact q
          | own xs =>
            obtain ⟨p1, vs1, e1, a1, a2, a3, a4⟩ := q
            have q1' := w1.sl j o (.own xs) q1 q2
            obtain ⟨p2, vs2, e2, b1, b2, b3, b4⟩ := q1'
            rw [e1] at e2
            cases e2
            exact ⟨p1, vs1, e1, a1, a2, by rw [upd_ne (ne_of_none b3 nD)]; exact a3, a4⟩
      · have gg := g2.trans g45
        refine ⟨gg.f, fun b o q => ?_, gg.x⟩
        rw [upd_ne (ne_of_none q nD)]
        exact gg.h _ _ q
      · rw [tk, List.filter_append, List.map_append]
        have e1 : [k0].filter p = [k0] := by rw [List.filter_cons, ep]; rfl
        rw [e1]
        exact (rD.mono g45.f).append (.cons r5 .nil)
    | false =>
      refine iteF ⟨F4, acc, wG, g2.trans g4, g4.x _ _ hD nF, g4.h _ _ hD, ?_, hi⟩
      rw [tk, List.filter_append]
      have e1 : [k0].filter p = [] := by rw [List.filter_cons, ep]; rfl
      rw [e1, List.append_nil]
      exact rD.mono g4.f
  · rintro G ⟨F2, acc, w2, g2, nF, hD, rD, hl⟩
    rw [List.take_of_length_le (Nat.le_refl _)] at rD
    have sF := sup (o := .lst acc) nF
    have gf : Gr F1 H1 (upd F2 Dd (.lst acc)) G := ⟨g2.f.trans sF, g2.h, fun b o q n => by rw [upd_ne (ne_of_none q nD)]; exact g2.x b o q n⟩
    refine k _ _ _ (w1.gr gf fun b o q => ?_) (g1.trans gf) (.lst upd_same (rD.mono sF))
    by_cases y : b = Dd
    · subst y
      rw [upd_same] at q
      rw [← q]
      exact hD
    · rw [upd_ne y] at q
      exact w2.fh _ _ q
theorem t_lcIf {α : Type} {g : TG} {vs : List Nat} {tt : TT} {it tg : Expr} (ks : List α) (enc : α → D) (bound : α → Env) (p : α → Bool) (f : α → D)
    (ho : ∀ {wi : TI}, PI X tg it wi → PE X e (tLc wi g tt (tEl X.K (ks.filter p) bound f) vs)) (hi : OkI X B tg it Γ (ks.map enc))
    (ht : ∀ (B : Hp × Hp) k σ H Q, k ∈ ks → tEvT X.K B (bound k) (p k) σ H Q → tt σ H Q)
    (hg : ∀ (B : Hp × Hp) k, k ∈ ks → BindG X.K B vs g (wiped Γ vs) (enc k) (bound k)) (few : ks.length ≤ 90000) : Ok X B e Γ (.lst ((ks.filter p).map f)) := PE.weak (ho hi) (lc_read ks enc bound p f ht hg few)
theorem filter_all {α : Type} : ∀ ks : List α, ks.filter (fun _ => true) = ks
  | [] => rfl
  | k :: ks => by rw [List.filter_cons, if_pos rfl, filter_all ks]
theorem t_lc {α : Type} {g : TG} {vs : List Nat} {it tg : Expr} (ks : List α) (enc : α → D) (bound : α → Env) (f : α → D)
    (ho : ∀ {wi : TI}, PI X tg it wi → PE X e (tLc wi g tYes (tEl X.K ks bound f) vs)) (hi : OkI X B tg it Γ (ks.map enc))
    (hg : ∀ (B : Hp × Hp) k, k ∈ ks → BindG X.K B vs g (wiped Γ vs) (enc k) (bound k)) (few : ks.length ≤ 90000) : Ok X B e Γ (.lst (ks.map f)) := by
  have h := t_lcIf (tt := tYes) (Γ := Γ) ks enc bound (fun _ => true) f (by rw [filter_all]; exact ho) hi (fun B k σ H Q _ ⟨F, w, q⟩ => q F H w (Gr.refl _ _)) hg few
  rw [filter_all] at h
  exact h
/-- name = [..] -/
theorem s_setLc {α : Type} {g : TG} {vs : List Nat} {it tg : Expr} (ks : List α) (enc : α → D) (bound : α → Env) (f : α → D)
    (ho : ∀ {wi : TI}, PI X tg it wi → PS X s (tAsg (tLc wi g tYes (tEl X.K ks bound f) vs) (gName i))) (hi : OkI X B tg it Γ (ks.map enc))
    (hg : ∀ (B : Hp × Hp) k, k ∈ ks → BindG X.K B vs g (wiped Γ vs) (enc k) (bound k)) (few : ks.length ≤ 90000) : OkS X B s Γ (.nx (Γ.set i (.d (.lst (ks.map f))))) :=
  PS.weak (ho hi) fun D σ H ⟨F, w, k⟩ => by
    have h := lc_read (K := X.K) (B := B) (Γ := Γ) (g := g) (vs := vs) (tt := tYes) ks enc bound (fun _ => true) f (fun B k σ H Q _ ⟨F, w, q⟩ => q F H w (Gr.refl _ _)) hg few σ H (fun x H1 => gName i x σ H1 D.nx)
    rw [filter_all] at h
    exact h ⟨F, w, fun v F' H' w' g r => k _ F' H' (w'.set r)⟩
/-! a def -/
theorem wd_start {K : PySem.W.Frag} {F H : Hp} {vs : List V} {ds : List D} {N : List Str} (fh : Same F H) (r : Reps K F vs ds) (l : vs.length ≤ N.length) : Wd K (F, H) F H (L2.start N vs) (ds.map Sl.d ++ List.replicate (N.length - ds.length) .no) := by
  refine ⟨Same.refl _, Same.refl _, fh, fun _ _ _ h => h, by unfold L2.start; rw [List.length_append, List.length_append, List.length_map, List.length_map, List.length_replicate, List.length_replicate, r.length], fun j o s h1 h2 => ?_, fun j k p xs ys ne h1 h2 h3 h4 => ?_⟩
  · unfold L2.start at h1
    by_cases lj : j < ds.length
    · rw [List.getElem?_append_left (by rw [List.length_map]; exact lj), List.getElem?_map] at h2
      rw [List.getElem?_append_left (by rw [List.length_map, r.length]; exact lj), List.getElem?_map] at h1
      cases e : ds[j]? with
      | none => rw [e] at h2; cases h2
      | some d =>
        rw [e] at h2
        cases h2
        obtain ⟨v, ev, rv⟩ := r.at e
        rw [ev] at h1
        cases h1
        exact ⟨v, rfl, rv⟩
    · rw [List.getElem?_append_right (by rw [List.length_map]; omega), List.getElem?_replicate] at h2
      split at h2
      · cases h2
        trivial
      · cases h2
  · by_cases lj : j < ds.length
    · rw [List.getElem?_append_left (by rw [List.length_map]; exact lj), List.getElem?_map] at h3
      cases e : ds[j]? with
      | none => rw [e] at h3; cases h3
      | some d => rw [e] at h3; cases h3
    · rw [List.getElem?_append_right (by rw [List.length_map]; omega), List.getElem?_replicate] at h3
      split at h3 <;> cases h3
theorem tree_wish {K : PySem.W.Frag} {N : List Str} {ds : List D} {d : D} {vs : List V} {H : Hp} {Q : VK} {E : XK} (h : spT K ds d vs H Q E) (l : ds.length ≤ N.length) : ∃ B : Hp × Hp, tSt K B (ds.map Sl.d ++ List.replicate (N.length - ds.length) .no) (.rt d) { nx := fun _ H' => Q .non H', rt := Q } (L2.start N vs) H := by
  obtain ⟨F, fh, r, k⟩ := h
  exact ⟨(F, H), F, wd_start fh r (by rw [r.length]; exact l), fun v F' H' w rv => k v F' H' ⟨w.ff, w.hh, w.ex⟩ w.fh rv⟩
end
end Tr
namespace Pm
open PySem PySem.Spec PyProof.Rows L2 SX
/-! ### sorted of triples (int, int, text), no two of them with the same ints -/
/-- v is a tuple of the ints i, j and a text -/
def IsTrip (h : Heap) (v : Value) (i j : Int) (z : Str) : Prop := ∃ a o t u y n, v = .ref a ∧ h.get? a = some o ∧ o.cls = .type "tuple" ∧ o.data = .seq #[.int i t, .int j u, .str z y] n
theorem IsTrip.keeps {h h' : Heap} {v : Value} {i j : Int} {z : Str} (p : IsTrip h v i j z) (k : ∀ b o, h.get? b = some o → o.cls = .type "tuple" → h'.get? b = some o) : IsTrip h' v i j z := by
  obtain ⟨a, o, t, u, y, n, e, ho, hc, hd⟩ := p
  exact ⟨a, o, t, u, y, n, e, k _ _ ho hc, hc, hd⟩
section
variable {prog : Program} {w : World} {A : Around} {E : Value → Shared → Prop} {s : Shared}
theorem trip_cmp {vs : List Value} {k : Value → Int × Int} {tx : Value → Str} (hp : ∀ v ∈ vs, IsTrip s.heap v (k v).1 (k v).2 (tx v)) (hd : ∀ v ∈ vs, ∀ u ∈ vs, k v = k u → v = u) :
    SrtO.Cmp prog w A s (tuples' true) (fun p => p.1 ∈ vs) (SrtO.lt2 fun v u => SrtO.lexB (k v) (k u)) := by
  intro p q hm hm'
  have h1 := hp _ hm
  have h2 := hp _ hm'
  have same : (k p.1).1 = (k q.1).1 → (k p.1).2 = (k q.1).2 → tx p.1 = tx q.1 := fun a b => by rw [hd _ hm _ hm' (Prod.ext a b)]
  show wpAny (model prog w) A (keyLt' (tuples' true) p.1 q.1) (fun r s' => s' = s ∧ r = SrtO.lexB (k p.1) (k q.1)) (fun _ _ => False) s
  unfold SrtO.lexB
  generalize (k p.1).1 = x at h1 same ⊢
  generalize (k p.1).2 = y at h1 same ⊢
  generalize (k q.1).1 = x' at h2 same ⊢
  generalize (k q.1).2 = y' at h2 same ⊢
  generalize tx p.1 = z at h1 same
  generalize tx q.1 = z' at h2 same
  obtain ⟨a, o, t, u, y0, n, e, ho, hc, hd⟩ := h1
  obtain ⟨a', o', t', u', y0', n', e', ho', hc', hd'⟩ := h2
  rw [e, e']
  refine PySem.W.kat_lt ho hd ho' hd' ?_
  show PySem.W.KatLex prog w A true (decide (3 < 3)) _ [(.int x t, .int x' t'), (.int y u, .int y' u'), (.str z y0, .str z' y0')] 0 s
  refine PySem.W.kat_cons (SeqAt.EqAt.int_int x t x' t' prog w _ _ ?_)
  refine PySem.W.kat_go (fun e1 => ?_) (fun e1 => ?_)
  · have ex : x = x' := by simpa using e1
    refine PySem.W.kat_yes (PySem.W.kat_cons (SeqAt.EqAt.int_int y u y' u' prog w _ _ ?_))
    refine PySem.W.kat_go (fun e2 => ?_) (fun e2 => ?_)
    · have ey : y = y' := by simpa using e2
      have ez : z = z' := same ex ey
      have e3 : (if x = x' then decide (y < y') else decide (x < x')) = false := by
        rw [if_pos ex, ey]
        exact decide_eq_false (Int.lt_irrefl _)
      refine PySem.W.kat_yes (PySem.W.kat_cons (SeqAt.EqAt.str_str z y0 z' y0' prog w _ _ ?_))
      refine PySem.W.kat_go (fun _ => ?_) (fun e4 => ?_)
      · exact PySem.W.kat_yes (PySem.W.kat_nil ⟨rfl, e3.symm⟩)
      · rw [ez] at e4
        simp at e4
    · have e3 : (if x = x' then decide (y < y') else decide (x < x')) = decide (y < y') := if_pos ex
      refine PySem.W.kat_no (PySem.W.kat_one _ _ (PyProof.Rows.lt_int ?_))
      exact (show s = s ∧ decide (y < y') = (if x = x' then decide (y < y') else decide (x < x')) from ⟨rfl, e3.symm⟩)
  · have ex : ¬ x = x' := by simpa using e1
    have e3 : (if x = x' then decide (y < y') else decide (x < x')) = decide (x < x') := if_neg ex
    exact PySem.W.kat_no (oneLt_int ⟨rfl, e3.symm⟩)
theorem firsts3 {h : Heap} : ∀ {vs : List Value}, (∀ v ∈ vs, ∃ x y z, IsTrip h v x y z) → ∃ fs : List Value, PySem.W.KatTups h vs fs ∧ fs.length = vs.length ∧ ∀ f ∈ fs, ∃ x t, f = Value.int x t
  | [], _ => ⟨[], PySem.W.KatTups.nil, rfl, fun _ hm => by simp at hm⟩
  | v :: vs, hp => by
    obtain ⟨fs, h1, h2, h3⟩ := firsts3 (vs := vs) fun v' hm => hp v' (List.mem_cons_of_mem _ hm)
    obtain ⟨x, y, z, a, o, t, u, y0, n, e, ho, hc, hd⟩ := hp v (List.mem_cons_self ..)
    subst e
    refine ⟨.int x t :: fs, PySem.W.KatTups.cons ho hc hd rfl h1, by rw [List.length_cons, List.length_cons, h2], fun f hm => ?_⟩
    rcases List.mem_cons.mp hm with rfl | hm
    · exact ⟨x, t, rfl⟩
    · exact h3 f hm
theorem trips_sortable {a : Addr} {vs : List Value} {k : Value → Int × Int} {tx : Value → Str} (h0 : 0 < vs.length) (hp : ∀ v ∈ vs, IsTrip s.heap v (k v).1 (k v).2 (tx v)) (hd : ∀ v ∈ vs, ∀ u ∈ vs, k v = k u → v = u)
    (ha : ∀ o, s.heap.get? a = some o → o.cls ≠ .type "tuple") : SrtO.SortableO prog w A s a vs fun v u => SrtO.lexB (k v) (k u) := by
  intro h' keep
  have hp' : ∀ v ∈ vs, IsTrip h' v (k v).1 (k v).2 (tx v) := fun v hm => (hp v hm).keeps fun b o e c => keep b o (fun z => by subst z; exact ha o e c) e
  obtain ⟨fs, h1, h2, h3⟩ := firsts3 fun v hm => ⟨_, _, _, hp' v hm⟩
  refine ⟨tuples' true, fun Q E hq => ?_, trip_cmp hp' hd⟩
  refine PySem.W.kat_kind (T := .type "int") h1 (by omega) (fun f hm => ?_) (by rfl) ?_
  · obtain ⟨x, t, rfl⟩ := h3 f hm
    exact PySem.W.Looks.now
  · have e : (Value.type "int" != Value.type "tuple") = true := by first | decide +kernel | rfl | decide
    rw [e]
    exact hq
theorem sorted_trips {l : Addr} {vs : List Value} {k : Value → Int × Int} {tx : Value → Str} {Q : Value → Shared → Prop} (hl : s.heap.IsList l vs.toArray) (hz : vs.length ≤ sizeLine) (hp : ∀ v ∈ vs, IsTrip s.heap v (k v).1 (k v).2 (tx v)) (hd : ∀ v ∈ vs, ∀ u ∈ vs, k v = k u → v = u)
    (h : ∀ (h' : Heap) (d : Addr) (out : List Value), SrtO.Srtd (fun v u => SrtO.lexB (k v) (k u)) out → SrtO.Stb (fun v u => SrtO.lexB (k v) (k u)) out vs → (∀ b o, s.heap.get? b = some o → h'.get? b = some o) → s.heap.objs.size ≤ d → (∃ n, h'.get? d = some (seqObj "list" out.toArray n)) → Q (.ref d) { s with heap := h' }) :
    wpAny (model prog w) A (call (.builtin "sorted") [.ref l]) Q E s := by
  refine SrtO.sorted_ord (SrtO.swo_lex k) hl hz (fun h2 h₁ a ha kk => ?_) fun out hs hb => ?_
  · refine trips_sortable (s := { s with heap := h₁ }) (tx := tx) (by omega) (fun v hm => (hp v hm).keeps fun b o e _ => (kk b o e).2) hd fun o e => ?_
    have e' : some o = some (seqObj "list" vs.toArray 0) := e.symm.trans ha
    cases e'
    intro c
    exact absurd (Value.type.inj c) (by decide)
  · exact h _ _ out hs hb (fun b o e => sortedAll_old e) (Nat.le_succ _) (sortedAll_at s.heap vs out.toArray)
end
/-- sorted(xs), xs a list of triples at the addresses of L, each with its ints and its text; no two with the same ints -/
abbrev Trip := Addr × (Int × Int) × Str
def TripO (p : Trip) : HO := .tup [.int p.2.1.1, .int p.2.1.2, .str p.2.2]
def rSortedTr (K : PySem.W.Frag) : List V → Hp → VK → Prop := fun vs H Q => ∃ (a : Addr) (L : List Trip), vs = [V.ref a] ∧ SqL K H a (L.map fun p => V.ref p.1) ∧ (∀ p ∈ L, H p.1 = some (TripO p)) ∧ (L.map fun p => p.2.1).Nodup ∧
  ∀ (M : List Trip) (d : Addr), M.Perm L → M.Pairwise (fun p q => SrtO.lexB q.2.1 p.2.1 = false) → H d = none → Q (.ref d) (upd H d (.lst (M.map fun p => V.ref p.1)))
theorem vals_refs : ∀ {L : List Trip} {us : List Value}, Vals (L.map fun p => V.ref p.1) us → us = L.map fun p => Value.ref p.1
  | [], _, .nil => rfl
  | p :: L, _, .cons r t => by
    have e := vals_refs t
    cases r
    rw [e]
    rfl
theorem cr_sortedTr {X : Cx} : CallR X (.builtin "sorted") (rSortedTr X.K) := by
  intro pins s σ H vs us Q I r h
  obtain ⟨a, L, rfl, hs, hx, nd, q⟩ := h
  obtain ⟨its, rv, hl, hz⟩ := I.list hs
  obtain ⟨u, rfl, ru⟩ := vals1 r
  obtain rfl : u = Value.ref a := ru
  -- what stands behind an address
  let find : Value → Option Trip := fun v => L.find? fun p => Value.ref p.1 == v
  let k : Value → Int × Int := fun v => ((find v).map (·.2.1)).getD (0, 0)
  let tx : Value → Str := fun v => ((find v).map (·.2.2)).getD Str.empty
  have addr : ∀ p ∈ L, ∀ p' ∈ L, p.1 = p'.1 → p = p' := fun p hp p' hp' e => by
    have h1 := hx p hp
    rw [e, hx p' hp'] at h1
    obtain ⟨p1, ⟨pi, pj⟩, pz⟩ := p
    obtain ⟨p1', ⟨pi', pj'⟩, pz'⟩ := p'
    have e : p1 = p1' := e
    subst e
    unfold TripO at h1
    simp only [Option.some.injEq, HO.tup.injEq, List.cons.injEq, V.int.injEq, V.str.injEq, and_true] at h1
    obtain ⟨a, b, c⟩ := h1
    rw [a, b, c]
  have found : ∀ p ∈ L, find (.ref p.1) = some p := fun p hp => by
    show L.find? _ = _
    cases e : L.find? (fun q => Value.ref q.1 == Value.ref p.1) with
    | none =>
      rw [List.find?_eq_none] at e
      exact absurd (beq_self_eq_true _) (e p hp)
    | some q =>
      have m := List.mem_of_find?_eq_some e
      have y := List.find?_some e
      have y : q.1 = p.1 := by simpa using y
      rw [addr q m p hp y]
  have kof : ∀ p ∈ L, k (.ref p.1) = p.2.1 := fun p hp => by
    show ((find (.ref p.1)).map (·.2.1)).getD (0, 0) = _
    rw [found p hp]
    rfl
  have txof : ∀ p ∈ L, tx (.ref p.1) = p.2.2 := fun p hp => by
    show ((find (.ref p.1)).map (·.2.2)).getD Str.empty = _
    rw [found p hp]
    rfl
  have eits : its = L.map fun p => Value.ref p.1 := vals_refs rv
  have inits : ∀ v ∈ its, ∃ p ∈ L, v = Value.ref p.1 := fun v hv => by
    rw [eits] at hv
    obtain ⟨p, hp, e⟩ := List.mem_map.mp hv
    exact ⟨p, hp, e.symm⟩
  refine sorted_trips (k := k) (tx := tx) hl.isList (by rw [← rv.length]; exact hz) (fun v hv => ?_) (fun v hv u hu e => ?_) fun h' d out h1 h2 kp hd hn => ?_
  · obtain ⟨p, hp, rfl⟩ := inits v hv
    rw [kof p hp, txof p hp]
    obtain ⟨_, its2, r2, o, ho, hc, n, hd⟩ := I.hok _ _ (hx p hp)
    match its2, r2, hd with
    | _, .cons ri (.cons rj (.cons rz .nil)), hd =>
      obtain ⟨t1, rfl⟩ := ri
      obtain ⟨t2, rfl⟩ := rj
      obtain ⟨t3, rfl⟩ := rz
      exact ⟨p.1, o, t1, t2, t3, n, rfl, ho, hc, hd⟩
  · obtain ⟨p, hp, rfl⟩ := inits v hv
    obtain ⟨p', hp', rfl⟩ := inits u hu
    rw [kof p hp, kof p' hp'] at e
    obtain ⟨i, hi⟩ := List.mem_iff_getElem?.mp hp
    obtain ⟨j, hj⟩ := List.mem_iff_getElem?.mp hp'
    obtain ⟨hi1, hi2⟩ := List.getElem?_eq_some_iff.mp hi
    obtain ⟨hj1, hj2⟩ := List.getElem?_eq_some_iff.mp hj
    have nd2 := List.pairwise_iff_getElem.mp nd
    have ij : i = j := by
      rcases Nat.lt_trichotomy i j with c | c | c
      · exact absurd (by rw [List.getElem_map, List.getElem_map, hi2, hj2, e]) (nd2 i j (by simpa using hi1) (by simpa using hj1) c)
      · exact c
      · exact absurd (by rw [List.getElem_map, List.getElem_map, hi2, hj2, e]) (nd2 j i (by simpa using hj1) (by simpa using hi1) c)
    subst ij
    rw [hi] at hj
    cases hj
    rfl
  · obtain ⟨n, hn⟩ := hn
    let g : Value → Trip := fun v => (find v).getD (0, (0, 0), Str.empty)
    have gof : ∀ p ∈ L, g (.ref p.1) = p := fun p hp => by
      show (find (.ref p.1)).getD _ = p
      rw [found p hp]
      rfl
    have pm : (out.map g).Perm L := by
      have y := h2.perm.map g
      rw [eits, List.map_map] at y
      have e : L.map (g ∘ fun p => Value.ref p.1) = L := (List.map_congr_left fun p hp => gof p hp).trans (List.map_id L)
      rw [e] at y
      exact y
    have outin : ∀ v ∈ out, ∃ p ∈ L, v = Value.ref p.1 := fun v hv => inits v (h2.perm.mem_iff.mp hv)
    have eo : out = (out.map g).map fun p => Value.ref p.1 := by
      rw [List.map_map]
      refine (List.map_id out).symm.trans (List.map_congr_left fun v hv => ?_)
      obtain ⟨p, hp, rfl⟩ := outin v hv
      show _ = Value.ref (g (.ref p.1)).1
      rw [gof p hp]
      rfl
    have pw : (out.map g).Pairwise (fun p q => SrtO.lexB q.2.1 p.2.1 = false) := by
      refine List.pairwise_map.mpr (h1.imp_of_mem fun {v u} hv hu e => ?_)
      obtain ⟨p, hp, rfl⟩ := outin v hv
      obtain ⟨p', hp', rfl⟩ := outin u hu
      rw [gof p hp, gof p' hp']
      have e : SrtO.lexB (k (.ref p'.1)) (k (.ref p.1)) = false := e
      rw [kof p hp, kof p' hp'] at e
      exact e
    have vb : Vals ((out.map g).map fun p => V.ref p.1) out := by
      conv => rhs; rw [eo]
      generalize out.map g = M
      induction M with
      | nil => exact .nil
      | cons p M ih => exact .cons rfl ih
    refine ⟨.ref d, upd H d (.lst ((out.map g).map fun p => V.ref p.1)), I.laid (t' := s.toks) kp hd ⟨?_, out, n, vb, hn⟩, rfl, q _ d pm pw (I.hok.fresh hd)⟩
    rw [List.length_map, pm.length_eq]
    rw [List.length_map] at hz
    exact hz
end Pm
/-! ### more rules: sorted, deep ==, text[::-1], kinds of values -/
namespace Tr
open PySem PySem.Spec PyProof.Rows L2 SX
/-! text[::-1] -/
def tRevS (te : TE) : TE := fun σ H Q => te σ H fun x H1 => ∃ z : List Nat, x = .str (S z) ∧ z.length ≤ 100000 ∧ Q (.str (S z.reverse)) H1
theorem pe_revS {X : Cx} {e : Expr} {te : TE} {k : Nat} {p1 p2 p3 pos : Pos} (he : PE X e te) : PE X (.Subscript e (.Slice none none (some (.UnaryOp .USub (.Constant (.int 1) k p1) p2)) p3) pos) (tRevS te) := by
  refine ⟨fun pins s σ H Q I h => ?_⟩
  refine Subscript_ (thn (he.run pins s σ H _ I h) fun v s1 ⟨x, H1, I1, r1, q1⟩ => ?_)
  obtain ⟨z, ex, lz, q⟩ := q1
  subst ex
  obtain ⟨t, rfl⟩ := r1
  have hst : PO X (some (.UnaryOp .USub (.Constant (.int 1) k p1) p2)) (tPart (tUn (rU fun i => .int (-i)) (tC (.int 1)))) := po_some (pe_un un_neg pe_int)
  refine wpAny_Slice (thn (po_none.run pins s1 σ H1 (fun o H2 => o = none ∧ H2 = H1) I1 ⟨rfl, rfl⟩) fun vl s2 ⟨l, H2, I2, pl, el, e2⟩ => ?_)
  subst el e2
  refine thn (po_none.run pins s2 σ H2 (fun o H3 => o = none ∧ H3 = H2) I2 ⟨rfl, rfl⟩) fun vu s3 ⟨u, H3, I3, pu, eu, e3⟩ => ?_
  subst eu e3
  refine thn (hst.run pins s3 σ H3 (fun o H4 => o = some (-1) ∧ H4 = H3) I3 ⟨1, rfl, -1, rfl, rfl, rfl⟩) fun vs s4 ⟨o, H4, I4, ps, eo, e4⟩ => ?_
  subst eo e4
  have I5 : Inv X pins σ H4 { s4 with heap := s4.heap.push { cls := .type "slice", data := .fields #[vl, vu, vs] } } := I4.kept (t' := s4.toks) fun b ob q => Heap.get?_push_of_some _ q
  show wpAny (model X.prog X.w) X.A (subscriptTail e (.Slice none none (some (.UnaryOp .USub (.Constant (.int 1) k p1) p2)) p3) (.str (S z) t) (.ref s4.heap.objs.size)) (EP X pins σ Q) X.xe { s4 with heap := s4.heap.push { cls := .type "slice", data := .fields #[vl, vu, vs] } }
  refine tail_any (ops := [.str (S z) t, .ref s4.heap.objs.size]) (typeIs_str _ _ _) (F.slot_str_getitem.lookup) ?_ (by with_unfolding_all rfl)
  obtain ⟨l', rfl, el⟩ := IsPart.raw pl
  obtain ⟨u', rfl, eu⟩ := IsPart.raw pu
  obtain ⟨w', rfl, ew⟩ := IsPart.raw ps
  have hw : ∃ tw, w' = some (-1, tw) := by
    cases w' with
    | none => cases ew
    | some p => obtain ⟨a, b⟩ := p; cases ew; exact ⟨b, rfl⟩
  obtain ⟨tw, rfl⟩ := hw
  have hl : l' = none := by
    cases l' with
    | none => rfl
    | some p => cases el
  have hu : u' = none := by
    cases u' with
    | none => rfl
    | some p => cases eu
  subst hl hu
  refine wpAny_getItem_str_slice (l := none) (u := none) (st := some (-1, tw)) ⟨_, Heap.get?_push_size _ rfl, rfl, rfl⟩ rfl ?_
  have e : (⟨((Builtin.Str.strSliceIndices none none (-1) (S z).length).filterMap ((S z).cps[·]?)).toArray⟩ : Str) = S z.reverse := by
    rw [lenS, PyProof.Rows.picked_rev]
    have e2 : (List.range z.length).map (fun k => z.length - 1 - k) = (List.range z.length).reverse := PySem.W.krv_range z.length
    rw [e2, List.filterMap_reverse]
    have e3 := PySem.W.krv_all (S z).cps
    have e4 : (S z).cps.size = z.length := by rw [← Array.length_toList, cpsS]
    rw [e4, cpsS] at e3
    rw [e3]
  show Made.post (if ((-1 : Int) == 1 && _) = true then Made.val (.str (S z) t) else Made.str ⟨((Builtin.Str.strSliceIndices none none (-1) (S z).length).filterMap ((S z).cps[·]?)).toArray⟩) (EP X pins σ Q) _
  rw [if_neg (by simp), e]
  exact ⟨by rw [lenS, List.length_reverse]; exact sz5 lz, .str _, _, I5.tok _, ⟨_, rfl⟩, q⟩
section
variable {X : Cx} {B : Hp × Hp} {Γ : Env} {e a b c : Expr} {es : List Expr} {x y z : D} {pos : Pos} {u w : List Nat}
theorem t_revS {k : Nat} {p1 p2 p3 : Pos} (h : Ok X B e Γ (.tx u)) (l : u.length ≤ 100000) : Ok X B (.Subscript e (.Slice none none (some (.UnaryOp .USub (.Constant (.int 1) k p1) p2)) p3) pos) Γ (.tx u.reverse) := PE.weak (pe_revS h) fun σ H Q ⟨F, w, k⟩ => ⟨F, w, fun v F1 H1 w1 g1 r1 => by
  cases r1
  exact ⟨u, rfl, l, k _ F1 H1 w1 g1 (.str _)⟩⟩
/-! deep == of like data -/
mutual
def toPy : D → PyData
  | .non => .none
  | .bl b => .bool b
  | .int i => .int i
  | .str s => .str s
  | .tup xs => .tuple (toPys xs)
  | .lst xs => .list (toPys xs)
  | .obj _ _ => .none
  | .val _ => .none
  | .hp _ => .none
def toPys : List D → List PyData
  | [] => []
  | x :: xs => toPy x :: toPys xs
end
mutual
/-- data alone -/
def plain : D → Bool
  | .obj _ _ => false
  | .val _ => false
  | .hp _ => false
  | .tup xs => plains xs
  | .lst xs => plains xs
  | _ => true
def plains : List D → Bool
  | [] => true
  | x :: xs => plain x && plains xs
end
mutual
theorem dp_rep {K : PySem.W.Frag} {F H : Hp} (fh : Same F H) : ∀ {v : V} {d : D}, Rep K F v d → plain d = true → Dp K H v (toPy d)
  | _, _, .non, _ => .non
  | _, _, .bl b, _ => .bl b
  | _, _, .int i, _ => .int i
  | _, _, .str s, _ => .str s
  | _, _, .tup h r, p => .tup (toft (fh _ _ h)) (dps_rep fh r (by rwa [plain] at p))
  | _, _, .lst h r, p => .lst (tofl (fh _ _ h)) (dps_rep fh r (by rwa [plain] at p))
  | _, _, .obj h r, p => by cases p
  | _, _, .val v, p => by cases p
  | _, _, .hp _ _, p => by cases p
theorem dps_rep {K : PySem.W.Frag} {F H : Hp} (fh : Same F H) : ∀ {v : List V} {d : List D}, Reps K F v d → plains d = true → DpAll K H v (toPys d)
  | _, _, .nil, _ => .nil
  | _, _, .cons h r, p => by
    rw [plains, Bool.and_eq_true] at p
    exact .cons (dp_rep fh h p.1) (dps_rep fh r p.2)
end
theorem t_eqD (hu : X.A.units + 64 < cLine) (ha : Ok X B a Γ x) (hb : Ok X B b Γ y) (h : plain x = true ∧ SeqAt.shaped (toPy x) = true ∧ x = y) : Ok X B (.Compare a [.Eq] [b] pos) Γ (.bl true) := ev_op (fun p q => pe_cmpR (op_eqD hu) p q (nomark _)) ha hb (r2_val fun F H fh v w rv rw' Q q => by
  obtain ⟨h1, h2, rfl⟩ := h
  refine ⟨_, _, dp_rep fh rv h1, dp_rep fh rw' h1, h2, h2, ?_⟩
  rw [SeqAt.eqv_refl _ (SeqAt.canLay_of_shaped h2)]
  exact q _ fun _ => .bl _)
theorem t_neD (hu : X.A.units + 64 < cLine) (ha : Ok X B a Γ x) (hb : Ok X B b Γ y) (h : plain x = true ∧ SeqAt.shaped (toPy x) = true ∧ x = y) : Ok X B (.Compare a [.NotEq] [b] pos) Γ (.bl false) := ev_op (fun p q => pe_cmpR (op_neD hu) p q (nomark _)) ha hb (r2_val fun F H fh v w rv rw' Q q => by
  obtain ⟨h1, h2, rfl⟩ := h
  refine ⟨_, _, dp_rep fh rv h1, dp_rep fh rw' h1, h2, h2, ?_⟩
  rw [SeqAt.eqv_refl _ (SeqAt.canLay_of_shaped h2)]
  exact q _ fun _ => .bl _)
/-! comparisons as tests -/
theorem o_op {r : R2} {p : Bool} (ho : ∀ {ta tb : TE}, PE X a ta → PE X b tb → PT X e (tTest (tOp r ta tb))) (ha : Ok X B a Γ x) (hb : Ok X B b Γ y) (h : R2T X.K r x y (.bl p)) : OkT X B e Γ p := PT.weak (ho ha hb) fun σ H Q ⟨F, w, k⟩ =>
  ⟨F, w, fun v F1 H1 w1 g1 r1 => ⟨F1, w1, fun u F2 H2 w2 g2 r2 => h F2 H2 w2.fh v u (r1.mono g2.f) r2 _ fun q F3 H3 g3 fh r3 => by
    cases r3
    exact ⟨p, rfl, k F3 H3 (w2.gr g3 fh) ((g1.trans g2).trans g3)⟩⟩⟩
theorem r2_inS {K : PySem.W.Frag} {n : Nat} : R2T K (fun x y H Q => ∃ (c : Nat) (z : Str), x = .str ⟨#[c]⟩ ∧ y = .str z ∧ Q (.bl (decide (c ∈ z.cps.toList))) H) (.tx [n]) (.tx w) (.bl (decide (n ∈ w))) := r2_val fun F H fh v w' rv rw Q q => by
  cases rv; cases rw
  refine ⟨n, S w, rfl, rfl, ?_⟩
  rw [cpsS]
  exact q _ fun _ => .bl _
theorem r2_notInS {K : PySem.W.Frag} {n : Nat} : R2T K (fun x y H Q => ∃ (c : Nat) (z : Str), x = .str ⟨#[c]⟩ ∧ y = .str z ∧ Q (.bl (!decide (c ∈ z.cps.toList))) H) (.tx [n]) (.tx w) (.bl (!decide (n ∈ w))) := r2_val fun F H fh v w' rv rw Q q => by
  cases rv; cases rw
  refine ⟨n, S w, rfl, rfl, ?_⟩
  rw [cpsS]
  exact q _ fun _ => .bl _
theorem r2_eqDD {K : PySem.W.Frag} (h : plain x = true ∧ SeqAt.shaped (toPy x) = true ∧ x = y) : R2T K (rEqD K) x y (.bl true) := r2_val fun F H fh v w rv rw' Q q => by
  obtain ⟨h1, h2, rfl⟩ := h
  refine ⟨_, _, dp_rep fh rv h1, dp_rep fh rw' h1, h2, h2, ?_⟩
  rw [SeqAt.eqv_refl _ (SeqAt.canLay_of_shaped h2)]
  exact q _ fun _ => .bl _
theorem r2_neDD {K : PySem.W.Frag} (h : plain x = true ∧ SeqAt.shaped (toPy x) = true ∧ x = y) : R2T K (rNeD K) x y (.bl false) := r2_val fun F H fh v w rv rw' Q q => by
  obtain ⟨h1, h2, rfl⟩ := h
  refine ⟨_, _, dp_rep fh rv h1, dp_rep fh rw' h1, h2, h2, ?_⟩
  rw [SeqAt.eqv_refl _ (SeqAt.canLay_of_shaped h2)]
  exact q _ fun _ => .bl _
/-! sorted(text), sorted(triples) -/
theorem rc_sortTx {K : PySem.W.Frag} (l : u.length ≤ 1000) : RCT K Pm.rSortedTx [.tx u] (.lst ((Pm.asc u).map fun c => .tx [c])) := fun F H fh vs r Q q => by
  cases r with
  | cons h r =>
    cases r
    cases h
    refine ⟨u, rfl, l, fun ys p pm pw n => ?_⟩
    rw [Pm.asc_of pm pw]
    refine q _ _ _ (Gr.new (o := .lst ((Pm.ones (Pm.asc u)).map V.str)) fh n) (same_both fh) (.lst upd_same ?_)
    have key : ∀ (G : Hp) (zs : List Nat), Reps K G ((Pm.ones zs).map V.str) (zs.map fun c => .tx [c]) := fun G zs => by
      induction zs with
      | nil => exact .nil
      | cons z zs ih => exact .cons (.str _) ih
    exact key _ _
theorem rm_joinS {K : PySem.W.Frag} (l : u.length ≤ 1000) : RMT K (rJoinT K) (.tx []) [.lst ((Pm.asc u).map fun c => .tx [c])] (.tx (Pm.asc u)) := by
  have h := rm_join (K := K) (u := []) (zs := (Pm.asc u).map fun c => [c]) 1 (fun z m => by obtain ⟨c, _, rfl⟩ := List.mem_map.mp m; exact Nat.le_refl _) (by
    rw [List.length_map, (Pm.asc_perm u).length_eq]
    show u.length * 1 ≤ _
    omega)
  rw [List.map_map, Pm.joinL_one] at h
  exact h
def rListO (K : PySem.W.Frag) : List V → Hp → VK → Prop := fun xs H Q => ∃ p ys, xs = [.ref p] ∧ (SqL K H p ys ∨ SqT K H p ys) ∧ ∀ l, H l = none → Q (.ref l) (upd H l (.lst ys))
theorem rc_list {K : PySem.W.Frag} {ds : List D} : RCT K (rListO K) [.lst ds] (.lst ds) := fun F H fh vs r Q q => by
  cases r with
  | cons h r =>
    cases r
    cases h with
    | @lst a us _ h1 r1 =>
      refine ⟨a, us, rfl, .inl (tofl (fh _ _ h1)), fun p n => ?_⟩
      have g := Gr.new (o := .lst us) fh n
      exact q _ _ _ g (same_both fh) (.lst upd_same (r1.mono g.f))
theorem s_appendM {α : Type} {s : Stmt} {i : Nat} (enc : α → D) (zs : List α) (k : α) (ho : ∀ {t : TA}, PA X es t → PS X s (tDrop (tBM X.K "list" rAppend (tVar i) t))) (g : Γ[i]? = some (.own (.l (zs.map enc)))) (h : OkA X B es Γ [enc k]) (l : zs.length < 100000) :
    OkS X B s Γ (.nx (Γ.set i (.own (.l ((zs ++ [k]).map enc))))) := by
  rw [List.map_append]
  exact s_append ho g h (by rw [List.length_map]; exact l)
/-- a test that is known to fail; a loop that only looks -/
theorem s_ifNo {c : Expr} {ss r : List Stmt} {ou : Out} (hc : OkT X B c Γ false) (hr : OkSs X B r Γ ou) : OkSs X B (.If c ss [] pos :: r) Γ ou :=
  PSs.weak (pss_cons (ps_if hc (PSs.when (p := False) (t := fun _ _ _ => True) fun z => z.elim) pss_nil) hr) fun D σ H ⟨F, w, k⟩ => ⟨F, w, fun F1 H1 w1 g1 => iteF ⟨F1, w1, k⟩⟩
theorem s_ifYes {c : Expr} {ss es r : List Stmt} {d : D} (hc : OkT X B c Γ true) (ha : OkSs X B ss Γ (.rt d)) : OkSs X B (.If c ss es pos :: r) Γ (.rt d) :=
  PSs.weak (pss_cons (ps_if hc ha (PSs.when (p := False) (t := fun _ _ _ => True) fun z => z.elim)) (PSs.when (p := False) (t := fun _ _ _ => True) fun z => z.elim)) fun D σ H ⟨F, w, k⟩ => ⟨F, w, fun F1 H1 w1 g1 => iteT ⟨F1, w1, k⟩⟩
theorem s_forNo {α : Type} {g : TG} {vs : List Nat} {body r : List Stmt} {s : Stmt} {tg : Expr} {ou : Out} (ks : List α) (enc : α → D) (bound : α → Env)
    (ho : ∀ {wi : TI} {tb : TS}, PI X tg e wi → PSs X body tb → PS X s (tFor wi g tb)) (hi : OkI X B tg e Γ (ks.map enc))
    (hg : ∀ (B : Hp × Hp) k, k ∈ ks → BindG X.K B vs g Γ (enc k) (bound k)) (hb : ∀ (B : Hp × Hp) k, k ∈ ks → OkSs X B body (bound k) (.nx Γ)) (hr : OkSs X B r Γ ou) : OkSs X B (s :: r) Γ ou := by
  have h := s_for (S := Unit) (vs := vs) (fun _ => Γ) (fun s _ => s) ks enc () (fun _ k => bound k) ho hi (fun B _ k m => hg B k m) fun B i k s h1 _ => hb B k (List.mem_of_getElem? h1)
  exact s_cons h hr
theorem foldl_app {α β : Type} (f : α → β) : ∀ (ks : List α) (s : List β), ks.foldl (fun s k => s ++ [f k]) s = s ++ ks.map f
  | [], s => by simp
  | k :: ks, s => by rw [List.foldl_cons, foldl_app f ks, List.map_cons, List.append_assoc]; rfl
/-! a def keeps its promise -/
theorem spG_len {K : PySem.W.Frag} {G : List D → D → Prop} {n : Nat} (h : ∀ ds d, G ds d → ds.length = n) : ∀ vs H Q E, spG K G vs H Q E → vs.length = n := fun vs H Q E ⟨ds, d, g, F, _, r, _⟩ => by rw [r.length, h ds d g]
end
end Tr
/-! ### objects that are made: __init__ and C(..) -/
namespace Tr
open PySem PySem.Spec PyProof.Rows L2 SX
def putD (f : Str) (v : D) : List (Str × D) → List (Str × D)
  | [] => [(f, v)]
  | (g, x) :: r => if g = f then (g, v) :: r else (g, x) :: putD f v r
theorem FReps.put {K : PySem.W.Frag} {F : Hp} {f : Str} {v : V} {d : D} (h : Rep K F v d) : ∀ {fv : List (Str × V)} {fs : List (Str × D)}, FReps K F fv fs → FReps K F (putF f v fv) (putD f d fs)
  | _, _, .nil => .cons h .nil
  | _, _, .cons (n := n) h0 r => by
    unfold putF putD
    by_cases e : n = f
    · rw [if_pos e, if_pos e]
      exact .cons h r
    · rw [if_neg e, if_neg e]
      exact .cons h0 (FReps.put h r)
theorem FReps.length {K : PySem.W.Frag} {F : Hp} : ∀ {fv : List (Str × V)} {fs : List (Str × D)}, FReps K F fv fs → fv.length = fs.length
  | _, _, .nil => rfl
  | _, _, .cons _ r => congrArg (· + 1) (FReps.length r)
/-- the heap without the thing at x -/
def wo (x : Addr) (H : Hp) : Hp := fun a => if a = x then none else H a
theorem wo_x (x : Addr) (H : Hp) : wo x H x = none := if_pos rfl
theorem wo_ne {x a : Addr} {H : Hp} (h : a ≠ x) : wo x H a = H a := if_neg h
theorem wo_same (x : Addr) (H : Hp) : Same (wo x H) H := fun a o e => by
  unfold wo at e
  split at e
  · cases e
  · exact e
/-- a promise of __init__: the new object at x gets the fields fs -/
def spI (K : PySem.W.Frag) (C : Addr) (G : List D → List (Str × D) → Prop) : Sp := fun vs H Q _ => ∃ ds fs, G ds fs ∧ ∃ x us dx F, vs = .ref x :: us ∧ H x = some (.ins C dx []) ∧ F x = none ∧ Same F H ∧ Reps K F us ds ∧
  ∀ F' H', Same F F' → (∀ a o, a ≠ x → H a = some o → H' a = some o) → (∀ a o, H a = some o → F a = none → F' a = none) → Same F' H' → (∃ fv, H' x = some (.ins C dx fv) ∧ FReps K F' fv fs) → Q .non H'
section
variable {X : Cx} {B : Hp × Hp} {Γ Γ' : Env} {e a b c o : Expr} {es : List Expr} {x y z d : D} {pos pos' : Pos} {s : Stmt} {i : Nat} {E : XK}
theorem s_expr (ho : ∀ {t : TE}, PE X e t → PS X s (tDrop t)) (h : Ok X B e Γ d) : OkS X B s Γ (.nx Γ) := PS.weak (ho h) fun D σ H ⟨F, w, k⟩ => ⟨F, w, fun v F' H' w' g r => k σ F' H' w'⟩
/-- self.f = e, while self is made -/
theorem s_fld {xa dx C : Addr} {f : Str} {fs : List (Str × D)} (ho : ∀ {tv : TE}, PE X e tv → PS X s (sFld X.K (tVar i) tv f)) (g : Γ[i]? = some (.own (.o xa dx C fs))) (h : Ok X B e Γ d) (c : Cls X.K C) (n : NoAttr X.K C f) (l : fs.length < 1000) :
    OkS X B s Γ (.nx (Γ.set i (.own (.o xa dx C (putD f d fs))))) := PS.weak (ho h) fun D σ H ⟨F, w, k⟩ => ⟨F, w, fun v F1 H1 w1 g1 r1 => by
  obtain ⟨p, hv, e, h0, hF, hp, r⟩ := w1.own g
  obtain ⟨rfl, fv, rfl, q⟩ := r.obj
  exact ⟨_, e, p, C, dx, fv, rfl, hp, c, n, by rw [q.length]; exact l, k _ F1 _ (w1.grow e g hp h0 hF (.o (q.put r1)))⟩⟩
/-- self.f read while self is made -/
theorem t_fldO {xa dx C : Addr} {f : Str} {fs : List (Str × D)} (ho : PE X e (tFld X.K (tVar i) f)) (g : Γ[i]? = some (.own (.o xa dx C fs))) (c : Cls X.K C) (n : NoAttr X.K C f) (l : fs.lookup f = some z) : Ok X B e Γ z := PE.weak ho fun σ H Q ⟨F, w, k⟩ => by
  obtain ⟨p, hv, e, h0, hF, hp, r⟩ := w.own g
  obtain ⟨rfl, fv, rfl, q⟩ := r.obj
  obtain ⟨v, ev, rv⟩ := q.look l
  exact ⟨_, e, p, C, dx, fv, v, rfl, hp, c, n, ev, k v F H w (Gr.refl _ _) rv⟩
/-- C(..) -/
theorem t_make {C : Addr} {sp : Sp} {ds : List D} {fs : List (Str × D)} (ho : ∀ {t : TA}, PA X es t → PE X e (tMake C sp [] E t)) (ha : OkA X B es Γ ds) (h : ∀ vs H Q, spI X.K C (fun ds' fs' => ds' = ds ∧ fs' = fs) vs H Q E → sp vs H Q E) : Ok X B e Γ (.obj C fs) :=
  PE.weak (ho ha) fun σ H Q ⟨F, w, k⟩ => ⟨F, w, fun vs F1 H1 w1 g1 r1 xa dx nx nd ne => by
    rw [List.append_nil]
    have keep : ∀ {a : Addr} {u : HO}, H1 a = some u → upd (upd H1 dx (.own xa)) xa (.ins C dx []) a = some u := fun {a u} e => by
      rw [upd_ne (ne_of_none e nx), upd_ne (ne_of_none e nd)]
      exact e
    refine h _ _ _ ⟨ds, fs, ⟨rfl, rfl⟩, xa, vs, dx, F1, rfl, upd_same, w1.fh.free nx, fun a u e => keep (w1.fh _ _ e), r1, fun F' H' sF sH ex fh hfv => ⟨rfl, ?_⟩⟩
    obtain ⟨fv, hx, hr⟩ := hfv
    have nF : F' xa = none := ex _ _ upd_same (w1.fh.free nx)
    have sx := sup (o := .ins C dx fv) nF
    have g : Gr F1 H1 (upd F' xa (.ins C dx fv)) H' := ⟨sF.trans sx, fun a u e => sH a u (ne_of_none e nx) (keep e), fun a u e n => by
      rw [upd_ne (ne_of_none e nx)]
      exact ex _ _ (keep e) n⟩
    have fh2 : Same (upd F' xa (.ins C dx fv)) H' := fun a u e => by
      by_cases y : a = xa
      · subst y
        rw [upd_same] at e
        rw [← e]
        exact hx
      · rw [upd_ne y] at e
        exact fh _ _ e
    exact k _ _ _ (w1.gr g fh2) (g1.trans g) (.obj upd_same (FReps.mono sx hr))⟩
theorem t_makeG {C : Addr} {G : List D → List (Str × D) → Prop} {ds : List D} {fs : List (Str × D)} (ho : ∀ {t : TA}, PA X es t → PE X e (tMake C (spI X.K C G) [] E t)) (ha : OkA X B es Γ ds) (h : G ds fs) : Ok X B e Γ (.obj C fs) :=
  t_make ho ha fun _ _ _ ⟨_, _, ⟨e1, e2⟩, r⟩ => ⟨ds, fs, h, by subst e1; subst e2; exact r⟩
end
/-- __init__ keeps its promise -/
theorem init_wish {K : PySem.W.Frag} {C : Addr} {N : List Str} {ds : List D} {fs : List (Str × D)} {vs us : List V} {xa dx : Addr} {F H : Hp} {Q : VK} {Γf : Env} (ev : vs = .ref xa :: us) (hx : H xa = some (.ins C dx [])) (nx : F xa = none) (fh : Same F H) (r : Reps K F us ds) (l : ds.length + 1 ≤ N.length)
    (k : ∀ F' H', Same F F' → (∀ a o, a ≠ xa → H a = some o → H' a = some o) → (∀ a o, H a = some o → F a = none → F' a = none) → Same F' H' → (∃ fv, H' xa = some (.ins C dx fv) ∧ FReps K F' fv fs) → Q .non H') (e0 : Γf[0]? = some (.own (.o xa dx C fs))) :
    tSt K (F, wo xa H) (.own (.o xa dx C []) :: ds.map Sl.d ++ List.replicate (N.length - (ds.length + 1)) .no) (.nx Γf) { nx := fun _ H' => Q .non H', rt := Q } (L2.start N vs) H := by
  subst ev
  have w0 := wd_start (K := K) (N := N.tail) fh r (by rw [r.length, List.length_tail]; omega)
  have es : L2.start N (.ref xa :: us) = some (.ref xa) :: L2.start N.tail us := by
    unfold L2.start
    rw [List.map_cons, List.length_cons, List.length_tail, List.cons_append]
    have : N.length - (us.length + 1) = N.length - 1 - us.length := by omega
    rw [this]
  have eg : (.own (.o xa dx C []) :: ds.map Sl.d ++ List.replicate (N.length - (ds.length + 1)) .no : Env) = .own (.o xa dx C []) :: (ds.map Sl.d ++ List.replicate (N.tail.length - ds.length) .no) := by
    rw [List.cons_append, List.length_tail]
    have : N.length - (ds.length + 1) = N.length - 1 - ds.length := by omega
    rw [this]
  rw [es, eg]
  have noown : ∀ (j : Nat) (c : Ow), (ds.map Sl.d ++ List.replicate (N.tail.length - ds.length) .no)[j]? = some (Sl.own c) → False := fun j c h => by
    by_cases lj : j < ds.length
    · rw [List.getElem?_append_left (by rw [List.length_map]; exact lj), List.getElem?_map] at h
      cases e : ds[j]? with
      | none => rw [e] at h; cases h
      | some d => rw [e] at h; cases h
    · rw [List.getElem?_append_right (by rw [List.length_map]; omega), List.getElem?_replicate] at h
      split at h <;> cases h
  refine ⟨F, ⟨Same.refl _, wo_same xa H, fh, fun _ _ _ h => h, by rw [List.length_cons, List.length_cons, w0.len], fun j o s h1 h2 => ?_, fun j m p xs ys ne h1 h2 h3 h4 => ?_⟩, fun σ' F' H' w' => ?_⟩
  · cases j with
    | zero =>
      cases h1; cases h2
      exact ⟨xa, _, rfl, wo_x xa H, nx, hx, .o .nil⟩
    | succ j =>
      have q := w0.sl j o s h1 h2
      cases s with
      | no => trivial
      | d x => exact q
      | own c => exact (noown j c h2).elim
  · cases j with
    | zero =>
      cases m with
      | zero => exact ne rfl
      | succ m => exact noown m ys h4
    | succ j => exact noown j xs h3
  · obtain ⟨p, ho, e, h0, hF, hp, q⟩ := w'.own e0
    obtain ⟨rfl, fv, rfl, qf⟩ := q.obj
    refine k F' H' w'.ff (fun a o n h => w'.hh a o (by show wo p H a = some o; rw [wo_ne n]; exact h)) (fun a o h n => ?_) w'.fh ⟨fv, hp, qf⟩
    by_cases y : a = p
    · rw [y]
      exact hF
    · exact w'.ex a o (by show wo p H a = some o; rw [wo_ne y]; exact h) n
end Tr
namespace Pm
open PySem PySem.Spec PyProof.Rows L2 SX Tr
theorem none_S : ("" : Str) = S [] := by decide +kernel
theorem space_S : (" " : Str) = S [32] := by decide +kernel
theorem empty_S : Str.empty = S [] := by decide +kernel
theorem strOk_S {z : List Nat} (h : ∀ c ∈ z, c < 256) : PyData.strOk (S z) = true := by
  show (S z).cps.all (· < 0x110000) = true
  rw [Array.all_eq_true]
  intro i hi
  have m := h _ (List.getElem_mem (l := z) (n := i) (by simpa using hi))
  exact decide_eq_true (Nat.lt_of_lt_of_le (by simpa using m) (by decide))
def mb (b : Addr) (H : Hp) : Hp := fun a => if a = b then none else H a
theorem mb_same (b : Addr) (H : Hp) : Same (mb b H) H := fun a o e => by
  unfold mb at e
  split at e
  · cases e
  · exact e
theorem mb_b (b : Addr) (H : Hp) : mb b H b = none := if_pos rfl
theorem mb_ne {b a : Addr} {H : Hp} (h : a ≠ b) : mb b H a = H a := if_neg h
theorem mb_of {b a : Addr} {H : Hp} {o : HO} (e : H a = some o) (n : a ≠ b) : mb b H a = some o := by rw [mb_ne n]; exact e
theorem mb_mono {b : Addr} {H H' : Hp} (s : SameBut b H H') : Same (mb b H) (mb b H') := fun a o e => by
  by_cases h : a = b
  · rw [h, mb_b] at e
    cases e
  · rw [mb_ne h] at e ⊢
    exact s a o h e
theorem sb_of {b : Addr} {H H' : Hp} (s : Same H H') : SameBut b H H' := fun a o _ e => s a o e
theorem mb_in {b : Addr} {F' H' : Hp} (s : Same F' H') (n : F' b = none) : Same F' (mb b H') := fun a o e => mb_of (s a o e) fun y => by rw [y, n] at e; cases e
section
variable {K : PySem.W.Frag} {b l : Addr} {H : Hp}
/-- a pure def asked while the bag stands -/
theorem ask {G : List D → D → Prop} {vs : List V} {ds : List D} {d : D} {Q : VK} {E : XK} (hb : BagL H b l) (hG : G ds d) (r : Reps K (mb b H) vs ds) (k : ∀ v H', Same H H' → Rep K (mb b H') v d → Q v H') : spG K G vs H Q E := by
  obtain ⟨xs, e⟩ := bag_b hb
  exact ⟨ds, d, hG, mb b H, mb_same b H, r, fun v F' H' g fh rv => k v H' g.h (rv.mono (mb_in fh (g.x b _ e (mb_b b H))))⟩
end
end Pm
/-! ### a draw from the bag between statements over trees -/
namespace Pm
open PySem PySem.Spec PyProof.Rows L2 SX Tr
def cleanS : Sl → Sl
  | .own _ => .no
  | s => s
theorem cleanS_own {s : Sl} {c : Ow} (h : cleanS s = .own c) : False := by
  cases s <;> cases h
theorem drawn {K : PySem.W.Frag} {B : Hp × Hp} {F H H' : Hp} {σ : L2.St} {Γ : Tr.Env} {b l : Addr} (w : Wd K B F H σ Γ) (nb : F b = none) (s : SameBut b H H') : Wd K (mb b H', H') (mb b H') H' σ (Γ.map cleanS) := by
  have sF : Same F (mb b H') := fun a o e => by
    have n : a ≠ b := fun y => by rw [y, nb] at e; cases e
    exact mb_of (s a o n (w.fh _ _ e)) n
  have no : ∀ (j : Nat) (c : Ow), (Γ.map cleanS)[j]? = some (.own c) → False := fun j c h => by
    rw [List.getElem?_map] at h
    cases e : Γ[j]? with
    | none => rw [e] at h; cases h
    | some s =>
      rw [e] at h
      exact cleanS_own (Option.some.inj h)
  refine ⟨Same.refl _, Same.refl _, mb_same b H', fun _ _ _ h => h, by rw [List.length_map, w.len], fun j o s h1 h2 => ?_, fun j m p xs ys ne h1 h2 h3 h4 => no j xs h3⟩
  rw [List.getElem?_map] at h2
  cases e : Γ[j]? with
  | none => rw [e] at h2; cases h2
  | some s0 =>
    rw [e] at h2
    have q := w.sl j o s0 h1 e
    cases s0 with
    | no => cases h2; trivial
    | own c => cases h2; trivial
    | d x =>
      cases h2
      obtain ⟨v, ev, rv⟩ := q
      exact ⟨v, ev, rv.mono sF⟩
/-- the bag is none of what is frozen -/
theorem bag_out {K : PySem.W.Frag} {b l : Addr} {H0 F H : Hp} {σ : L2.St} {Γ : Tr.Env} (w : Wd K (mb b H0, H0) F H σ Γ) (hb : BagL H0 b l) : F b = none := by
  obtain ⟨xs, e⟩ := bag_b hb
  exact w.ex b _ e (mb_b b H0)
/-- all but the bag, with what the slots hold -/
theorem wd_bag {K : PySem.W.Frag} {b : Addr} {H : Hp} {σ : L2.St} {Γ : Tr.Env} (len : σ.length = Γ.length) (sl : ∀ (i : Nat) (o : Option V) (s : Sl), σ[i]? = some o → Γ[i]? = some s → s = .no ∨ ∃ x v, s = .d x ∧ o = some v ∧ Rep K (mb b H) v x) : Wd K (mb b H, H) (mb b H) H σ Γ := by
  refine ⟨Same.refl _, Same.refl _, mb_same b H, fun _ _ _ h => h, len, fun j o s h1 h2 => ?_, fun j m p xs ys ne h1 h2 h3 h4 => ?_⟩
  · rcases sl j o s h1 h2 with rfl | ⟨x, v, rfl, rfl, r⟩
    · trivial
    · exact ⟨v, rfl, r⟩
  · rcases sl j _ _ h1 h3 with e | ⟨x, v, e, _⟩ <;> cases e
end Pm
namespace Pm
open PySem PySem.Spec PyProof.Rows L2 SX
/-! ### a def that is called where an error is handled, whatever error it is -/
structure FnW (P : Program) (w : World) (K : PySem.W.Frag) (mg : Str → Option Value) (base : Heap) (CXf : CXT) (k : Nat) (f : Addr) (fd : FuncData) (ps : List Str) (sp : Sp) : Prop where
  len : ∀ vs H Q E, sp vs H Q E → vs.length = ps.length
  run : ∀ (A : Around) (outer : List Env) (s : Shared) (H : Hp) (args : Args) (us : List Value) (vs : List V) (Q : VK) (E : XK) (p : Addr × Obj), L2H.RoomH k A → L2H.PinOk outer H s p → Env0 P w K mg base A outer s H →
    BindsTo s fd args (ps.zip us) → Vals vs us → sp vs H Q E → codeAny (model P w) A (.call (.ref f) args) (CR CXf outer P w H s Q E) s
theorem fnW_of {CXf : CXT} {P : Program} {w : World} {K : PySem.W.Frag} {mg : Str → Option Value} {base : Heap} {k : Nat} {x qual : Str} {st : Stmt} {f : Addr} {fd : FuncData} {N ps : List Str} {sp : Sp} (F : Fun K x qual st f fd) (S : FnScope N ps (defScope st))
    (len : ∀ vs H Q E, sp vs H Q E → vs.length = ps.length)
    (body : ∀ (cdv : Value) (A : Around) (outer : List Env) (s : Shared) (H : Hp) (vs : List V) (Q : VK) (E : XK) (p : Addr × Obj), L2H.RoomH k (A.deeper (envOfC qual (defScope st) s.heap.objs.size f cdv)) → sp vs H Q E →
      ∃ t, PSs (L2H.cxH CXf P w K mg base N qual (defScope st) f cdv A outer s H E p) (defBody st) t ∧ t { nx := fun _ G => Q .non G, rt := Q } (L2.start N vs) H) : FnW P w K mg base CXf (k + 1) f fd ps sp := by
  obtain ⟨oc, od, kV, doc, pm, an, cdv, ct, osl, rfl, lk, hcd⟩ := F.ex
  constructor
  case len => exact len
  case run =>
    intro A outer s H args us vs Q E p room pin env0 bind rv asked
    have few := len _ _ _ _ asked
    have kin : K.In s.heap := env0.mod.kin.keeps fun b o e => (env0.bs b o e).1
    have unlimited : s.heap.NoLimit := env0.mod.nolimit.keeps fun b o e => (env0.bs b o e).1
    have kinds : ∀ y ∈ ps.zip us, (defScope st).names.lookup y.1 = some .local ∨ ((defScope st).names.lookup y.1 = some .cell ∧ ((cellsFrom (s.heap.objs.size + 1) (defScope st).names []).lookup y.1).isSome = true) := by
      rintro ⟨n, v⟩ hy
      rcases S.par n (List.of_mem_zip hy).1 with q | q
      · exact Or.inl q
      · exact Or.inr ⟨q, PySem.W.cellsFrom_some _ _ _ (.inl q)⟩
    refine codeAny_call_function room.depth (kin _ _ lk) rfl S.co S.gen rfl (PySem.W.codeRec_of kin hcd) (bind _ _ _ _ (wpAny_newFunctionEnv_cells S.kind kinds fun env he s1 call => ?_))
    subst he
    refine ⟨unlimited.keeps call.toInCall.keep, codeAny_func ?_⟩
    obtain ⟨t, ht, read⟩ := body cdv A outer s H vs Q E p (room.deeper _) asked
    have I := L2H.inv_startH (CX := CXf) (E := E) S pin env0 few rv call
    refine wpAny_mono (ht.run [] s1 (L2.start N vs) H _ I read) (fun fl s2 z => ?_) fun _ _ z => z
    cases fl with
    | ret u =>
      obtain ⟨v, _, G, J, ru, q⟩ := z
      exact ⟨v, G, J.os, J.bare, J.base, J.hok, ru, q⟩
    | next =>
      obtain ⟨_, G, J, q⟩ := z
      exact ⟨V.non, G, J.os, J.bare, J.base, J.hok, rfl, q⟩
    | brk =>
      obtain ⟨_, _, _, q⟩ := z
      exact q.elim
    | cont =>
      obtain ⟨_, _, _, q⟩ := z
      exact q.elim
section
variable {X : Cx} {CXf : CXT} {k : Nat} {f : Addr} {fd : FuncData} {ps : List Str} {sp : Sp} {x : Str} {q pos : Pos} {e : Expr} {es : List Expr} {t : TA}
/-- f(e, ..) where something is pinned; nothing that is raised leaves f -/
theorem pe_callW {p : Addr × Obj} (F : FnW X.prog X.w X.K X.mg X.base CX0 k f fd ps sp) (hr : L2H.RoomH k X.A) (hp : p ∈ X.pn) (hg : Gl X x) (hm : X.mg x = some (.ref f)) (hk : PySem.W.keepIn X.K (.ref f) = true) (hb : Binds X.K fd ps []) (ha : PA X (e :: es) t)
    (dbg : (x == ("__debug__" : Str)) = false := by decide) (st : starEach (e :: es) X.env = (false, eval e X.env) :: starEach es X.env := by rfl) (pl : (backTo pos (starEach es X.env)).any (·.1) = false := by rfl) :
    PE X (.Call (.Name x q) (e :: es) [] pos) (tCall sp [] E0 t) := by
  refine ⟨fun pins s σ H Q I h => wpAny_Call_Name_kw (ld_glob I hg hm ?_ dbg)⟩
  refine PySem.W.callWith_K (h₀ := X.base) I.ok.mod.kin hk (thn (ha.run pos pins s σ H _ I h) fun us s1 ⟨vs, H1, I1, rv, asked⟩ => ⟨I1.kIn, ?_⟩) st pl
  have asked : sp (vs ++ []) H1 Q E0 := asked
  rw [List.append_nil] at asked
  show wpAny _ _ (call (.ref f) us) _ _ _
  have len : us.length = ps.length := rv.length.symm.trans (F.len _ _ _ _ asked)
  have bind := hb s1 us I1.kIn (by rw [List.append_nil]; exact len)
  rw [List.append_nil] at bind
  obtain ⟨p1, p2, p3, p4, p5⟩ := I1.pin p (List.mem_append_left _ hp)
  have pin : L2H.PinOk X.stack H1 s1 p := ⟨p1, p2, fun hm => (List.mem_cons.mp (I1.stkSub p.1 hm)).elim p3 p4, p5⟩
  refine wpAny_call (codeAny_mono (F.run X.A X.stack s1 H1 ⟨us, []⟩ us vs Q E0 p hr pin I1.env0 bind rv asked) fun r s2 z => ?_)
  cases r with
  | error er => exact z.elim
  | ok fl =>
    cases fl with
    | ret u => exact I1.after z
    | next => exact z.elim
    | brk => exact z.elim
    | cont => exact z.elim
end
end Pm
namespace Pm
open PySem PySem.Spec PyProof.Rows L2 SX
/-! ### try with several clauses «except C as e», all with the same name -/
abbrev Suites := List (Value × (Addr → Value → Option Addr → TS))
/-- what the clauses wish, one after the other; the error goes into slot i, which is empty behind the suite -/
def wClauses (K : PySem.W.Frag) (i : Nat) (Wout : WX) (D : Ends) : Suites → WX
  | [] => Wout
  | (c, ts) :: r => fun cls d σ H => ∃ b, PySem.W.exmOne K cls c = some b ∧
      (b = true → ∀ a, H a = none → ts a cls d ⟨fun σ2 H2 => D.nx (σ2.set i none) H2, D.rt, fun σ2 H2 => D.bk (σ2.set i none) H2, fun σ2 H2 => D.ct (σ2.set i none) H2⟩ (σ.set i (some (.ref a))) H) ∧ (b = false → wClauses K i Wout D r cls d σ H)
inductive Clauses (X : Cx) (n : Str) : List ExceptHandler → Suites → Prop
  | nil : Clauses X n [] []
  | cons {x : Str} {c : Value} {ts : Addr → Value → Option Addr → TS} {s0 : Stmt} {ss : List Stmt} {p1 p2 : Pos} {hds : List ExceptHandler} {l : Suites} (named : Names X x c)
      (suite : ∀ (a : Addr) (oe : Obj) (cls : Value) (d : Option Addr) (pn : List (Addr × Obj)), Zc cls d oe → (∃ vs, oe.data = .fields vs) → PSs (X.suite a ((a, oe) :: pn)) (s0 :: ss) (ts a cls d)) (rest : Clauses X n hds l) :
      Clauses X n (.ExceptHandler (some (.Name x p1)) (some n) (s0 :: ss) p2 :: hds) ((c, ts) :: l)
section
variable {X : Cx} {n : Str} {i : Nat} {body : List Stmt} {h0 : ExceptHandler} {hds : List ExceptHandler} {l : Suites} {pos : Pos} {tb : WX → TS} {Wout : WX}
theorem ps_try_clauses (stk : X.stack = X.env :: X.outer) (fr : X.env.frame = some X.env.locals) (nd : X.N.Nodup) (slot : X.N[i]? = some n) (loc : X.env.kindOf n = some .local) (out : Takes X Wout)
    (hbody : ∀ (W : WX) (pn : List (Addr × Obj)) (xe : Value → Shared → Prop), Takes (X.tr pn xe) W → PassesOwn (model X.prog X.w) X.A X.env xe → PSs (X.tr pn xe) body (tb W)) (hcl : Clauses X n (h0 :: hds) l) :
    PS X (.Try body (h0 :: hds) [] [] pos) (fun D σ H => tb (wClauses X.K i Wout D l) D σ H) := by
  constructor
  intro pins s σ H D I asked
  have good := I.ok
  have frames : X.A.frames = some (X.env :: X.outer) := by rw [good.frames, stk]
  have lc : Loc X.env.scope n := Or.inl loc
  refine wpAny_Try_except ?_
  refine wpAny_mono ((hbody (wClauses X.K i Wout D l) (X.pn ++ pins) (fun e s1 => wpAny (model X.prog X.w) X.A (noteFrame e X.env) (fun _ s2 => wpAny (model X.prog X.w) X.A (setFlight e none)
    (fun _ s3 => wpAny (model X.prog X.w) X.A (handleBy e X.env (h0 :: hds)) (SP X pins D) X.xe s3) X.xe s2) X.xe s1) (fun u s1 raised => ?_) PassesOwn.looking).run [] s σ H D (I.toTry _) asked) (fun fl s1 z => ?_) (fun _ _ z => z)
  case _ =>
    obtain ⟨a, B, sI, pins1, σ1, H1, cls, d, rfl, J0, nb, up, sky, na, os, bare, wish⟩ := raised
    have J : L2.Inv X pins σ1 H1 sI := J0.ofTry good
    show wpAny (model X.prog X.w) X.A (noteFrame (.ref a) X.env) _ _ _
    refine Sky.land Zc.steady frames fr (by rw [← stk]; exact sky) fun g fly up2 => ?_
    have J1 : L2.Inv X pins σ1 H1 { s1 with heap := g } := J.landed nb fly.1 (up.trans up2) os bare
    obtain ⟨o1, v1, at1, z1, d1⟩ := fly.there
    have outside : a ∉ frs (X.env :: X.outer) := fun m => by
      obtain ⟨_, o, eo, nf⟩ := fly.2.2.1.mem m
      rw [at1] at eo
      cases eo
      exact nf _ d1
    have notL : a ≠ X.env.locals := fun z => outside (List.mem_filterMap.mpr ⟨X.env, List.mem_cons_self, by rw [fr, z]⟩)
    have notF : a ∉ X.fs := fun m => by
      obtain ⟨e, me, y⟩ := List.mem_filterMap.mp m
      exact outside (List.mem_filterMap.mpr ⟨e, List.mem_cons_of_mem _ me, y⟩)
    have inSuite := J1.suite at1 d1 na notL notF
    have types : PySem.W.Looks (model X.prog X.w) g (typeOf (.ref a)) cls := fun A Q E s k q => wpAny_typeOf_ref (k _ _ at1) (by rw [z1.1]; exact q)
    clear asked hbody
    -- the clauses in turn
    have turn : ∀ (hd2 : List ExceptHandler) (l2 : Suites), Clauses X n hd2 l2 → wClauses X.K i Wout D l2 cls d σ1 H1 → wpAny (model X.prog X.w) X.A (handleBy (.ref a) X.env hd2) (SP X pins D) X.xe { s1 with heap := g } := by
      intro hd2 l2 cl
      induction cl with
      | nil =>
        intro wish
        refine wpAny_handleBy_nil ?_
        obtain ⟨_, _, _, oe, vs, T, oT, ts2, e1, e2, e3, e4, e5⟩ := id fly
        unfold PySem.passOn
        refine wpAny_bind (wpAny_field e1 e3 e4 ?_)
        rw [if_neg (show ¬ ((Value.ref T == Value.none) = true) from by simp)]
        have leave : wpAny (model X.prog X.w) X.A (setFlight (.ref a) X.env.frame) (fun _ s2 => wpAny (model X.prog X.w) X.A (throw (.ref a) : Sem Flow) (SP X pins D) X.xe s2) X.xe { s1 with heap := g } := by
          rw [fr]
          refine HandSPX.setFlight_upZ fly fun g2 held up3 => wpAny_throw (out _ _ ⟨a, B, sI, pins, σ1, H1, cls, d, rfl, J, nb, (up.trans up2).trans up3, .inr (.inr (by rw [stk]; exact held)), na, os, bare, wish⟩)
        first
          | exact wpAny_bind (wpAny_pure (wpAny_bind leave))
          | exact wpAny_bind leave
      | @cons x c ts s0 ss p1 p2 hd3 l3 named suite rest ih =>
        rintro ⟨b, eb, yes, no⟩
        have meets := PySem.W.exm_one (M := model X.prog X.w) J1.kIn types eb
        refine wpAny_handleBy_cons (codeAny_handlers_test ?_) (fun z => nomatch z)
        have name : ∀ {Q : Value → Shared → Prop} {E : Value → Shared → Prop}, Q c { s1 with heap := g } → wpAny (model X.prog X.w) (X.A.mark (some (.ref a))) (eval (.Name x p1) X.env) Q E { s1 with heap := g } := by
          intro Q E q
          obtain ⟨hg, dbg, hm⟩ := named
          rcases hm with hm | ⟨hm, hv, hn⟩
          · exact ld_glob (X := X.suite a ((a, o1) :: (X.pn ++ pins))) inSuite hg hm q dbg
          · exact ld_blt (X := X.suite a ((a, o1) :: (X.pn ++ pins))) inSuite hg hm hv q hn dbg
        refine name (meets.here ?_)
        cases b with
        | false => exact ih (no rfl)
        | true =>
          refine codeAny_handlers_suite_as (HandSPX.lands_againZ fly fun g2 fly2 up3 => ?_)
          have J2 : L2.Inv X pins σ1 H1 { s1 with heap := g2 } := J.landed nb fly2.1 ((up.trans up2).trans up3) os bare
          obtain ⟨o2, v2, at2, z2, d2⟩ := fly2.there
          refine store_ok (X := X.suite a ((a, o2) :: (X.pn ++ pins))) (v := .ref a) (J2.suite at2 d2 na notL notF) nd slot lc rfl (fun s2 S2 => ?_) (.inr loc)
          refine wpAny_mono ((suite a o2 cls d (X.pn ++ pins) z2 ⟨_, d2⟩).run [] s2 _ H1 _ S2 (yes rfl a na)) (fun fl s3 z => ?_) (fun _ _ z => False.elim z)
          have gone : ∀ {σ3 : L2.St} {H3 : Hp} {Q : Shared → Prop}, L2.Inv (X.suite a ((a, o2) :: (X.pn ++ pins))) [] σ3 H3 s3 → (∀ s4, L2.Inv X pins (σ3.set i none) H3 s4 → Q s4) →
              wpAny (model X.prog X.w) X.A (do bindName X.env n .none; unbindBehindTheSuite X.env n p2) (fun _ s4 => Q s4) X.xe s3 := fun S3 q => gone_ok (S3.unsuite good) nd slot loc q
          cases fl with
          | ret u =>
            obtain ⟨v, _, _, S3, rv, q⟩ := z
            exact gone S3 fun _ J4 => ⟨_, _, _, J4, rv, q⟩
          | next =>
            obtain ⟨_, _, S3, q⟩ := z
            exact gone S3 fun _ J4 => ⟨_, _, J4, q⟩
          | brk =>
            obtain ⟨_, _, S3, q⟩ := z
            exact gone S3 fun _ J4 => ⟨_, _, J4, q⟩
          | cont =>
            obtain ⟨_, _, S3, q⟩ := z
            exact gone S3 fun _ J4 => ⟨_, _, J4, q⟩
    exact turn _ _ hcl wish
  cases fl with
  | ret u =>
    obtain ⟨v, σ2, H2, J2, rv, q⟩ := z
    exact ⟨v, σ2, H2, J2.ofTry good, rv, q⟩
  | next =>
    obtain ⟨σ2, H2, J2, q⟩ := z
    exact wpAny_execs_nil ⟨σ2, H2, J2.ofTry good, q⟩
  | brk =>
    obtain ⟨σ2, H2, J2, q⟩ := z
    exact ⟨σ2, H2, J2.ofTry good, q⟩
  | cont =>
    obtain ⟨σ2, H2, J2, q⟩ := z
    exact ⟨σ2, H2, J2.ofTry good, q⟩
end
end Pm
/-! ### errors over trees: what raises, where it goes, who takes it -/
namespace Tr
open PySem PySem.Spec PyProof.Rows L2 SX
abbrev Fs := List (Str × V)
/-- the promise of a def that raises: the class at C, the fields fs -/
def spX (K : PySem.W.Frag) (ds : List D) (C : Addr) (fs : Fs) : Sp := fun vs H _ E => ∃ F, Same F H ∧ Reps K F vs ds ∧ Pm.Lets E C fs H
def spGX (K : PySem.W.Frag) (G : List D → Addr → Fs → Prop) : Sp := fun vs H Q E => ∃ ds C fs, G ds C fs ∧ spX K ds C fs vs H Q E
/-- what stands where the error leaves -/
def erq (K : PySem.W.Frag) (B : Hp × Hp) (W : WX) (C : Addr) (fs : Fs) (Γ : Env) : Prop := ∀ σ F H d, Wd K B F H σ Γ → B.2 d = none → F d = none → H d = some (.xd fs) → W (.ref C) (some d) σ H
def tXE (K : PySem.W.Frag) (B : Hp × Hp) (Γ : Env) (W : WX) (C : Addr) (fs : Fs) : TE := fun σ H _ => ∃ F, Wd K B F H σ Γ ∧ erq K B W C fs Γ
def tXS (K : PySem.W.Frag) (B : Hp × Hp) (Γ Γ' : Env) (W : WX) (C : Addr) (fs : Fs) : TS := fun _ σ H => ∃ F, Wd K B F H σ Γ ∧ erq K B W C fs Γ'
abbrev XE (X : Cx) (B : Hp × Hp) (W : WX) (e : Expr) (Γ : Env) (C : Addr) (fs : Fs) : Prop := PE X e (tXE X.K B Γ W C fs)
abbrev XA (X : Cx) (B : Hp × Hp) (W : WX) (e : List Expr) (Γ : Env) (C : Addr) (fs : Fs) : Prop := PA X e (fun σ H _ => ∃ F, Wd X.K B F H σ Γ ∧ erq X.K B W C fs Γ)
abbrev XT (X : Cx) (B : Hp × Hp) (W : WX) (e : Expr) (Γ : Env) (C : Addr) (fs : Fs) : Prop := PT X e (fun σ H _ => ∃ F, Wd X.K B F H σ Γ ∧ erq X.K B W C fs Γ)
abbrev XS (X : Cx) (B : Hp × Hp) (W : WX) (s : Stmt) (Γ Γ' : Env) (C : Addr) (fs : Fs) : Prop := PS X s (tXS X.K B Γ Γ' W C fs)
abbrev XSs (X : Cx) (B : Hp × Hp) (W : WX) (s : List Stmt) (Γ Γ' : Env) (C : Addr) (fs : Fs) : Prop := PSs X s (tXS X.K B Γ Γ' W C fs)
theorem Wd.rise {K : PySem.W.Frag} {B : Hp × Hp} {F H H' : Hp} {σ : L2.St} {Γ : Env} (w : Wd K B F H σ Γ) (s : Same H H') : Wd K B F H' σ Γ := w.gr ⟨Same.refl _, s, fun _ _ _ n => n⟩ (w.fh.trans s)
theorem lets_of {K : PySem.W.Frag} {B : Hp × Hp} {F H : Hp} {σ : L2.St} {Γ : Env} {W : WX} {C : Addr} {fs : Fs} (w : Wd K B F H σ Γ) (k : erq K B W C fs Γ) : Pm.Lets (WE W σ) C fs H :=
  fun d H' nd hd s => k σ F H' d (w.rise s) (w.hh.free nd) (w.fh.free nd) hd
section
variable {X : Cx} {B : Hp × Hp} {W : WX} {Γ Γ' Γ1 : Env} {e a b c o : Expr} {es rest : List Expr} {x y z : D} {pos apos : Pos} {Ce : Addr} {ef : Fs} {s : Stmt} {ss r : List Stmt} {ou : Out} {p : Bool}
/-! calls that raise -/
theorem x_call {sp : Sp} {ds : List D} (ho : ∀ {t : TA}, PA X es t → PE X e (tCallS sp (WE W) t)) (ha : OkA X B es Γ ds) (h : ∀ vs H Q σ, spX X.K ds Ce ef vs H Q (WE W σ) → sp vs H Q (WE W σ)) : XE X B W e Γ Ce ef :=
  PE.weak (ho ha) fun σ H Q ⟨F, w, k⟩ => ⟨F, w, fun vs F1 H1 w1 g1 r1 => h _ _ _ σ ⟨F1, w1.fh, r1, lets_of w1 k⟩⟩
theorem x_meth {C : Addr} {m : Str} {sp : Sp} {fs : List (Str × D)} {ds : List D} (ho : ∀ {to : TE} {t : TA}, PE X o to → PA X es t → PE X e (Pm.tMethE C m sp (WE W) to t)) (hx : Ok X B o Γ (.obj C fs)) (ha : OkA X B es Γ ds) (nf : fs.lookup m = none)
    (h : ∀ vs H Q σ, spX X.K (.obj C fs :: ds) Ce ef vs H Q (WE W σ) → sp vs H Q (WE W σ)) : XE X B W e Γ Ce ef :=
  PE.weak (ho hx ha) fun σ H Q ⟨F, w, k⟩ => ⟨F, w, fun v F1 H1 w1 g1 r1 => by
    cases r1 with
    | obj h1 r1 =>
      exact ⟨_, _, _, rfl, w1.fh _ _ h1, r1.none nf, F1, w1, fun vs F2 H2 w2 g2 r2 => h _ _ _ σ ⟨F2, w2.fh, .cons (.obj (g2.f _ _ h1) (r1.mono g2.f)) r2, lets_of w2 k⟩⟩⟩
theorem x_cmeth {C : Addr} {sp : Sp} {ds : List D} (ho : ∀ {t : TA}, PA X es t → PE X e (Pm.tCMethE C sp (WE W) (tC (.ref C)) t)) (ha : OkA X B es Γ ds)
    (h : ∀ vs H Q σ, spX X.K (.val (.ref C) :: ds) Ce ef vs H Q (WE W σ) → sp vs H Q (WE W σ)) : XE X B W e Γ Ce ef :=
  PE.weak (ho ha) fun σ H Q ⟨F, w, k⟩ => ⟨rfl, F, w, fun vs F1 H1 w1 g1 r1 => h _ _ _ σ ⟨F1, w1.fh, .cons (.val _) r1, lets_of w1 k⟩⟩
/-- C(..) that raises -/
theorem x_make {C : Addr} {sp : Sp} {ds : List D} (ho : ∀ {t : TA}, PA X es t → PE X e (Pm.tMakeS C sp (WE W) t)) (ha : OkA X B es Γ ds)
    (h : ∀ x dx vs H Q E, H x = some (.ins C dx []) → spX X.K ds Ce ef vs H Q E → sp (.ref x :: vs) H Q E) : XE X B W e Γ Ce ef :=
  PE.weak (ho ha) fun σ H Q ⟨F, w, k⟩ => ⟨F, w, fun vs F1 H1 w1 g1 r1 xa dx nx nd ne => by
    have keep : Same H1 (upd (upd H1 dx (.own xa)) xa (.ins C dx [])) := fun a u e => by
      rw [upd_ne (ne_of_none e nx), upd_ne (ne_of_none e nd)]
      exact e
    exact h _ _ _ _ _ _ upd_same ⟨F1, w1.fh.trans keep, r1, lets_of (w1.rise keep) k⟩⟩
/-! statements -/
theorem xs_expr (ho : ∀ {t : TE}, PE X e t → PS X s (tDrop t)) (h : XE X B W e Γ Ce ef) : XS X B W s Γ Γ Ce ef := PS.weak (ho h) fun _ _ _ q => q
theorem xs_set {i : Nat} (ho : ∀ {t : TE}, PE X e t → PS X s (tAsg t (gName i))) (h : XE X B W e Γ Ce ef) : XS X B W s Γ Γ Ce ef := PS.weak (ho h) fun _ _ _ q => q
theorem xs_ret (h : XE X B W e Γ Ce ef) : XS X B W (.Return (some e) pos) Γ Γ Ce ef := PS.weak (ps_ret h) fun _ _ _ q => q
theorem xs_here (h : XS X B W s Γ Γ' Ce ef) : XSs X B W (s :: r) Γ Γ' Ce ef := PSs.weak (pss_cons h (PSs.when (p := False) (t := fun _ _ _ => True) fun z => z.elim)) fun _ _ _ q => q
theorem xs_one (h : XS X B W s Γ Γ' Ce ef) : XSs X B W [s] Γ Γ' Ce ef := pss_one h
theorem xs_cons (h : OkS X B s Γ (.nx Γ1)) (hr : XSs X B W r Γ1 Γ' Ce ef) : XSs X B W (s :: r) Γ Γ' Ce ef := PSs.weak (pss_cons h hr) fun D σ H ⟨F, w, k⟩ => ⟨F, w, fun σ' F' H' w' => ⟨F', w', k⟩⟩
theorem xs_ifYes (hc : OkT X B c Γ true) (ha : XSs X B W ss Γ Γ' Ce ef) : XS X B W (.If c ss r pos) Γ Γ' Ce ef :=
  PS.weak (ps_if hc ha (PSs.when (p := False) (t := fun _ _ _ => True) fun z => z.elim)) fun D σ H ⟨F, w, k⟩ => ⟨F, w, fun F1 H1 w1 g1 => iteT ⟨F1, w1, k⟩⟩
theorem xs_ifNo (hc : OkT X B c Γ false) (ha : XSs X B W r Γ Γ' Ce ef) : XS X B W (.If c ss r pos) Γ Γ' Ce ef :=
  PS.weak (ps_if hc (PSs.when (p := False) (t := fun _ _ _ => True) fun z => z.elim) ha) fun D σ H ⟨F, w, k⟩ => ⟨F, w, fun F1 H1 w1 g1 => iteF ⟨F1, w1, k⟩⟩
/-- raise C(..) -/
theorem xs_raise {C : Addr} {sp : Sp} {ds : List D} {fs : Fs} (hc : X.calm = true) (tk : Takes X W) (ho : ∀ {t : TA}, PA X es t → PMk X e (tMkO C sp [] t)) (ha : OkA X B es Γ ds) (few : ds.length ≤ 1000)
    (h : ∀ F H a vs Q E, Reps X.K F vs ds → (∀ H2 d, H2 a = some (exo a C (some d)) → H2 d = some (exd d fs) → (upd H a (exo a C none)) d = none → d ≠ a → Pm.SameBut a (upd H a (exo a C none)) H2 → Q .non H2) → sp (.ref a :: vs) (upd H a (exo a C none)) Q E) :
    XS X B W (.Raise (some e) none pos) Γ Γ C fs := PS.weak (ps_raise hc tk (ho ha)) fun D σ H ⟨F, w, k⟩ => ⟨F, w, fun vs F1 H1 w1 g1 r1 => ⟨by rw [r1.length]; exact few, fun a na => by
      rw [List.append_nil]
      refine h F1 H1 a vs _ _ r1 fun H2 d h1 h2 nd ne sb => ⟨rfl, d, fs, h1, h2, ?_, ?_⟩
      · rwa [upd_ne ne] at nd
      · exact lets_of w1 k d _ (by rwa [upd_ne ne] at nd) upd_same (Pm.on_way na nd ne sb)⟩⟩
theorem xs_raise1 {C f : Addr} {fd : FuncData} {n nm : Str} {u : V} (hc : X.calm = true) (tk : Takes X W) (xv : Pm.EMk X.prog X.w X.K X.mg X.base C nm ["self", n] (Pm.spE1 C n) f fd) (ho : ∀ {t : TA}, PA X es t → PMk X e (tMkO C (Pm.spE1 C n) [] t)) (ha : OkA X B es Γ [x]) (hu : ∀ F v, Rep X.K F v x → v = u) :
    XS X B W (.Raise (some e) none pos) Γ Γ C [(n, u)] := xs_raise hc tk ho ha (by show 1 ≤ 1000; decide) fun F H a vs Q E r k => by
  cases r with
  | cons r1 r =>
    cases r
    cases hu _ _ r1
    exact ⟨a, _, rfl, upd_same, fun H2 d h1 h2 nd ne sb => k H2 d h1 h2 nd ne sb⟩
theorem xs_raise2 {C f : Addr} {fd : FuncData} {nm : Str} {u v : V} (hc : X.calm = true) (tk : Takes X W) (xv : Pm.EMk X.prog X.w X.K X.mg X.base C nm ["self", "x", "y"] (Pm.spE2 C) f fd) (ho : ∀ {t : TA}, PA X es t → PMk X e (tMkO C (Pm.spE2 C) [] t)) (ha : OkA X B es Γ [x, y]) (hu : ∀ F v', Rep X.K F v' x → v' = v) (hv : ∀ F v, Rep X.K F v y → v = u) :
    XS X B W (.Raise (some e) none pos) Γ Γ C [("y", u), ("x", v)] := xs_raise hc tk ho ha (by show 2 ≤ 1000; decide) fun F H a vs Q E r k => by
  cases r with
  | cons r1 r =>
    cases r with
    | cons r2 r =>
      cases r
      cases hu _ _ r1
      cases hv _ _ r2
      exact ⟨a, _, _, rfl, upd_same, fun H2 d h1 h2 nd ne sb => k H2 d h1 h2 nd ne sb⟩
end
/-- a def that raises keeps its promise -/
theorem tree_wishX {K : PySem.W.Frag} {N : List Str} {ds : List D} {C : Addr} {fs : Fs} {vs : List V} {H : Hp} {Q : VK} {E : XK} {D : Ends} {Γ' : Env} (h : spX K ds C fs vs H Q E) (l : ds.length ≤ N.length) :
    ∃ B : Hp × Hp, tXS K B (ds.map Sl.d ++ List.replicate (N.length - ds.length) .no) Γ' (fun cls d _ H => E cls d H) C fs D (L2.start N vs) H := by
  obtain ⟨F, fh, r, k⟩ := h
  exact ⟨(F, H), F, wd_start fh r (by rw [r.length]; exact l), fun σ F' H' d w nb nf hd => k d H' nb hd w.hh⟩
theorem spGX_len {K : PySem.W.Frag} {G : List D → Addr → Fs → Prop} {n : Nat} (h : ∀ ds C fs, G ds C fs → ds.length = n) : ∀ vs H Q E, spGX K G vs H Q E → vs.length = n := fun vs H Q E ⟨ds, C, fs, g, F, _, r, _⟩ => by rw [r.length]; exact h _ _ _ g
theorem s_retHere {X : Cx} {B : Hp × Hp} {s : Stmt} {r : List Stmt} {Γ : Env} {d : D} (h : OkS X B s Γ (.rt d)) : OkSs X B (s :: r) Γ (.rt d) := PSs.weak (pss_cons h (PSs.when (p := False) (t := fun _ _ _ => True) fun z => z.elim)) fun D σ H ⟨F, w, k⟩ => ⟨F, w, k⟩
/-- a statement over trees, then what is by hand -/
theorem s_consTo {X : Cx} {B : Hp × Hp} {s : Stmt} {r : List Stmt} {Γ Γ1 : Env} {t : TS} (h : OkS X B s Γ (.nx Γ1)) (hr : PSs X r t) : PSs X (s :: r) (fun D σ H => ∃ F, Wd X.K B F H σ Γ ∧ ∀ σ2 F2 H2, Wd X.K B F2 H2 σ2 Γ1 → t D σ2 H2) := PSs.weak (pss_cons h hr) fun D σ H ⟨F, w, k⟩ => ⟨F, w, k⟩
/-! the suite that takes it -/
theorem Wd.base {K : PySem.W.Frag} {B : Hp × Hp} {F H : Hp} {σ : L2.St} {Γ : Env} (w : Wd K B F H σ Γ) (no : ∀ (j : Nat) (c : Ow), Γ[j]? = some (.own c) → False) : Wd K (F, H) F H σ Γ := by
  refine ⟨Same.refl _, Same.refl _, w.fh, fun _ _ _ h => h, w.len, fun j o s h1 h2 => ?_, fun j k p xs ys ne h1 h2 h3 h4 => no j xs h3⟩
  have q := w.sl j o s h1 h2
  cases s with
  | no => trivial
  | d x => exact q
  | own c => exact (no j c h2).elim
theorem Wb.back {K : PySem.W.Frag} {B : Hp × Hp} {F H F' H' : Hp} {σ : L2.St} {Γ : Env} (w : Wd K B F H σ Γ) (q : Wb (F, H) F' H') : Wb B F' H' := ⟨w.ff.trans q.ff, w.hh.trans q.hh, q.fh, fun a o e n => q.ex a o (w.hh _ _ e) (w.ex a o e n)⟩
theorem Wd.back {K : PySem.W.Frag} {B : Hp × Hp} {F H F' H' : Hp} {σ σ' : L2.St} {Γ Γ' : Env} (w : Wd K B F H σ Γ) (q : Wd K (F, H) F' H' σ' Γ') : Wd K B F' H' σ' Γ' := by
  have b := Wb.back w q.b
  refine ⟨b.ff, b.hh, b.fh, b.ex, q.len, fun j o s h1 h2 => ?_, q.dj⟩
  have z := q.sl j o s h1 h2
  cases s with
  | no => trivial
  | d x => exact z
  | own c =>
    obtain ⟨p, ho, e, h0, hF, hp, r⟩ := z
    exact ⟨p, ho, e, w.hh.free h0, hF, hp, r⟩
theorem Wd.drop {K : PySem.W.Frag} {B : Hp × Hp} {F H : Hp} {σ : L2.St} {Γ : Env} (w : Wd K B F H σ Γ) (i : Nat) (o' : Option V) : Wd K B F H (σ.set i o') (Γ.set i .no) := by
  refine ⟨w.ff, w.hh, w.fh, w.ex, by rw [List.length_set, List.length_set, w.len], fun j o s h1 h2 => ?_, fun j k p xs ys ne h1 h2 h3 h4 => ?_⟩
  · rw [List.getElem?_set] at h1 h2
    by_cases e : i = j
    · rw [if_pos e] at h2
      split at h2
      · cases h2
        trivial
      · cases h2
    · rw [if_neg e] at h1 h2
      exact w.sl j o s h1 h2
  · rw [List.getElem?_set] at h1 h2 h3 h4
    have nj : i ≠ j := fun e => by
      rw [if_pos e] at h3
      split at h3 <;> cases h3
    have nk : i ≠ k := fun e => by
      rw [if_pos e] at h4
      split at h4 <;> cases h4
    rw [if_neg nj] at h1 h3
    rw [if_neg nk] at h2 h4
    exact w.dj j k p xs ys ne h1 h2 h3 h4
def Out.drop (i : Nat) : Out → Out
  | .nx Γ => .nx (Γ.set i .no)
  | .rt d => .rt d
section
variable {X : Cx} {B : Hp × Hp} {W : WX} {Γ Γ' Γ1 : Env} {e a b c o : Expr} {es rest : List Expr} {x y z : D} {pos apos : Pos} {Ce : Addr} {ef : Fs} {s : Stmt} {r : List Stmt} {ou : Out} {p : Bool}
/-- what the clauses in turn say of the error: those that are not for it, then the one that is -/
inductive Takers (X : Cx) (n : Str) (i : Nat) (Γ' : Env) (Ce : Addr) (ef : Fs) (ou : Out) : List ExceptHandler → Prop
  | here {x : Str} {c : Value} {s0 : Stmt} {ss : List Stmt} {p1 p2 : Pos} {hds : List ExceptHandler} (named : Names X x c) (yes : PySem.W.exmOne X.K (.ref Ce) c = some true)
      (suite : ∀ (a d : Addr) (oe : Obj) (pn : List (Addr × Obj)) (B : Hp × Hp), Zc (.ref Ce) (some d) oe → (∃ vs, oe.data = .fields vs) → B.2 d = some (.xd ef) → OkSs (X.suite a ((a, oe) :: pn)) B (s0 :: ss) (Γ'.set i (.d (.val (.ref a)))) ou)
      (rest : ∃ l, Pm.Clauses X n hds l) : Takers X n i Γ' Ce ef ou (.ExceptHandler (some (.Name x p1)) (some n) (s0 :: ss) p2 :: hds)
  | next {x : Str} {c : Value} {s0 : Stmt} {ss : List Stmt} {p1 p2 : Pos} {hds : List ExceptHandler} (named : Names X x c) (no : PySem.W.exmOne X.K (.ref Ce) c = some false) (rest : Takers X n i Γ' Ce ef ou hds) : Takers X n i Γ' Ce ef ou (.ExceptHandler (some (.Name x p1)) (some n) (s0 :: ss) p2 :: hds)
theorem Takers.cl {n : Str} {i : Nat} {hds : List ExceptHandler} (T : Takers X n i Γ' Ce ef ou hds) (no : ∀ (j : Nat) (c : Ow), Γ'[j]? = some (.own c) → False) :
    ∃ l, Pm.Clauses X n hds l ∧ ∀ (D : Ends) (B : Hp × Hp), after X.K B D (ou.drop i) → erq X.K B (Pm.wClauses X.K i (fun _ _ _ _ => False) D l) Ce ef Γ' := by
  induction T with
  | @here x c s0 ss p1 p2 hds named yes suite rest =>
    obtain ⟨l, cl⟩ := rest
    refine ⟨(c, fun a cls d D σ H => ∃ d0, (cls = .ref Ce ∧ d = some d0) ∧ ∃ B : Hp × Hp, B.2 d0 = some (.xd ef) ∧ tSt X.K B (Γ'.set i (.d (.val (.ref a)))) ou D σ H) :: l, .cons named (fun a oe cls d pn hz hf => PSs.exi fun d0 => PSs.when fun q => PSs.exi fun B2 => PSs.when fun hB => ?_) cl, fun D B k σ F H d w nb nf hd => ⟨true, yes, fun _ a na => ⟨d, ⟨rfl, rfl⟩, (F, H), hd, F, (w.base no).set (.val _), ?_⟩, fun z => nomatch z⟩⟩
    · obtain ⟨rfl, rfl⟩ := q
      exact suite a d0 oe pn B2 hz hf hB
    · cases ou with
      | nx Γ2 =>
        intro σ2 F2 H2 w2
        exact k _ F2 H2 ((w.back w2).drop i none)
      | rt dd =>
        intro v F2 H2 wb rv
        exact k v F2 H2 (Wb.back w wb) rv
  | @next x c s0 ss p1 p2 hds named nm rest ih =>
    obtain ⟨l, cl, q⟩ := ih
    refine ⟨(c, fun _ _ _ _ _ _ => False) :: l, .cons named (fun a oe cls d pn hz hf => ⟨fun _ _ _ _ _ _ z => z.elim⟩) cl, fun D B k σ F H d w nb nf hd => ⟨false, nm, (fun z => nomatch z), fun _ => q D B k σ F H d w nb nf hd⟩⟩
/-- try: what raises; except .. as n: .. -/
theorem s_tryX {n : Str} {i : Nat} {body : List Stmt} {h0 : ExceptHandler} {hds : List ExceptHandler} (stk : X.stack = X.env :: X.outer) (fr : X.env.frame = some X.env.locals) (nd : X.N.Nodup) (slot : X.N[i]? = some n) (loc : X.env.kindOf n = some .local) (out : Takes X (fun _ _ _ _ => False))
    (hb : ∀ (W : WX) (pn : List (Addr × Obj)) (xe : Value → Shared → Prop), Takes (X.tr pn xe) W → XSs (X.tr pn xe) B W body Γ Γ' Ce ef) (T : Takers X n i Γ' Ce ef ou (h0 :: hds)) (no : ∀ (j : Nat) (c : Ow), Γ'[j]? = some (.own c) → False) :
    OkS X B (.Try body (h0 :: hds) [] [] pos) Γ (ou.drop i) := by
  obtain ⟨l, cl, q⟩ := T.cl no
  exact PS.weak (Pm.ps_try_clauses (i := i) (n := n) (l := l) (tb := fun W => tXS X.K B Γ Γ' W Ce ef) (Wout := fun _ _ _ _ => False) stk fr nd slot loc out (fun W pn xe t _ => hb W pn xe t) cl) fun D σ H ⟨F, w, k⟩ => ⟨F, w, q D B k⟩
/-! what the suite asks of it -/
theorem t_errF {at_ : Addr} {oe : Obj} {d : Addr} {pn : List (Addr × Obj)} {f : Str} {v : V} (hz : Zc (.ref Ce) (some d) oe) (hf : ∃ vs, oe.data = .fields vs) (C : Pm.ErrC X.K Ce) (nf : PySem.W.findIn X.K (.ref Ce) f = some none) (hB : B.2 d = some (.xd ef)) (l : ef.lookup f = some v) (rv : ∀ F, Rep X.K F v z)
    (he : Ok (X.suite at_ ((at_, oe) :: pn)) B e Γ (.val (.ref at_))) (hb : attributeBase e f X.env (eval e X.env) = eval e X.env := by rfl) : Ok (X.suite at_ ((at_, oe) :: pn)) B (.Attribute e f pos) Γ z :=
  PE.weak (Pm.pe_errX hz hf he hb) fun σ H Q ⟨F, w, k⟩ => ⟨F, w, fun u F1 H1 w1 g1 r1 => by
    cases r1
    exact ⟨Ce, d, ef, v, rfl, rfl, rfl, C, nf, w1.hh _ _ hB, l, k v F1 H1 w1 g1 (rv _)⟩⟩
theorem t_isX {at_ : Addr} {oe : Obj} {d : Addr} {pn : List (Addr × Obj)} {c : V} {cv : Value} {b : Bool} (hB : B.2 d = some (.xd ef)) (C : Pm.ErrC X.K Ce) (hc : ∀ u, RelV c u → u = cv) (kit : PySem.W.kitOne X.K (.ref Ce) cv = some b)
    (ho : ∀ {t : TA}, PA (X.suite at_ ((at_, oe) :: pn)) es t → PE (X.suite at_ ((at_, oe) :: pn)) e (tCB (Pm.rIsX X.K at_ (.ref Ce) (some d)) t)) (ha : OkA (X.suite at_ ((at_, oe) :: pn)) B es Γ [.val (.ref at_), .val c]) : Ok (X.suite at_ ((at_, oe) :: pn)) B e Γ (.bl b) :=
  PE.weak (ho ha) fun σ H Q ⟨F, w, k⟩ => ⟨F, w, fun vs F1 H1 w1 g1 r1 => by
    cases r1 with
    | cons r1 r2 =>
      cases r2 with
      | cons r2 r3 =>
        cases r3
        cases r1
        cases r2
        exact ⟨Ce, d, ef, c, cv, b, rfl, rfl, rfl, C, w1.hh _ _ hB, hc, kit, k _ F1 H1 w1 g1 (.bl _)⟩⟩
/-! a list of the def's own: its length; it is turned round -/
theorem t_lenOwn {xs : List D} {i : Nat} (h : PE X e (tCB (rLen X.K) (tCons (tVar i) tNil))) (g : Γ[i]? = some (.own (.l xs))) : Ok X B e Γ (.int (xs.length : Int)) := PE.weak h fun σ H Q ⟨F, w, k⟩ => by
  obtain ⟨p, ho, e, h0, hF, hp, r⟩ := w.own g
  obtain ⟨us, rfl, q⟩ := r.lst
  exact ⟨_, e, p, us, rfl, .inl (tofl hp), by rw [q.length]; exact k _ F H w (Gr.refl _ _) (.int _)⟩
theorem s_reverse {xs : List D} {i : Nat} (h : PS X s (tDrop (tBM0 X.K "list" rReverse (tVar i)))) (g : Γ[i]? = some (.own (.l xs))) : OkS X B s Γ (.nx (Γ.set i (.own (.l xs.reverse)))) := PS.weak h fun D σ H ⟨F, w, k⟩ => by
  obtain ⟨p, ho, e, h0, hF, hp, r⟩ := w.own g
  obtain ⟨us, rfl, q⟩ := r.lst
  exact ⟨_, e, .inl ⟨rfl, _, tofl hp⟩, p, us, rfl, rfl, hp, k _ F _ (w.grow e g hp h0 hF (.l q.rev))⟩
end
end Tr
/-! ### sketches: what their methods say (written by gen_sk1.py) -/
namespace Tr
open PySem PySem.Spec PyProof.Rows L2 SX
section
variable {X : Cx} {B : Hp × Hp} {Γ : Env} {e a b c : Expr} {i j k : Int}
theorem i_as {tg : Expr} {ds ds' : List D} (h : OkI X B tg e Γ ds) (q : ds = ds') : OkI X B tg e Γ ds' := q ▸ h
end
end Tr
namespace Pm
open PySem PySem.Spec PyProof.Rows L2 SX Tr
/-- the scope of a comprehension -/
@[reducible] def cutScope (ns : List (Str × NameKind)) : Scope := { kind := .function, names := ns, isGenerator := false, isCoroutine := false }
theorem S_any : S anyL = (".abcdefghijklmnopqrstuvwxyz" : Str) := by decide +kernel
structure Kls (K : PySem.W.Frag) (mg : Str → Option Value) (CS : Addr) : Prop where
  cl : L2.Cls K CS
  nW : NoAttr K CS "width"
  nH : NoAttr K CS "height"
  nR : NoAttr K CS "_rows"
  any : ∃ u, Con K CS "ANY" (.str ".abcdefghijklmnopqrstuvwxyz") u
  gS : mg "Sketch" = some (.ref CS)
  aw : ∃ u, mg "_ANY_WORD" = some u ∧ RelV (.str "*") u
abbrev tabD (T : Tab) : D := .lst (T.map fun r => .lst (r.map D.tx))
abbrev skD (CS : Addr) (T : Tab) (m n : Nat) : D := .obj CS [("width", .int m), ("height", .int n), ("_rows", tabD T)]
/-- a word that a cell may have -/
def okW (w : List Nat) : Prop := w ≠ [] ∧ w.length ≤ 27 ∧ (∀ c ∈ w, c = 46 ∨ (97 ≤ c ∧ c ≤ 122)) ∧ w.Nodup ∧ asc w = w
structure TabOk (T : Tab) (m n : Nat) : Prop where
  h : T.length = n
  w : ∀ r ∈ T, r.length = m
  m1 : 1 ≤ m
  m8 : m ≤ 8
  n1 : 1 ≤ n
  n8 : n ≤ 8
  ok : ∀ r ∈ T, ∀ w ∈ r, okW w
theorem starW_len {w : List Nat} (h : w.length ≤ 27) : (starW w).length ≤ 27 := by
  unfold starW
  split
  · show 1 ≤ 27
    decide
  · exact h
theorem join_len {c : Nat} {m : Nat} : ∀ (ws : List (List Nat)), (∀ w ∈ ws, w.length ≤ m) → (TL.joinL [c] ws).length ≤ ws.length * (m + 1)
  | [], _ => Nat.zero_le _
  | [w], h => by
    show w.length ≤ 1 * (m + 1)
    have := h w List.mem_cons_self
    omega
  | w :: v :: r, h => by
    show (w ++ ([c] ++ TL.joinL [c] (v :: r))).length ≤ _
    have ih := join_len (c := c) (v :: r) fun u m => h u (List.mem_cons_of_mem _ m)
    have hw := h w List.mem_cons_self
    have e : (w :: v :: r).length * (m + 1) = (v :: r).length * (m + 1) + (m + 1) := by rw [List.length_cons (a := w), Nat.add_mul, Nat.one_mul]
    rw [List.length_append, List.length_append, e]
    show w.length + (1 + (TL.joinL [c] (v :: r)).length) ≤ _
    omega
theorem row_len {T : Tab} {m n : Nat} (h : TabOk T m n) {r : List (List Nat)} (hr : r ∈ T) : (TL.joinL [32] r).length ≤ 224 := by
  have e := join_len (c := 32) (m := 27) r fun w mw => (h.ok r hr w mw).2.1
  rw [h.w r hr] at e
  have := h.m8
  omega
theorem star_ok_len {T : Tab} {m n : Nat} (h : TabOk T m n) {r : List (List Nat)} (hr : r ∈ T) : (TL.joinL [32] (r.map starW)).length ≤ 224 := by
  have e := join_len (c := 32) (m := 27) (r.map starW) fun w mw => by
    obtain ⟨v, mv, rfl⟩ := List.mem_map.mp mw
    exact starW_len (h.ok r hr v mv).2.1
  rw [List.length_map, h.w r hr] at e
  have := h.m8
  omega
theorem tab_len {T : Tab} {m n : Nat} (h : TabOk T m n) : (tabT T).length ≤ 1800 := by
  unfold tabT
  have e := join_len (c := 10) (m := 224) (T.map fun r => TL.joinL [32] r) fun w mw => by
    obtain ⟨r, mr, rfl⟩ := List.mem_map.mp mw
    exact row_len h mr
  rw [List.length_map, h.h] at e
  have := h.n8
  omega
theorem star_eq (w : List Nat) : (bif decide (w = anyL) then D.tx [42] else D.tx w) = D.tx (starW w) := by
  unfold starW
  by_cases e : w = anyL
  · rw [decide_eq_true e, if_pos e]; rfl
  · rw [decide_eq_false e, if_neg e]; rfl
section
variable {P : Program} {w : World} {K : PySem.W.Frag} {mg : Str → Option Value} {base : Heap} {CS : Addr}
/-! text -/
def gSkText (CS : Addr) (ds : List D) (d : D) : Prop := ∃ T m n, TabOk T m n ∧ ds = [skD CS T m n] ∧ d = .tx (tabT (starT T))
abbrev nSkText : List Str := ["self", "words", "row", "signs"]
theorem scSkText : FnScope nSkText ["self"] (defScope cSketchText) := ⟨rfl, rfl, rfl, by decide +kernel, rfl, by decide +kernel, by decide +kernel⟩
theorem ok_skText {f : Addr} {fd : FuncData} (F : Fun K "text" "Sketch.text" cSketchText f fd) (T : Kls K mg CS) : FnOk P w K mg base CX0 1 f fd ["self"] (spG K (gSkText CS)) := by
  refine F.ok scSkText (spG_len fun ds d ⟨_, _, _, _, e, _⟩ => by rw [e]; rfl) (fun cdv A outer s H vs Q E hr h => ?_)
  obtain ⟨ds, d, ⟨R, m, n, g, rfl, rfl⟩, h⟩ := h
  obtain ⟨B, tw⟩ := tree_wish (N := nSkText) h (by show 1 ≤ 4; decide)
  refine ⟨_, (show OkSs _ B _ [.d (skD CS R m n), .no, .no, .no] (.rt (.tx (tabT (starT R)))) from ?_), tw⟩
  obtain ⟨uA, cA⟩ := T.any
  obtain ⟨uW, hW, rW⟩ := T.aw
  have few : R.length ≤ 90000 := by rw [g.h]; have := g.n8; omega
  have fewr : ∀ r ∈ R, r.length ≤ 90000 := fun r m1 => by rw [g.w r m1]; have := g.m8; omega
  have e1 : D.lst (R.map fun r => D.tx (TL.joinL [32] (r.map starW))) = .lst ((R.map fun r => TL.joinL [32] (r.map starW)).map D.tx) := by rw [List.map_map]; rfl
  have e2 : TL.joinL [10] (R.map fun r => TL.joinL [32] (r.map starW)) = tabT (starT R) := by
    unfold tabT starT
    rw [List.map_map]
    rfl
  have l1 : ∀ r ∈ R, ∀ z ∈ r.map starW, z.length ≤ 27 := fun r mr z mz => by
    obtain ⟨v, mv, rfl⟩ := List.mem_map.mp mz
    exact starW_len (g.ok r mr v mv).2.1
  have l2 : ∀ r ∈ R, (r.map starW).length * (27 + 1) ≤ 16777216 := fun r mr => by rw [List.length_map, g.w r mr]; have := g.m8; omega
  have l3 : ∀ z ∈ R.map fun r => TL.joinL [32] (r.map starW), z.length ≤ 224 := fun z mz => by
    obtain ⟨r, mr, rfl⟩ := List.mem_map.mp mz
    exact star_ok_len g mr
  have l4 : (R.map fun r => TL.joinL [32] (r.map starW)).length * (224 + 1) ≤ 16777216 := by rw [List.length_map, g.h]; have := g.n8; omega
  refine (s_cons (s_setLc (i := 1) (vs := [2]) (R) (fun r => .lst (r.map D.tx)) (fun k => _) (fun r => .lst ((r.map starW).map D.tx)) (fun h => by exact ps_setLc (i := 1) (own := [("row", 2)]) (g := (gName 2)) (tt := tYes) rfl scSkText.nd rfl rfl (sw_true rfl rfl rfl (by decide +kernel)) h (blkOk_by (own := [("row", 2)]) (N := nSkText) (sc := defScope cSketchText) (by decide +kernel)) (fun _ _ _ _ _ => (pg_name (i := 2) scSkText.nd rfl (.inl rfl))) (fun _ _ _ _ _ => pts_nil) (fun _ _ _ _ _ => (pe_el fun B k m => (ok_as (t_lc (vs := [3]) (k) D.tx (fun k => _) (fun w => .tx (starW w)) (fun h => by exact pe_lc (own := [("signs", 3)]) (g := (gName 3)) (tt := tYes) rfl scSkText.nd h (blkOk_by (own := [("signs", 3)]) (N := nSkText) (sc := cutScope [(".0", .local), ("row", .local), ("self", .cell)]) (by decide +kernel)) (fun _ _ _ _ _ => (pg_name (i := 3) scSkText.nd rfl (.inl rfl))) (fun _ _ _ _ _ => pts_nil) (fun _ _ _ _ _ => (pe_el fun B1 k1 m1 => (ok_as (t_if (o_op (fun p q => pt_cmpR op_eq p q (nomark _)) (ok_var (pv 3) rfl) (t_con (ok_var (pv 0) rfl) T.cl cA rfl (fun F => by rw [← S_any]; exact .str _) rfl) r2_eqS) (fun _ => ok_as (ok_glob (by rfl) hW rW (fun _ _ => .str _)) rfl) (fun _ => ok_var (pv 3) rfl)) (star_eq _))))) (i_list (ok_var (pv 2) rfl)) (fun _ _ _ => (b_name (i := 3) (by decide))) (fewr k m)) (by rw [List.map_map]; rfl))))) (i_list (t_fld (ok_var (pv 0) rfl) T.cl T.nR rfl rfl)) (fun _ _ _ => (b_name (i := 2) (by decide))) few)
    (s_one (s_ret (ok_as (t_bm (fun h g => pe_bm PySem.F.plainAttrs_str PySem.F.slot_str_join PySem.F.type_str_join mt_join h g) (ok_tx (z := [10]) (by decide +kernel)) (a_cons (ok_as (t_lc (vs := [2]) (R) (fun r => .lst ((r.map starW).map D.tx)) (fun k => _) (fun r => .tx (TL.joinL [32] (r.map starW))) (fun h => by exact pe_lc (own := [("row", 2)]) (g := (gName 2)) (tt := tYes) rfl scSkText.nd h (blkOk_by (own := [("row", 2)]) (N := nSkText) (sc := defScope cSketchText) (by decide +kernel)) (fun _ _ _ _ _ => (pg_name (i := 2) scSkText.nd rfl (.inl rfl))) (fun _ _ _ _ _ => pts_nil) (fun _ _ _ _ _ => (pe_el fun B k m => (t_bm (fun h g => pe_bm PySem.F.plainAttrs_str PySem.F.slot_str_join PySem.F.type_str_join mt_join h g) (ok_tx (z := [32]) (by decide +kernel)) (a_cons (ok_var (pv 2) rfl) a_nil) ty_str (rm_join 27 (l1 k m) (l2 k m)))))) (i_list (ok_var (pv 1) rfl)) (fun _ _ _ => (b_name (i := 2) (by decide))) few) e1) a_nil) ty_str (rm_join 224 l3 l4)) (congrArg D.tx e2)))))
/-! the law's text of a table -/
def gLText (ds : List D) (d : D) : Prop := ∃ T m n, TabOk T m n ∧ ds = [tabD T] ∧ d = .tx (tabT (starT T))
abbrev nLText : List Str := ["_law_table_here", "_law_line"]
theorem scLText : FnScope nLText ["_law_table_here"] (defScope lSketchText) := ⟨rfl, rfl, rfl, by decide +kernel, rfl, by decide +kernel, by decide +kernel⟩
theorem scAny : FnScope [] [] (defScope lAny) := ⟨rfl, rfl, rfl, by decide +kernel, rfl, by decide +kernel, by decide +kernel⟩
def spAny : Sp := fun vs H Q _ => vs = [] ∧ Q (.str (S anyL)) H
theorem ok_any {f : Addr} {fd : FuncData} (F : Fun K "_law_any" "_law_any" lAny f fd) : FnOk P w K mg base CX0 1 f fd [] spAny := by
  refine F.ok scAny (fun vs H Q E h => by rw [h.1]; rfl) (fun cdv A outer s H vs Q E hr h => ?_)
  obtain ⟨rfl, q⟩ := h
  refine ⟨_, (pss_one (ps_ret pe_str)), ?_⟩
  rw [S_any] at q
  exact q
theorem repl_S (T : Tab) (h : ∀ r ∈ T, ∀ w ∈ r, w.length ≤ 27) : Txt.replace (S (tabT T)) ".abcdefghijklmnopqrstuvwxyz" "*" = S (tabT (starT T)) := by
  rw [← S_any]
  have e := PySem.StrLaws.replace_list (x := S (tabT T)) (y := S anyL) (z := "*") (by rw [S_len]; decide)
  rw [cpsS, cpsS, show ("*" : Str).cps.toList = [42] from by decide +kernel, repl_tab h] at e
  have back : ∀ s : Str, s = S s.cps.toList := fun s => by
    obtain ⟨a⟩ := s
    rfl
  rw [back (Txt.replace _ _ _), e]
theorem ok_lText {f g : Addr} {fd gd : FuncData} (F : Fun K "_law_sketch_text" "_law_sketch_text" lSketchText f fd) (G : Fun K "_law_any" "_law_any" lAny g gd) (bG : Binds K gd [] []) (mG : mg "_law_any" = some (.ref g)) : FnOk P w K mg base CX0 1 f fd ["_law_table_here"] (spG K gLText) := by
  refine RepC.okT F scLText (by decide +kernel) (by decide) (spG_len fun ds d ⟨_, _, _, _, e, _⟩ => by rw [e]; rfl) (fun cdv A outer s H vs Q E hr h => ?_)
  obtain ⟨ds, d, ⟨R, m, n, g0, rfl, rfl⟩, h⟩ := h
  obtain ⟨B, F0, w0, tw⟩ := tree_wish (N := nLText) h (by show 1 ≤ 2; decide)
  have few : R.length ≤ 90000 := by rw [g0.h]; have := g0.n8; omega
  have l1 : ∀ r ∈ R, ∀ z ∈ r, z.length ≤ 27 := fun r mr z mz => (g0.ok r mr z mz).2.1
  have l2 : ∀ r ∈ R, r.length * (27 + 1) ≤ 16777216 := fun r mr => by rw [g0.w r mr]; have := g0.m8; omega
  have l3 : ∀ z ∈ R.map fun r => TL.joinL [32] r, z.length ≤ 224 := fun z mz => by
    obtain ⟨r, mr, rfl⟩ := List.mem_map.mp mz
    exact row_len g0 mr
  have l4 : (R.map fun r => TL.joinL [32] r).length * (224 + 1) ≤ 16777216 := by rw [List.length_map, g0.h]; have := g0.n8; omega
  have e1 : D.lst (R.map fun r => D.tx (TL.joinL [32] r)) = .lst ((R.map fun r => TL.joinL [32] r).map D.tx) := by rw [List.map_map]; rfl
  have big := tab_len g0
  refine ⟨_, (CwR.psst_one (CwR.pst_ret (RepC.pet_replF (show Ok _ B _ [.d (tabD R), .no] (.tx (tabT R)) from ?_) G scAny rfl hr (by rfl) mG bG))), ?_⟩
  · refine (t_bm (fun h g => pe_bm PySem.F.plainAttrs_str PySem.F.slot_str_join PySem.F.type_str_join mt_join h g) (ok_tx (z := [10]) (by decide +kernel)) (a_cons (ok_as (t_lc (vs := [1]) (R) (fun r => .lst (r.map D.tx)) (fun k => _) (fun r => .tx (TL.joinL [32] r)) (fun h => by exact pe_lc (own := [("_law_line", 1)]) (g := (gName 1)) (tt := tYes) rfl scLText.nd h (blkOk_by (own := [("_law_line", 1)]) (N := nLText) (sc := defScope lSketchText) (by decide +kernel)) (fun _ _ _ _ _ => (pg_name (i := 1) scLText.nd rfl (.inl rfl))) (fun _ _ _ _ _ => pts_nil) (fun _ _ _ _ _ => (pe_el fun B k m => (t_bm (fun h g => pe_bm PySem.F.plainAttrs_str PySem.F.slot_str_join PySem.F.type_str_join mt_join h g) (ok_tx (z := [32]) (by decide +kernel)) (a_cons (ok_var (pv 1) rfl) a_nil) ty_str (rm_join 27 (l1 k m) (l2 k m)))))) (i_list (ok_var (pv 0) rfl)) (fun _ _ _ => (b_name (i := 1) (by decide))) few) e1) a_nil) ty_str (rm_join 224 l3 l4))
  · refine ⟨F0, w0, fun v F1 H1 w1 g1 r1 => ?_⟩
    cases r1
    refine ⟨_, rfl, ?_, ?_⟩
    · rw [S_len, show ("*" : Str).length = 1 from by decide +kernel]
      omega
    · rw [repl_S R l1]
      exact tw _ F1 H1 ⟨w1.ff, w1.hh, w1.fh, w1.ex⟩ (.str _)
end
end Pm
/-! ### a sketch's cells; what the law asks of a sketch -/
namespace Tr
open PySem PySem.Spec PyProof.Rows L2 SX
section
variable {X : Cx} {B : Hp × Hp} {Γ Γ' Γ1 : Env} {e a b c : Expr} {i j k : Int} {s : Stmt} {ss r : List Stmt} {pos : Pos} {d : D}
/-- i <= j < k -/
theorem o_leLt (ha : Ok X B a Γ (.int i)) (hb : Ok X B b Γ (.int j)) (hc : Ok X B c Γ (.int k)) (hm : lastMarks [.LtE, .Lt] [b, c] = false := by with_unfolding_all rfl) : OkT X B (.Compare a [.LtE, .Lt] [b, c] pos) Γ (decide (i ≤ j) && decide (j < k)) :=
  PT.weak (pt_chain op_le op_lt ha hb (PE.when (p := i ≤ j) fun _ => hc) hm) fun σ H Q ⟨F, w, q⟩ => ⟨F, w, fun v1 F1 H1 w1 g1 r1 => ⟨F1, w1, fun v2 F2 H2 w2 g2 r2 => by
    cases r1
    cases r2
    refine ⟨_, _, rfl, rfl, _, rfl, ?_⟩
    by_cases h : i ≤ j
    · rw [if_pos (decide_eq_true h)]
      refine ⟨h, F2, w2, fun v3 F3 H3 w3 g3 r3 => ?_⟩
      cases r3
      refine ⟨_, _, rfl, rfl, _, rfl, ?_⟩
      have := q F3 H3 w3 ((g1.trans g2).trans g3)
      rw [decide_eq_true h, Bool.true_and] at this
      exact this
    · rw [if_neg (by rw [decide_eq_false h]; decide)]
      have := q F2 H2 w2 (g1.trans g2)
      rw [decide_eq_false h, Bool.false_and] at this
      exact ⟨_, rfl, this⟩⟩⟩
/-- an if whose test is false, before what raises -/
theorem s_skip (hc : OkT X B c Γ false) : OkS X B (.If c ss [] pos) Γ (.nx Γ) :=
  PS.weak (ps_if hc (PSs.when (p := False) (t := fun _ _ _ => True) fun z => z.elim) pss_nil) fun D σ H ⟨F, w, k⟩ => ⟨F, w, fun F1 H1 w1 g1 => iteF (k σ F1 H1 w1)⟩
theorem s_then (hc : OkT X B c Γ true) (ha : OkSs X B ss Γ (.nx Γ1)) : OkS X B (.If c ss [] pos) Γ (.nx Γ1) :=
  PS.weak (ps_if hc ha pss_nil) fun D σ H ⟨F, w, k⟩ => ⟨F, w, fun F1 H1 w1 g1 => iteT ⟨F1, w1, k⟩⟩
/-- a, b = e -/
theorem s_asgG {g : TG} {vs : List Nat} (ho : ∀ {te : TE}, PE X e te → PS X s (tAsg te g)) (h : Ok X B e Γ d) (hg : BindG X.K B vs g Γ d Γ') : OkS X B s Γ (.nx Γ') :=
  PS.weak (ho h) fun D σ H ⟨F, w, k⟩ => ⟨F, w, fun v F1 H1 w1 g1 r1 => hg σ F1 H1 v w1 r1 _ fun σ' w' _ => k σ' F1 H1 w'⟩
/-- a def that ends without a return gives None -/
theorem tree_wishN {K : PySem.W.Frag} {N : List Str} {ds : List D} {vs : List V} {H : Hp} {Q : VK} {E : XK} {Γ' : Env} (h : spT K ds .non vs H Q E) (l : ds.length ≤ N.length) : ∃ B : Hp × Hp, tSt K B (ds.map Sl.d ++ List.replicate (N.length - ds.length) .no) (.nx Γ') { nx := fun _ H' => Q .non H', rt := Q } (L2.start N vs) H := by
  obtain ⟨F, fh, r, k⟩ := h
  exact ⟨(F, H), F, wd_start fh r (by rw [r.length]; exact l), fun σ' F' H' w => k .non F' H' ⟨w.ff, w.hh, w.ex⟩ w.fh .non⟩
end
end Tr
namespace Pm
open PySem PySem.Spec PyProof.Rows L2 SX Tr
theorem rc_isiStr {K : PySem.W.Frag} {u : List Nat} : RCT K (rIsi K) [.tx u, .val (.ty "str")] (.bl true) := fun F H fh vs r Q q => by
  cases r with
  | cons h1 r =>
    cases r with
    | cons h2 r =>
      cases r; cases h1; cases h2
      exact ⟨_, _, .type "str", .type "str", true, rfl, .ty _, .base (.str _), kit_ty (by decide +kernel), q _ F H (Gr.refl _ _) fh (.bl _)⟩
structure OwnM (K : PySem.W.Frag) (C : Addr) (m : Str) (f : Addr) : Prop where
  at_ : PySem.W.findIn K (.ref C) m = some (some (.ref f))
  fn : PySem.W.isFn K (.ref f) = true
section
variable {X : Cx} {CXf : CXT} {k : Nat} {f C : Addr} {fd : FuncData} {ps : List Str} {sp : Sp} {E : XK} {pins : List (Addr × Obj)} {σ : L2.St} {H : Hp} {s : Shared}
/-- a def called from any place around, with the caller's frames -/
theorem run_at {A : Around} {Q : VK} {us : List Value} {vs : List V} (F : FnOk X.prog X.w X.K X.mg X.base CXf k f fd ps sp) (hr : Room k A) (fr : A.frames = X.A.frames) (hb : Binds X.K fd ps []) (hx : Passes CXf X E) (I : L2.Inv X pins σ H s)
    (r : Vals vs us) (h : sp vs H Q E) : wpAny (model X.prog X.w) A (call (.ref f) us) (EP X pins σ Q) X.xe s := by
  have e0 : Env0 X.prog X.w X.K X.mg X.base A X.stack s H := by
    have e := I.env0
    exact ⟨by rw [fr]; exact e.frames, e.mod, e.bs, e.bsz, e.funs, e.frf, e.hok, e.bare⟩
  have hl := F.len _ _ _ _ h
  refine wpAny_call (codeAny_mono (F.run A X.stack s H ⟨us, []⟩ us vs _ E hr e0 (by
    have := hb s us I.kIn (by rw [List.append_nil, ← r.length]; exact hl)
    simpa using this) r h) fun q s' hq => ?_)
  cases q with
  | error e => exact hx pins σ H s e s' I hq
  | ok fl =>
    cases fl with
    | ret u => exact I.after hq
    | next => exact False.elim hq
    | brk => exact False.elim hq
    | cont => exact False.elim hq
end
abbrev Cell := Int × Int
section
variable {X : Cx} {C f : Addr} {fd : FuncData} {k : Nat} {ps : List Str} {sp : Sp} {a b : Expr} {ta tb : TE} {pos : Pos}
def rItem (C : Addr) (sp : Sp) : R2 := fun x y H Q => ∃ r dx fs, x = .ref r ∧ H r = some (.ins C dx fs) ∧ sp [x, y] H Q E0
theorem pe_item (F : FnOk X.prog X.w X.K X.mg X.base CX0 k f fd ps sp) (hr : Room (k + 1) X.A) (hb : Binds X.K fd ps []) (m : OwnM X.K C "__getitem__" f) (fi : PySem.W.fnIn X.K f = true) (pa : PE X a ta) (pb : PE X b tb)
    (hs : ∀ o i, subscripted b true o i = runValue (.builtin "lifetime.subscript" ⟨[o, i], []⟩) := by intro _ _; rfl) : PE X (.Subscript a b pos) (tOp (rItem C sp) ta tb) := by
  refine ⟨fun pins s σ H Q I h => ?_⟩
  refine Subscript_ (binT pa pb I h fun v u s2 x y H2 I2 rx ry q => ?_)
  obtain ⟨r, dx, fs, rfl, hr0, q⟩ := q
  obtain rfl : v = Value.ref r := rx
  obtain ⟨mA, J, _⟩ := ins_get I2.hok hr0
  obtain ⟨od, J, _⟩ := J.look
  obtain ⟨mm, hF⟩ := I2.fr
  exact PySem.W.sub_K hF I2.ok.mod.kin J m.at_ fi m.fn (run_at (vs := [.ref r, y]) F hr.in1 rfl hb pass0 I2 (.cons rfl (.cons ry .nil)) q) (hs _ _)
theorem t_item {B : Hp × Hp} {Γ : Tr.Env} {G : List D → D → Prop} {fs : List (Str × D)} {y z : D} (F : FnOk X.prog X.w X.K X.mg X.base CX0 k f fd ps (spG X.K G)) (hr : Room (k + 1) X.A) (hb : Binds X.K fd ps []) (m : OwnM X.K C "__getitem__" f) (fi : PySem.W.fnIn X.K f = true) (ha : Ok X B a Γ (.obj C fs)) (hy : Ok X B b Γ y)
    (h : G [.obj C fs, y] z) (hs : ∀ o i, subscripted b true o i = runValue (.builtin "lifetime.subscript" ⟨[o, i], []⟩) := by intro _ _; rfl) : Ok X B (.Subscript a b pos) Γ z :=
  PE.weak (pe_item F hr hb m fi ha hy hs) fun σ H Q ⟨F0, w, q⟩ => ⟨F0, w, fun v1 F1 H1 w1 g1 r1 => ⟨F1, w1, fun v2 F2 H2 w2 g2 r2 => by
    have r1' := r1.mono g2.f
    cases r1' with
    | obj h1 rr =>
      exact ⟨_, _, _, rfl, w2.fh _ _ h1, _, _, h, F2, w2.fh, .cons (.obj h1 rr) (.cons r2 .nil), fun v F3 H3 g3 fh r3 => q v F3 H3 (w2.gr g3 fh) ((g1.trans g2).trans g3) r3⟩⟩⟩
end
/-! ### all cells of a grid -/
def rowC (n j : Nat) : List Cell := (List.range n).map fun (i : Nat) => (((i : Nat) : Int), (j : Int))
def allC (n : Nat) : Nat → List Cell
  | 0 => []
  | j + 1 => allC n j ++ rowC n j
theorem rowC_succ (n j : Nat) : rowC (n + 1) j = rowC n j ++ [((n : Int), (j : Int))] := by
  unfold rowC
  rw [List.range_succ, List.map_append]
  rfl
theorem rowC_len (n j : Nat) : (rowC n j).length = n := by
  unfold rowC
  rw [List.length_map, List.length_range]
theorem allC_len (n : Nat) : ∀ m, (allC n m).length = m * n
  | 0 => by simp [allC]
  | m + 1 => by
    show (allC n m ++ rowC n m).length = _
    rw [List.length_append, allC_len n m, rowC_len, Nat.add_mul]
    omega
abbrev cellD (c : Cell) : D := .tup [.int c.1, .int c.2]
abbrev cellsD (M : List Cell) : D := .lst (M.map cellD)
/-- the word at a place -/
def AtT (T : Tab) (i j : Nat) (w : List Nat) : Prop := ∃ r, T[j]? = some r ∧ r[i]? = some w
theorem AtT.lt {T : Tab} {m n i j : Nat} {w : List Nat} (g : TabOk T m n) (h : AtT T i j w) : i < m ∧ j < n := by
  obtain ⟨r, h1, h2⟩ := h
  have a := (List.getElem?_eq_some_iff.mp h1).1
  have b := (List.getElem?_eq_some_iff.mp h2).1
  rw [g.w r (List.mem_of_getElem? h1)] at b
  rw [g.h] at a
  exact ⟨b, a⟩
theorem atT_of {T : Tab} {m n i j : Nat} (g : TabOk T m n) (hi : i < m) (hj : j < n) : ∃ w, AtT T i j w := by
  have a : j < T.length := by rw [g.h]; exact hj
  have b : i < T[j].length := by rw [g.w _ (List.getElem_mem a)]; exact hi
  exact ⟨T[j][i], T[j], List.getElem?_eq_getElem a, List.getElem?_eq_getElem b⟩
theorem AtT.row {T : Tab} {i j : Nat} {w : List Nat} (h : AtT T i j w) : ∃ r : List (List Nat), atI (T.map fun r => D.lst (r.map D.tx)) (j : Int) = some (.lst (r.map D.tx)) ∧ atI (r.map D.tx) (i : Int) = some (.tx w) := by
  obtain ⟨r, h1, h2⟩ := h
  exact ⟨r, atI_nat (by rw [List.getElem?_map, h1]; rfl), atI_nat (by rw [List.getElem?_map, h2]; rfl)⟩
section
variable {P : Program} {w : World} {K : PySem.W.Frag} {mg : Str → Option Value} {base : Heap} {CS : Addr}
/-! _check_cell, a cell of the sketch -/
def gSkChk (CS : Addr) (ds : List D) (d : D) : Prop := ∃ T m n, ∃ i j : Nat, TabOk T m n ∧ i < m ∧ j < n ∧ ds = [skD CS T m n, .int i, .int j] ∧ d = .non
abbrev nSkChk : List Str := ["self", "x", "y"]
theorem scSkChk : FnScope nSkChk nSkChk (defScope cSketchCheckCell) := ⟨rfl, rfl, rfl, by decide +kernel, rfl, by decide +kernel, by decide +kernel⟩
theorem ok_skChk {f : Addr} {fd : FuncData} (F : Fun K "_check_cell" "Sketch._check_cell" cSketchCheckCell f fd) (T : Kls K mg CS) : FnOk P w K mg base CX0 1 f fd nSkChk (spG K (gSkChk CS)) := by
  refine F.ok scSkChk (spG_len fun ds d ⟨_, _, _, _, _, _, _, _, e, _⟩ => by rw [e]; rfl) (fun cdv A outer s H vs Q E hr h => ?_)
  obtain ⟨ds, d, ⟨R, m, n, i, j, g, hi, hj, rfl, rfl⟩, h⟩ := h
  obtain ⟨B, tw⟩ := tree_wishN (N := nSkChk) (Γ' := [.d (skD CS R m n), .d (.int i), .d (.int j)]) h (by show 3 ≤ 3; decide)
  refine ⟨_, (show OkSs _ B _ [.d (skD CS R m n), .d (.int i), .d (.int j)] (.nx [.d (skD CS R m n), .d (.int i), .d (.int j)]) from ?_), tw⟩
  exact s_ifNo (o_as (o_w (w_or (o_not (o_leLt ok_int (ok_var (pv 1) rfl) (t_fld (ok_var (pv 0) rfl) T.cl T.nW rfl rfl))) (fun _ => w_or1 (o_not (o_leLt ok_int (ok_var (pv 2) rfl) (t_fld (ok_var (pv 0) rfl) T.cl T.nH rfl rfl)))))) (by rw [decide_eq_true (show (0 : Int) ≤ (i : Int) by omega), decide_eq_true (show (i : Int) < (m : Int) by omega), decide_eq_true (show (0 : Int) ≤ (j : Int) by omega), decide_eq_true (show (j : Int) < (n : Int) by omega)]; rfl)) s_nil
/-! sketch[x, y] -/
def gSkItem (CS : Addr) (ds : List D) (d : D) : Prop := ∃ T m n, ∃ i j : Nat, ∃ z, TabOk T m n ∧ AtT T i j z ∧ ds = [skD CS T m n, cellD (i, j)] ∧ d = .tx z
abbrev nSkItem : List Str := ["self", "at", "x", "y"]
theorem scSkItem : FnScope nSkItem ["self", "at"] (defScope cSketchGetitem) := ⟨rfl, rfl, rfl, by decide +kernel, rfl, by decide +kernel, by decide +kernel⟩
theorem ok_skItem {f g : Addr} {fd gd : FuncData} (F : Fun K "__getitem__" "Sketch.__getitem__" cSketchGetitem f fd) (T : Kls K mg CS) (O : FnOk P w K mg base CX0 1 g gd nSkChk (spG K (gSkChk CS))) (mO : Meth K CS "_check_cell" g) (bO : Binds K gd nSkChk []) : FnOk P w K mg base CX0 2 f fd ["self", "at"] (spG K (gSkItem CS)) := by
  refine F.ok scSkItem (spG_len fun ds d ⟨_, _, _, _, _, _, _, _, e, _⟩ => by rw [e]; rfl) (fun cdv A outer s H vs Q E hr h => ?_)
  obtain ⟨ds, d, ⟨R, m, n, i, j, z, g, hz, rfl, rfl⟩, h⟩ := h
  obtain ⟨B, tw⟩ := tree_wish (N := nSkItem) h (by show 2 ≤ 4; decide)
  obtain ⟨hi, hj⟩ := hz.lt g
  obtain ⟨r, e1, e2⟩ := hz.row
  refine ⟨_, (show OkSs _ B _ [.d (skD CS R m n), .d (cellD (i, j)), .no, .no] (.rt (.tx z)) from ?_), tw⟩
  exact s_cons (Γ1 := [.d (skD CS R m n), .d (cellD (i, j)), .d (.int i), .d (.int j)]) (s_asgG (vs := [2, 3]) (fun h => ps_asg h (pg_tup rfl (pgs_cons (pg_name (i := 2) scSkItem.nd rfl (.inl rfl)) (pgs_cons (pg_name (i := 3) scSkItem.nd rfl (.inl rfl)) pgs_nil)))) (ok_var (pv 1) rfl) (b_tup (b_cons (b_name (i := 2) (by decide)) (b_cons (b_name (i := 3) (by decide)) b_nil))))
    (s_cons (s_expr (fun h => ps_expr h) (t_meth (z := .non) (fun h g => pe_meth h T.cl mO O hr bO .nil pass0 g) (ok_var (pv 0) rfl) (a_cons (ok_var (pv 2) rfl) (a_cons (ok_var (pv 3) rfl) a_nil)) rfl (fun _ _ _ q => ⟨_, _, ⟨R, m, n, i, j, g, hi, hj, rfl, rfl⟩, q⟩)))
    (s_one (s_ret (t_ixL (t_ixL (t_fld (ok_var (pv 0) rfl) T.cl T.nR rfl rfl) (ok_var (pv 3) rfl) e1 (fun _ _ => rfl)) (ok_var (pv 2) rfl) e2 (fun _ _ => rfl)))))
end
end Pm
/-! ### what the law asks of a sketch and its table -/
namespace Pm
open PySem PySem.Spec PyProof.Rows L2 SX Tr
theorem fold_row (n cy : Nat) (s : List Cell) : (List.range n).foldl (fun s (cx : Nat) => s ++ [((cx : Int), (cy : Int))]) s = s ++ rowC n cy := foldl_app (fun cx : Nat => (((cx : Int), (cy : Int)) : Cell)) (List.range n) s
theorem fold_all (n : Nat) : ∀ (m : Nat), (List.range m).foldl (fun s (cy : Nat) => s ++ rowC n cy) [] = allC n m
  | 0 => rfl
  | m + 1 => by
    rw [List.range_succ, List.foldl_append, fold_all n m]
    rfl
theorem fold_row' (n cy j : Nat) (s : List Cell) (h : j < n) : ((List.range n).take j).foldl (fun s (cx : Nat) => s ++ [((cx : Int), (cy : Int))]) s = s ++ rowC j cy := by
  rw [show (List.range n).take j = List.range j from by rw [List.take_range, Nat.min_eq_left (by omega)], fold_row]
theorem allC_in {n : Nat} : ∀ {m : Nat} {c : Cell}, c ∈ allC n m → ∃ i j : Nat, i < n ∧ j < m ∧ c = ((i : Int), (j : Int))
  | 0, c, h => nomatch h
  | m + 1, c, h => by
    rcases List.mem_append.mp (show c ∈ allC n m ++ rowC n m from h) with h | h
    · obtain ⟨i, j, hi, hj, e⟩ := allC_in h
      exact ⟨i, j, hi, by omega, e⟩
    · unfold rowC at h
      obtain ⟨i, mi, rfl⟩ := List.mem_map.mp h
      exact ⟨i, m, List.mem_range.mp mi, by omega, rfl⟩
theorem TabOk.row0 {T : Tab} {m n : Nat} (g : TabOk T m n) : ∃ r, T[0]? = some r ∧ r.length = m ∧ atI (T.map fun r => D.lst (r.map D.tx)) 0 = some (.lst (r.map D.tx)) := by
  have a : 0 < T.length := by rw [g.h]; exact g.n1
  exact ⟨T[0], List.getElem?_eq_getElem a, g.w _ (List.getElem_mem a), atI_nat (j := 0) (by rw [List.getElem?_map, List.getElem?_eq_getElem a]; rfl)⟩
section
variable {P : Program} {w : World} {K : PySem.W.Frag} {mg : Str → Option Value} {base : Heap} {CS : Addr}
/-! the cells of a table -/
def gTCells (ds : List D) (d : D) : Prop := ∃ T m n, TabOk T m n ∧ ds = [tabD T] ∧ d = cellsD (allC m n)
abbrev nTCells : List Str := ["_law_rows", "_law_cells_here", "_law_cy", "_law_cx"]
theorem scTCells : FnScope nTCells ["_law_rows"] (defScope lCells) := ⟨rfl, rfl, rfl, by decide +kernel, rfl, by decide +kernel, by decide +kernel⟩
theorem ok_tcells {f : Addr} {fd : FuncData} (F : Fun K "_law_cells" "_law_cells" lCells f fd) (L : LTxt K mg) : FnOk P w K mg base CX0 1 f fd ["_law_rows"] (spG K gTCells) := by
  refine F.ok scTCells (spG_len fun ds d ⟨_, _, _, _, e, _⟩ => by rw [e]; rfl) (fun cdv A outer s H vs Q E hr h => ?_)
  obtain ⟨ds, d, ⟨R, m, n, g, rfl, rfl⟩, h⟩ := h
  obtain ⟨B, tw⟩ := tree_wish (N := nTCells) h (by show 1 ≤ 4; decide)
  have h8 := g.n8
  have w8 := g.m8
  have h1 := g.n1
  have lr : (R.map fun r => D.lst (r.map D.tx)).length = n := by rw [List.length_map, g.h]
  obtain ⟨r, _, l0, r0⟩ := g.row0
  have l0 : (r.map D.tx).length = m := by rw [List.length_map, l0]
  have e1 : (List.range n).foldl (fun s (cy : Nat) => s ++ rowC m cy) [] = allC m n := fold_all m _
  refine ⟨_, (show OkSs _ B _ [.d (tabD R), .no, .no, .no] (.rt (cellsD (allC m n))) from ?_), tw⟩
  refine s_cons (s_setOwn (i := 1) (fun h => ps_set (i := 1) scTCells.nd rfl (.inl rfl) (pe_lst h)) a_nil (by show 0 ≤ 100000; decide)) (s_cons (s_for (S := List Cell) (vs := [2]) (fun s => [.d (tabD R), .own (.l (s.map cellD)), .no, .no]) (fun s (cy : Nat) => s ++ rowC m cy) (List.range n) (fun k : Nat => .int (k : Int)) [] (fun s k => _) (fun h g => ps_for PassesOwn.never rfl h (pg_name (i := 2) scTCells.nd rfl (.inl rfl)) g)
      (i_range1 (fun h => pi_range1 (by rfl) L.rng h) (a_cons (t_cb (fun h => pe_callB call_len_seq (by rfl) L.len PySem.boot_len h) (a_cons (ok_var (pv 0) rfl) a_nil) rc_len) a_nil) (by rw [lr]; rfl) (by rw [lr]; constructor <;> omega)) (fun _ _ _ _ => (b_name (i := 2) (by decide))) (fun B i cy s h1 h2 => ?_))
    (s_freeze 1 rfl (s_one (s_ret (ok_as (ok_var (pv 1) rfl) (by rw [e1]; rfl))))))
  have li : i < n := by
    have := (List.getElem?_eq_some_iff.mp h1).1
    rwa [List.length_range] at this
  have ls : s.length ≤ 8 * 8 := by
    rw [h2, show (List.range n).take i = List.range i from by rw [List.take_range, Nat.min_eq_left (by omega)], fold_all, allC_len]
    exact Nat.mul_le_mul (by omega) w8
  refine s_leO (Γ2 := [.d (tabD R), .own (.l ((s ++ rowC m cy).map cellD)), .d (.int (cy : Int)), .no]) (s_one ?_) (.cons (.cons (.cons (.cons .refl (.inl rfl)) (.inl rfl)) (.inr rfl)) (.inr rfl))
  rw [← fold_row]
  refine s_for (S := List Cell) (vs := [3]) (fun s => [.d (tabD R), .own (.l (s.map cellD)), .d (.int (cy : Int)), .no]) (fun s (cx : Nat) => s ++ [((cx : Int), (cy : Int))]) (List.range m) (fun k : Nat => .int (k : Int)) s (fun s k => _) (fun h g => ps_for PassesOwn.never rfl h (pg_name (i := 3) scTCells.nd rfl (.inl rfl)) g)
      (i_range1 (fun h => pi_range1 (by rfl) L.rng h) (a_cons (t_cb (fun h => pe_callB call_len_seq (by rfl) L.len PySem.boot_len h) (a_cons (t_ixL (ok_var (pv 0) rfl) ok_int r0 (fun _ _ => rfl)) a_nil) rc_len) a_nil) (by rw [l0]; rfl) (by rw [l0]; constructor <;> omega)) (fun _ _ _ _ => (b_name (i := 3) (by decide))) (fun B j cx s' h3 h4 => ?_)
  have lj : j < m := by
    have := (List.getElem?_eq_some_iff.mp h3).1
    rwa [List.length_range] at this
  have ls' : s'.length ≤ 8 * 8 + 8 := by
    rw [h4, fold_row' m cy j s lj, List.length_append, rowC_len]
    omega
  refine s_leO (Γ2 := [.d (tabD R), .own (.l ((s' ++ [((cx : Int), (cy : Int))]).map cellD)), .d (.int (cy : Int)), .d (.int (cx : Int))]) (s_one ?_) (.cons (.cons (.cons (.cons .refl (.inl rfl)) (.inr rfl)) (.inr rfl)) (.inr rfl))
  exact s_appendM (i := 1) cellD s' ((cx : Int), (cy : Int)) (fun h => ps_expr (pe_bm PySem.F.plainAttrs_list PySem.F.slot_list_append PySem.F.type_list_append mt_append (pv 1) h)) rfl (a_cons (t_tup (a_cons (ok_var (pv 3) rfl) (a_cons (ok_var (pv 2) rfl) a_nil)) (by show 2 ≤ 100000; decide)) a_nil) (by omega)
/-! the word at a cell -/
def gLAt (ds : List D) (d : D) : Prop := ∃ T, ∃ i j : Nat, ∃ z, AtT T i j z ∧ ds = [tabD T, cellD (i, j)] ∧ d = .tx z
abbrev nLAt : List Str := ["_law_table_here", "_law_cell", "_law_line"]
theorem scLAt : FnScope nLAt ["_law_table_here", "_law_cell"] (defScope lAt) := ⟨rfl, rfl, rfl, by decide +kernel, rfl, by decide +kernel, by decide +kernel⟩
theorem ok_lat {f : Addr} {fd : FuncData} (F : Fun K "_law_at" "_law_at" lAt f fd) : FnOk P w K mg base CX0 1 f fd ["_law_table_here", "_law_cell"] (spG K gLAt) := by
  refine F.ok scLAt (spG_len fun ds d ⟨_, _, _, _, _, e, _⟩ => by rw [e]; rfl) (fun cdv A outer s H vs Q E hr h => ?_)
  obtain ⟨ds, d, ⟨R, i, j, z, hz, rfl, rfl⟩, h⟩ := h
  obtain ⟨B, tw⟩ := tree_wish (N := nLAt) h (by show 2 ≤ 3; decide)
  obtain ⟨r, e1, e2⟩ := hz.row
  refine ⟨_, (show OkSs _ B _ [.d (tabD R), .d (cellD (i, j)), .no] (.rt (.tx z)) from ?_), tw⟩
  exact s_cons (s_set (i := 2) (fun h => ps_set (i := 2) scLAt.nd rfl (.inl rfl) h) (t_ixL (ok_var (pv 0) rfl) (t_ixT (ok_var (pv 1) rfl) ok_int rfl (fun _ _ => rfl)) e1 (fun _ _ => rfl)))
    (s_one (s_ret (t_ixL (ok_var (pv 2) rfl) (t_ixT (ok_var (pv 1) rfl) ok_int rfl (fun _ _ => rfl)) e2 (fun _ _ => rfl))))
/-! the sketch is the table's -/
structure SkT (P : Program) (w : World) (K : PySem.W.Frag) (mg : Str → Option Value) (base : Heap) (CS fT fI : Addr) (dT dI : FuncData) : Prop where
  T : Kls K mg CS
  mT : Meth K CS "text" fT
  OT : FnOk P w K mg base CX0 1 fT dT ["self"] (spG K (gSkText CS))
  bT : Binds K dT ["self"] []
  mI : OwnM K CS "__getitem__" fI
  fi : PySem.W.fnIn K fI = true
  OI : FnOk P w K mg base CX0 2 fI dI ["self", "at"] (spG K (gSkItem CS))
  bI : Binds K dI ["self", "at"] []
def gSkIs (CS : Addr) (ds : List D) (d : D) : Prop := ∃ T m n, TabOk T m n ∧ ds = [skD CS T m n, tabD T] ∧ d = .bl true
abbrev nSkIs : List Str := ["_law_sketch", "_law_table_here", "_law_text", "_law_cell", "_law_signs"]
theorem scSkIs : FnScope nSkIs ["_law_sketch", "_law_table_here"] (defScope lSketchIs) := ⟨rfl, rfl, rfl, by decide +kernel, rfl, by decide +kernel, by decide +kernel⟩
theorem ok_skIs {f fT fI a1 a2 a3 : Addr} {fd dT dI b1 b2 b3 : FuncData} (F : Fun K "_law_sketch_is" "_law_sketch_is" lSketchIs f fd) (L : LTxt K mg) (hs : mg "str" = none) (O : SkT P w K mg base CS fT fI dT dI) (cTx : Cl P w K mg base CX0 1 "_law_sketch_text" ["_law_table_here"] (spG K gLText) a1 b1)
    (cCe : Cl P w K mg base CX0 1 "_law_cells" ["_law_rows"] (spG K gTCells) a2 b2) (cAt : Cl P w K mg base CX0 1 "_law_at" ["_law_table_here", "_law_cell"] (spG K gLAt) a3 b3) : FnOk P w K mg base CX0 5 f fd ["_law_sketch", "_law_table_here"] (spG K (gSkIs CS)) := by
  refine F.ok scSkIs (spG_len fun ds d ⟨_, _, _, _, e, _⟩ => by rw [e]; rfl) (fun cdv A outer s H vs Q E hr h => ?_)
  obtain ⟨ds, d, ⟨R, m, n, g, rfl, rfl⟩, h⟩ := h
  obtain ⟨B, tw⟩ := tree_wish (N := nSkIs) h (by show 2 ≤ 5; decide)
  have hr1 : Room 1 _ := hr.mono (by decide)
  have hr3 : Room 3 _ := hr.mono (by decide)
  have T := O.T
  obtain ⟨r, _, l0, r0⟩ := g.row0
  have l0 : (r.map D.tx).length = m := by rw [List.length_map, l0]
  have lr : (R.map fun r => D.lst (r.map D.tx)).length = n := by rw [List.length_map, g.h]
  refine ⟨_, (show OkSs _ B _ [.d (skD CS R m n), .d (tabD R), .no, .no, .no] (.rt (.bl true)) from ?_), tw⟩
  refine s_ifNo (o_as (o_w (w_or (o_op (fun p q => pt_cmpR op_ne p q (nomark _)) (t_fld (ok_var (pv 0) rfl) T.cl T.nW rfl rfl) (t_cb (fun h => pe_callB call_len_seq (by rfl) L.len PySem.boot_len h) (a_cons (t_ixL (ok_var (pv 1) rfl) ok_int r0 (fun _ _ => rfl)) a_nil) rc_len) r2_neI) (fun _ => w_or1 (o_op (fun p q => pt_cmpR op_ne p q (nomark _)) (t_fld (ok_var (pv 0) rfl) T.cl T.nH rfl rfl) (t_cb (fun h => pe_callB call_len_seq (by rfl) L.len PySem.boot_len h) (a_cons (ok_var (pv 1) rfl) a_nil) rc_len) r2_neI)))) (by rw [l0, lr]; simp))
    (s_cons (s_set (i := 2) (fun h => ps_set (i := 2) scSkIs.nd rfl (.inl rfl) h) (t_meth0 (z := .tx (tabT (starT R))) (fun h => pe_meth0 h T.cl O.mT O.OT hr1 O.bT .nil pass0) (ok_var (pv 0) rfl) rfl (fun _ _ _ q => ⟨_, _, ⟨R, m, n, g, rfl, rfl⟩, q⟩)))
    (s_ifNo (o_as (o_w (w_or (o_not (o_val (t_cb (fun h => pe_callB call_isi (by rfl) L.isi (by decide +kernel) h) (a_cons (ok_var (pv 2) rfl) (a_cons (ok_c (pe_bltn (v := .ty "str") (by rfl) hs (by decide +kernel) rfl) (fun _ _ => .val _)) a_nil)) rc_isiStr))) (fun _ => w_or1 (o_op (fun p q => pt_cmpR op_ne p q (nomark _)) (ok_var (pv 2) rfl) (t_callG (fun h => pe_call cTx.ok hr1 (by rfl) cTx.gl cTx.kp cTx.bd .nil pass0 h) (a_cons (ok_var (pv 1) rfl) a_nil) ⟨R, m, n, g, rfl, rfl⟩) r2_neS)))) (by simp))
    (s_forNo (vs := [3]) (allC m n) cellD (fun k => _) (fun h g => ps_for PassesOwn.never rfl h (pg_name (i := 3) scSkIs.nd rfl (.inl rfl)) g) (i_list (t_callG (fun h => pe_call cCe.ok hr1 (by rfl) cCe.gl cCe.kp cCe.bd .nil pass0 h) (a_cons (ok_var (pv 1) rfl) a_nil) ⟨R, m, n, g, rfl, rfl⟩)) (fun _ _ _ => (b_name (i := 3) (by decide))) (fun B c mc => ?_)
    (s_one (s_ret ok_bl)))))
  obtain ⟨i, j, hi, hj, rfl⟩ := allC_in mc
  obtain ⟨z, hz⟩ := atT_of g hi hj
  refine s_leO (Γ2 := [.d (skD CS R m n), .d (tabD R), .d (.tx (tabT (starT R))), .d (cellD (i, j)), .d (.tx z)]) ?_ (.cons (.cons (.cons (.cons (.cons .refl (.inl rfl)) (.inl rfl)) (.inr rfl)) (.inr rfl)) (.inr rfl))
  exact s_cons (s_set (i := 4) (fun h => ps_set (i := 4) scSkIs.nd rfl (.inl rfl) h) (t_item O.OI hr3 O.bI O.mI O.fi (ok_var (pv 0) rfl) (t_tup (a_cons (t_ixT (ok_var (pv 3) rfl) ok_int rfl (fun _ _ => rfl)) (a_cons (t_ixT (ok_var (pv 3) rfl) ok_int rfl (fun _ _ => rfl)) a_nil)) (by show 2 ≤ 100000; decide)) ⟨R, m, n, i, j, z, g, hz, rfl, rfl⟩))
    (s_ifNo (o_as (o_w (w_or (o_not (o_val (t_cb (fun h => pe_callB call_isi (by rfl) L.isi (by decide +kernel) h) (a_cons (ok_var (pv 4) rfl) (a_cons (ok_c (pe_bltn (v := .ty "str") (by rfl) hs (by decide +kernel) rfl) (fun _ _ => .val _)) a_nil)) rc_isiStr))) (fun _ => w_or1 (o_op (fun p q => pt_cmpR op_ne p q (nomark _)) (ok_var (pv 4) rfl) (t_callG (fun h => pe_call cAt.ok hr1 (by rfl) cAt.gl cAt.kp cAt.bd .nil pass0 h) (a_cons (ok_var (pv 1) rfl) (a_cons (ok_var (pv 3) rfl) a_nil)) ⟨R, i, j, z, hz, rfl, rfl⟩) r2_neS)))) (by simp)) s_nil)
end
end Pm
/-! ### tables and sketches in the heap; allow -/
namespace Pm
open PySem PySem.Spec PyProof.Rows L2 SX Tr
def TabAt (H : Hp) (a : Addr) (R : List Addr) (T : Tab) : Prop := H a = some (.lst (R.map V.ref)) ∧ R.length = T.length ∧ ∀ (j : Nat) (r : Addr) (z : List (List Nat)), R[j]? = some r → T[j]? = some z → H r = some (.lst (rowsV z))
theorem TabAt.keep {H H' : Hp} {a : Addr} {R : List Addr} {T : Tab} (h : TabAt H a R T) (s : ∀ b o, b ∈ a :: R → H b = some o → H' b = some o) : TabAt H' a R T :=
  ⟨s _ _ List.mem_cons_self h.1, h.2.1, fun j r z e1 e2 => s _ _ (List.mem_cons_of_mem _ (List.mem_of_getElem? e1)) (h.2.2 j r z e1 e2)⟩
theorem TabAt.up {H H' : Hp} {a : Addr} {R : List Addr} {T : Tab} (h : TabAt H a R T) (s : Same H H') : TabAt H' a R T := h.keep fun b o _ e => s b o e
theorem reps_row {K : PySem.W.Frag} {F : Hp} : ∀ (z : List (List Nat)), Reps K F (rowsV z) (z.map D.tx)
  | [] => .nil
  | _ :: z => .cons (.str _) (reps_row z)
theorem reps_tab {K : PySem.W.Frag} {H : Hp} : ∀ {R : List Addr} {T : Tab}, R.length = T.length → (∀ (j : Nat) (r : Addr) (z : List (List Nat)), R[j]? = some r → T[j]? = some z → H r = some (.lst (rowsV z))) → Reps K H (R.map V.ref) (T.map fun r => D.lst (r.map D.tx))
  | [], [], _, _ => .nil
  | r :: R, z :: T, l, h => .cons (.lst (h 0 r z rfl rfl) (reps_row z)) (reps_tab (by simpa using l) fun j r' z' e1 e2 => h (j + 1) r' z' (by simpa using e1) (by simpa using e2))
theorem TabAt.rep {K : PySem.W.Frag} {H : Hp} {a : Addr} {R : List Addr} {T : Tab} (h : TabAt H a R T) : Rep K H (.ref a) (tabD T) := .lst h.1 (reps_tab h.2.1 h.2.2)
theorem TabAt.put {H H' : Hp} {a r : Addr} {R : List Addr} {T : Tab} {j : Nat} {z : List (List Nat)} (h : TabAt H a R T) (nd : (a :: R).Nodup) (hr : R[j]? = some r) (s : SameBut r H H') (e : H' r = some (.lst (rowsV z))) : TabAt H' a R (T.set j z) := by
  have ra : a ≠ r := fun y => (List.nodup_cons.mp nd).1 (y ▸ List.mem_of_getElem? hr)
  refine ⟨s _ _ ra h.1, by rw [List.length_set]; exact h.2.1, fun k q y e1 e2 => ?_⟩
  by_cases ek : k = j
  · subst ek
    rw [hr] at e1
    cases e1
    rw [List.getElem?_set_self' ] at e2
    cases eT : T[k]? with
    | none => rw [eT] at e2; cases e2
    | some _ => rw [eT] at e2; cases e2; exact e
  · rw [List.getElem?_set_ne (fun y => ek y.symm)] at e2
    refine s _ _ (fun y => ?_) (h.2.2 k q y e1 e2)
    subst y
    exact ek ((List.getElem?_inj (List.getElem?_eq_some_iff.mp e1).1 (List.nodup_cons.mp nd).2).mp (e1.trans hr.symm))
theorem ixN_nat {n j : Nat} (h : j < n) : ixN n (j : Int) = some j := by
  unfold ixN
  rw [if_pos (by omega), if_pos (by omega)]
  rfl
abbrev skO (CS dx : Addr) (m n : Nat) (a : Addr) : HO := .ins CS dx [("width", .int m), ("height", .int n), ("_rows", .ref a)]
structure SkAt (CS : Addr) (H : Hp) (x : Addr) (a : Addr) (R : List Addr) (T : Tab) (m n : Nat) : Prop where
  o : ∃ dx, H x = some (skO CS dx m n a)
  t : TabAt H a R T
theorem SkAt.rep {K : PySem.W.Frag} {CS : Addr} {H : Hp} {x a : Addr} {R : List Addr} {T : Tab} {m n : Nat} (h : SkAt CS H x a R T m n) : Rep K H (.ref x) (skD CS T m n) := by
  obtain ⟨dx, e⟩ := h.o
  exact .obj e (.cons (.int _) (.cons (.int _) (.cons h.t.rep .nil)))
theorem SkAt.keep {CS : Addr} {H H' : Hp} {x a : Addr} {R : List Addr} {T : Tab} {m n : Nat} (h : SkAt CS H x a R T m n) (s : ∀ b o, b ∈ x :: a :: R → H b = some o → H' b = some o) : SkAt CS H' x a R T m n := by
  obtain ⟨dx, e⟩ := h.o
  exact ⟨⟨dx, s _ _ List.mem_cons_self e⟩, h.t.keep fun b o m => s b o (List.mem_cons_of_mem _ m)⟩
theorem SkAt.up {CS : Addr} {H H' : Hp} {x a : Addr} {R : List Addr} {T : Tab} {m n : Nat} (h : SkAt CS H x a R T m n) (s : Same H H') : SkAt CS H' x a R T m n := h.keep fun b o _ e => s b o e
/-- a sketch's own things -/
abbrev skOwn (x a : Addr) (R : List Addr) : List Addr := x :: a :: R
/-- a word's signs asked for -/
def okZ (z : List Nat) : Prop := z ≠ [] ∧ z.length ≤ 27 ∧ (∀ c ∈ z, c = 46 ∨ (97 ≤ c ∧ c ≤ 122)) ∧ z.Nodup
theorem okW.z {w : List Nat} (h : okW w) : okZ w := ⟨h.1, h.2.1, h.2.2.1, h.2.2.2.1⟩
theorem okZ.asc {z : List Nat} (h : okZ z) : okW (asc z) := by
  have p := asc_perm z
  refine ⟨fun e => ?_, by rw [p.length_eq]; exact h.2.1, fun c m => h.2.2.1 c (p.mem_iff.mp m), p.nodup_iff.mpr h.2.2.2, ?_⟩
  · rw [e] at p
    exact h.1 p.nil_eq.symm
  · exact List.mergeSort_of_pairwise ((asc_le z).imp fun h => decide_eq_true h)
theorem okZ.rev {z : List Nat} (h : okZ z) : okZ z.reverse := ⟨fun e => h.1 (List.reverse_eq_nil_iff.mp e), by rw [List.length_reverse]; exact h.2.1, fun c m => h.2.2.1 c (List.mem_reverse.mp m), (List.reverse_perm z).nodup_iff.mpr h.2.2.2⟩
theorem asc_uniq {y z : List Nat} (p : y.Perm z) (s : z.Pairwise (· ≤ ·)) : asc y = z := by
  refine List.Perm.eq_of_pairwise (le := (· ≤ ·)) (fun a b _ _ h1 h2 => Nat.le_antisymm h1 h2) (asc_le y) s ((asc_perm y).trans p)
theorem okW.back {w : List Nat} (h : okW w) : Pm.asc w.reverse = w := asc_uniq (List.reverse_perm w) (by have := asc_le w; rwa [h.2.2.2.2] at this)
theorem diff_ok {z : List Nat} (h : okZ z) : diffB 46 z = true := by
  unfold diffB
  rw [decide_eq_true h.1, decide_eq_true h.2.2.2, Bool.true_and, Bool.true_and, List.all_eq_true]
  intro c m
  rcases h.2.2.1 c m with e | e
  · rw [decide_eq_true e]; rfl
  · rw [show decide (Let c) = true from decide_eq_true e, Bool.or_true]
theorem TabOk.put {T : Tab} {m n i j : Nat} {row : List (List Nat)} {z : List Nat} (g : TabOk T m n) (hj : T[j]? = some row) (hz : okW z) : TabOk (T.set j (row.set i z)) m n := by
  have mr : row ∈ T := List.mem_of_getElem? hj
  refine ⟨by rw [List.length_set]; exact g.h, fun r mm => ?_, g.m1, g.m8, g.n1, g.n8, fun r mm w mw => ?_⟩
  · rcases List.mem_or_eq_of_mem_set mm with mm | rfl
    · exact g.w r mm
    · rw [List.length_set]; exact g.w row mr
  · rcases List.mem_or_eq_of_mem_set mm with mm | rfl
    · exact g.ok r mm w mw
    · rcases List.mem_or_eq_of_mem_set mw with mw | rfl
      · exact g.ok row mr w mw
      · exact hz
theorem rowsV_set (r : List (List Nat)) (i : Nat) (z : List Nat) : (rowsV r).set i (.str (S z)) = rowsV (r.set i z) := by
  unfold rowsV
  rw [List.map_set]
section
variable {P : Program} {w : World} {K : PySem.W.Frag} {mg : Str → Option Value} {base : Heap} {CS CP : Addr}
/-! _are_allowed_signs -/
def spAlw : Sp := fun vs H Q _ => ∃ z, vs = [.str (S z)] ∧ z.length ≤ 1000 ∧ ∀ H', Same H H' → Q (.bl (diffB 46 z)) H'
theorem scAlw : FnScope ["signs"] ["signs"] (defScope gAreAllowedSigns) := ⟨rfl, rfl, rfl, by decide +kernel, rfl, by decide +kernel, by decide +kernel⟩
theorem ok_alw {f g : Addr} {fd gd : FuncData} (F : Fun K "_are_allowed_signs" "_are_allowed_signs" gAreAllowedSigns f fd) (G : Cl P w K mg base CX0 2 "are_different_signs" ["signs", "besides"] spDiff g gd) (T : PTxt K mg CP) : FnOk P w K mg base CX0 3 f fd ["signs"] spAlw := by
  refine F.ok scAlw (fun vs H Q E h => ?_) (fun cdv A outer s H vs Q E hr h => ?_)
  · obtain ⟨z, rfl, _⟩ := h
    rfl
  · obtain ⟨z, rfl, few, k⟩ := h
    obtain ⟨mc, crd, ⟨uh, hH⟩, _⟩ := T.cr
    refine ⟨_, pss_one (ps_ret (pe_call G.ok hr (by rfl) G.gl G.kp G.bd .nil pass0 (pa_cons (pv 0) (pa_cons (ClX.pe_cval (pe_glob (v := .ref CP) (by rfl) T.gC rfl)) pa_nil)))), ?_⟩
    refine ⟨_, rfl, CP, mc, _, uh, rfl, crd, hH, ?_⟩
    exact ⟨z, 46, by rw [show (S [46] : Str) = "." from by decide +kernel]; rfl, few, fun H' sH => k H' sH⟩
/-! allow -/
def spAllow (CS : Addr) : Sp := fun vs H Q _ => ∃ x a R T m n, ∃ i j : Nat, ∃ z row r, vs = [.ref x, .int i, .int j, .str (S z)] ∧ SkAt CS H x a R T m n ∧ TabOk T m n ∧ i < m ∧ okZ z ∧ R[j]? = some r ∧ T[j]? = some row ∧
  ∀ H', SameBut r H H' → H' r = some (.lst (rowsV (row.set i (asc z)))) → Q .non H'
abbrev nAllow : List Str := ["self", "x", "y", "signs"]
theorem scAllow : FnScope nAllow nAllow (defScope cSketchAllow) := ⟨rfl, rfl, rfl, by decide +kernel, rfl, by decide +kernel, by decide +kernel⟩
theorem ok_allow {f fC a1 a2 : Addr} {fd dC b1 b2 : FuncData} (F : Fun K "allow" "Sketch.allow" cSketchAllow f fd) (T : Kls K mg CS) (OC : FnOk P w K mg base CX0 1 fC dC nSkChk (spG K (gSkChk CS))) (mC : Meth K CS "_check_cell" fC) (bC : Binds K dC nSkChk [])
    (cAl : Cl P w K mg base CX0 3 "_are_allowed_signs" ["signs"] spAlw a1 b1) (cAs : Cl P w K mg base CX0 1 "in_ascii_order" ["signs"] spAsc a2 b2) : FnOk P w K mg base CX0 4 f fd nAllow (spAllow CS) := by
  refine F.ok scAllow (fun vs H Q E h => ?_) (fun cdv A outer s H vs Q E hr h => ?_)
  · obtain ⟨x, a, R, T0, m, n, i, j, z, row, r, rfl, _⟩ := h
    rfl
  · obtain ⟨x, a, R, T0, m, n, i, j, z, row, r, rfl, hs, g, hi, hz, hr0, hrow, k⟩ := h
    have hr1 : Room 1 _ := hr.mono (by decide)
    have hj : j < n := by
      have := (List.getElem?_eq_some_iff.mp hrow).1
      rwa [g.h] at this
    refine ⟨_, pss_cons (ps_expr (pe_meth (pv 0) T.cl mC OC hr1 bC .nil pass0 (pa_cons (pv 1) (pa_cons (pv 2) pa_nil))))
      (pss_cons (ps_if (pt_not (pt_val (pe_call cAl.ok hr (by rfl) cAl.gl cAl.kp cAl.bd .nil pass0 (pa_cons (pv 3) pa_nil)))) (PSs.when (p := False) (t := fun _ _ _ => True) fun z => z.elim) pss_nil)
      (pss_one (ps_asg (pe_call cAs.ok hr1 (by rfl) cAs.gl cAs.kp cAs.bd .nil pass0 (pa_cons (pv 3) pa_nil)) (pg_sub (pe_ix ix_list (pe_fld (pv 0) rfl) (pv 2) (fun _ _ => rfl)) (pv 1) set_list)))), ?_⟩
    obtain ⟨dx, ho⟩ := hs.o
    refine ⟨_, rfl, x, dx, _, rfl, ho, rfl, _, rfl, _, rfl, _, _, ⟨T0, m, n, i, j, g, hi, hj, rfl, rfl⟩, H, Same.refl H, .cons hs.rep (.cons (.int _) (.cons (.int _) .nil)), fun v H1 H1' g1 s1 r1 => ?_⟩
    have sH : Same H H1' := g1.h
    refine ⟨_, rfl, z, rfl, by have := hz.2.1; omega, fun H2 s2 => ⟨_, rfl, iteFe (by rw [diff_ok hz]; rfl) ?_⟩⟩
    refine ⟨_, rfl, z, rfl, by have := hz.2.1; omega, fun H3 s3 => ?_⟩
    have s3' : Same H H3 := (sH.trans s2).trans s3
    have t3 := hs.t.up s3'
    have hR := t3.2.2 j r row hr0 hrow
    refine ⟨_, rfl, x, CS, dx, _, _, rfl, s3' _ _ ho, T.cl, T.nR, rfl, _, rfl, a, _, (j : Int), _, rfl, rfl, SqL.of t3.1, atI_nat (by rw [List.getElem?_map, hr0]; rfl), _, rfl, r, rowsV row, (i : Int), i, rfl, rfl, hR, ?_, ?_⟩
    · have li : i < (rowsV row).length := by rw [rowsV_len, g.w row (List.mem_of_getElem? hrow)]; exact hi
      exact ixN_nat li
    · rw [rowsV_set]
      exact k _ (fun b o ne e => by rw [upd_ne ne]; exact s3' _ _ e) upd_same
end
end Pm
namespace Pm
open PySem PySem.Spec PyProof.Rows L2 SX
/-! ### a text times an int -/
theorem mul_fit {x : Str} {n : Int} (hx : x.length ≤ 1000) (n0 : 0 ≤ n) (n1 : n ≤ 1000) : MulOk x n := by
  have nn : (n.toNat : Int) = n := Int.toNat_of_nonneg n0
  have hm : x.length * n.toNat ≤ 1000 * 1000 := Nat.mul_le_mul hx (by omega)
  refine ⟨?_, fun a _ => ?_, fun _ _ => ?_⟩
  · rw [decide_eq_false (by omega), decide_eq_false (by omega)]
    rfl
  · have e : (x.length : Int) * n ≤ 2 ^ 63 - 1 := by
      rw [← nn]
      have y : ((x.length * n.toNat : Nat) : Int) ≤ ((1000 * 1000 : Nat) : Int) := Int.ofNat_le.mpr hm
      rw [Int.natCast_mul] at y
      exact Int.le_trans y (by decide)
    have := Int.le_ediv_of_mul_le (by omega) e
    omega
  · show decide (x.length * n.toNat > sizeLine) = false
    refine decide_eq_false ?_
    have : (1000 * 1000 : Nat) ≤ sizeLine := by decide
    omega
theorem op_mul_str {X : Cx} : OpR X (binaryOp .Mult) (fun x y H Q => ∃ i n, x = .str i ∧ y = .int n ∧ i.length ≤ 1000 ∧ 0 ≤ n ∧ n ≤ 1000 ∧ Q (.str (Txt.mul i n)) H) := by
  intro pins s σ H x y v u Q I rx ry h
  obtain ⟨i, n, rfl, rfl, hi, n0, n1, q⟩ := h
  obtain ⟨t, rfl⟩ := rx
  obtain ⟨t2, rfl⟩ := ry
  exact SB.mul (mul_fit hi n0 n1) fun t3 tk => ⟨.str (Txt.mul i n), H, I.tok _, ⟨_, rfl⟩, q⟩
theorem mul3 {z : List Nat} (h : Pal z) : Txt.mul (S z) 3 = S (z ++ z ++ z) := by
  obtain ⟨c, d, e, rfl, _⟩ := h
  rfl
theorem mul1 (c : Nat) (n : Int) : Txt.mul (S [c]) n = S (List.replicate n.toNat c) := by
  have e := mul_one_list c n
  have y : S (Txt.mul (S [c]) n).cps.toList = Txt.mul (S [c]) n := S_tl _
  rw [← y, e]
end Pm
namespace Pm
open PySem PySem.Spec PyProof.Rows L2 SX
section
variable {P : Program} {w : World} {K : PySem.W.Frag} {mg : Str → Option Value} {base : Heap} {C CI : Addr}
theorem PicAt.same {C : Addr} {H H' : Hp} {r : Addr} {R : Rows} (h : PicAt C H r R) (s : Same H H') : PicAt C H' r R := by
  obtain ⟨dx, l, a, b⟩ := h
  exact ⟨dx, l, s _ _ a, s _ _ b⟩
theorem made_same {C : Addr} {H : Hp} {x dx : Addr} (nx : H x = none) (nd : H dx = none) : Same H (upd (upd H dx (.own x)) x (.ins C dx [])) := fun b o e => by
  rw [upd_ne (ne_of_none e nx), upd_ne (ne_of_none e nd)]
  exact e
theorem made_but {C : Addr} {H H' : Hp} {x dx : Addr} (nx : H x = none) (nd : H dx = none) (s : SameBut x (upd (upd H dx (.own x)) x (.ins C dx [])) H') : Same H H' := fun b o e => by
  have ne : b ≠ x := ne_of_none e nx
  exact s b o ne (made_same nx nd _ _ e)
theorem lets_made {E : XK} {D : Addr} {fs : List (Str × V)} {H H' : Hp} (h : Lets E D fs H) (s : Same H H') : Lets E D fs H' := fun d G nd hd sg => h d G (back s nd) hd (s.trans sg)
def spLines (C : Addr) : Sp := fun vs H Q _ => ∃ r R, vs = [.ref r] ∧ PicAt C H r R ∧ ∀ p H', Same H H' → H p = none → H' p = some (.lst (rowsV R)) → Q (.ref p) H'
theorem scLines : FnScope ["self"] ["self"] (defScope cPictureLines) := ⟨rfl, rfl, rfl, by decide +kernel, rfl, by decide +kernel, by decide +kernel⟩
theorem ok_lines {f : Addr} {fd : FuncData} (F : Fun K "lines" "Picture.lines" cPictureLines f fd) (L : LTxt K mg) (T : PCls K C) : FnOk P w K mg base CX0 1 f fd ["self"] (spLines C) := by
  refine F.ok scLines (fun vs H Q E h => ?_) (fun cdv A outer s H vs Q E hr h => ?_)
  · obtain ⟨r, R, rfl, _⟩ := h
    rfl
  · obtain ⟨r, R, rfl, ⟨dx, l, hr1, hl⟩, k⟩ := h
    refine ⟨_, pss_one (ps_ret (pe_callTy call_list_of (by rfl) L.lst (by decide +kernel) (pa_cons (pe_fld (pv 0) rfl) pa_nil))), ?_⟩
    refine ⟨_, rfl, r, C, dx, _, _, rfl, hr1, T.cl, T.nR, rfl, l, _, rfl, .inl (SqL.of hl), fun p np => k p _ (same_upd np) np upd_same⟩
/-! ### contains -/
def inB (R : Rows) (x y : Int) : Bool := decide (0 ≤ x ∧ x < wideOf R) && decide (0 ≤ y ∧ y < (R.length : Int))
def spContains (C : Addr) : Sp := fun vs H Q _ => ∃ r R x y, vs = [.ref r, .int x, .int y] ∧ PicAt C H r R ∧ Q (.bl (inB R x y)) H
theorem scContains : FnScope ["self", "x", "y"] ["self", "x", "y"] (defScope cPictureContains) := ⟨rfl, rfl, rfl, by decide +kernel, rfl, by decide +kernel, by decide +kernel⟩
theorem ok_contains {f : Addr} {fd : FuncData} (F : Fun K "contains" "Picture.contains" cPictureContains f fd) (T : PCls K C) : FnOk P w K mg base CX0 1 f fd ["self", "x", "y"] (spContains C) := by
  refine F.ok scContains (fun vs H Q E h => ?_) (fun cdv A outer s H vs Q E hr h => ?_)
  · obtain ⟨r, R, x, y, rfl, _⟩ := h
    rfl
  · obtain ⟨r, R, x, y, rfl, ⟨dx, l, h1, h2⟩, k⟩ := h
    refine ⟨_, pss_one (ps_ret (pe_and (pe_chain op_le op_lt pe_int (pv 1) (pe_fld (pv 0) rfl)) (pe_one (pe_chain op_le op_lt pe_int (pv 2) (pe_fld (pv 0) rfl))))), ?_⟩
    have second : inB R x y = decide (0 ≤ y ∧ y < (R.length : Int)) → tChain (rI0 fun i j => .bl (decide (i ≤ j))) (rI0 fun i j => .bl (decide (i < j))) (tC (.int 0)) (tVar 2) (tFld K (tVar 0) "height") (L2.start ["self", "x", "y"] [.ref r, .int x, .int y]) H Q := fun e => by
      rw [e] at k
      refine ⟨_, rfl, _, _, rfl, rfl, _, rfl, ite2 (fun a => ?_) (fun a => ?_)⟩
      · have a := of_decide_eq_true a
        refine ⟨_, rfl, r, C, dx, _, _, rfl, h1, T.cl, T.nH, rfl, _, _, rfl, rfl, ?_⟩
        have e2 : decide (0 ≤ y ∧ y < (R.length : Int)) = decide (y < (R.length : Int)) := decide_eq_decide.mpr ⟨fun z => z.2, fun z => ⟨a, z⟩⟩
        rw [e2] at k
        exact k
      · have a : ¬ 0 ≤ y := fun z => a (decide_eq_true z)
        rw [decide_eq_false (fun z => a z.1)] at k
        exact k
    refine ⟨_, rfl, _, _, rfl, rfl, _, rfl, ite2 (fun a => ?_) (fun a => ?_)⟩
    · have a := of_decide_eq_true a
      refine ⟨_, rfl, r, C, dx, _, _, rfl, h1, T.cl, T.nW, rfl, _, _, rfl, rfl, _, rfl, ite2 (fun b => ?_) (fun b => ?_)⟩
      · have b := of_decide_eq_true b
        refine second ?_
        unfold inB
        rw [decide_eq_true (show 0 ≤ x ∧ x < wideOf R from ⟨a, b⟩), Bool.true_and]
      · have b : ¬ x < wideOf R := fun z => b (decide_eq_true z)
        unfold inB at k
        rw [decide_eq_false (fun z => b z.2), Bool.false_and] at k
        exact k
    · have a : ¬ 0 ≤ x := fun z => a (decide_eq_true z)
      unfold inB at k
      rw [decide_eq_false (fun z => a z.1), Bool.false_and] at k
      exact ⟨_, rfl, iteF k⟩
end
end Pm
/-! ### a sketch asked at any cell, any signs: what is raised -/
namespace Pm
open PySem PySem.Spec PyProof.Rows L2 SX Tr
/-- 0 <= e < self.f -/
theorem pt_within {X : Cx} {k j : Nat} {e ef : Expr} {fn : Str} {p1 pos : Pos} (he : PE X e (tVar k)) (hf : PE X ef (tFld X.K (tVar 0) fn)) (hm : lastMarks [.LtE, .Lt] [e, ef] = false := by with_unfolding_all rfl) : PT X (.Compare (.Constant (.int 0) j p1) [.LtE, .Lt] [e, ef] pos)
    (fun σ H Q => ∃ (i m : Int) (x C dx : Addr) (fs : List (Str × V)), σ[k]? = some (some (.int i)) ∧ σ[0]? = some (some (.ref x)) ∧ H x = some (.ins C dx fs) ∧ L2.Cls X.K C ∧ NoAttr X.K C fn ∧ fs.lookup fn = some (.int m) ∧ Q (decide (0 ≤ i) && decide (i < m)) H) :=
  PT.weak (pt_chain op_le op_lt pe_int he hf hm) fun σ H Q ⟨i, m, x, C, dx, fs, e1, e0, hx, cl, na, lk, q⟩ => ⟨_, e1, _, _, rfl, rfl, _, rfl, by
    by_cases h : 0 ≤ i
    · rw [if_pos (decide_eq_true h)]
      refine ⟨_, e0, x, C, dx, fs, _, rfl, hx, cl, na, lk, _, _, rfl, rfl, _, rfl, ?_⟩
      rw [decide_eq_true h, Bool.true_and] at q
      exact q
    · rw [if_neg (by rw [decide_eq_false h]; decide)]
      rw [decide_eq_false h, Bool.false_and] at q
      exact ⟨_, rfl, q⟩⟩
def inT (m n : Nat) (i j : Int) : Bool := (decide (0 ≤ i) && decide (i < m)) && (decide (0 ≤ j) && decide (j < n))
section
variable {P : Program} {w : World} {K : PySem.W.Frag} {mg : Str → Option Value} {base : Heap} {CS CO CG : Addr}
def spSkChkX (CS CO : Addr) : Sp := fun vs H Q E => ∃ x a R T m n i j, vs = [.ref x, .int i, .int j] ∧ SkAt CS H x a R T m n ∧ (inT m n i j = false → Lets E CO [("y", .int j), ("x", .int i)] H) ∧ (inT m n i j = true → Q .non H)
theorem ok_skChkX {f e : Addr} {fd ed : FuncData} (F : Fun K "_check_cell" "Sketch._check_cell" cSketchCheckCell f fd) (T : Kls K mg CS) (xo : EMk P w K mg base CO "OutOfPicture" ["self", "x", "y"] (spE2 CO) e ed) : FnOk P w K mg base (L2.CX P w) 3 f fd nSkChk (spSkChkX CS CO) := by
  refine F.okX scSkChk (fun vs H Q E h => ?_) (fun cdv A outer s H vs Q E hr h => ?_)
  · obtain ⟨x, a, R, T0, m, n, i, j, rfl, _⟩ := h
    rfl
  · obtain ⟨x, a, R, T0, m, n, i, j, rfl, hs, kO, k⟩ := h
    have hr2 : Room 2 _ := hr
    refine ⟨_, (pss_one (ps_if (PW.pt (pw_or (pt_not (pt_within (k := 1) (pv 1) (pe_fld (pv 0) rfl))) (pw_or1 (pt_not (pt_within (k := 2) (pv 2) (pe_fld (pv 0) rfl)))))) (pss_one (ps_raise rfl (takes_of rfl rfl rfl rfl) (pmk_oex xo.T xo.at_ xo.ty xo.ok hr2 xo.bd .nil pass0 (by rfl) xo.gl (pa_cons (pv 1) (pa_cons (pv 2) pa_nil))))) pss_nil)), ?_⟩
    obtain ⟨dx, ho⟩ := hs.o
    have bad : inT m n i j = false → Lets E CO [("y", .int j), ("x", .int i)] H := kO
    refine ⟨i, (m : Int), x, CS, dx, _, rfl, rfl, ho, T.cl, T.nW, rfl, ?_⟩
    cases c1 : (decide (0 ≤ i) && decide (i < (m : Int))) with
    | false =>
      have io : inT m n i j = false := by unfold inT; rw [c1]; rfl
      refine ⟨_, rfl, _, rfl, by show 2 ≤ 1000; decide, fun a na => ⟨a, _, _, rfl, upd_same, fun H2 d h1 h2 nd ne sb => ⟨rfl, d, _, h1, h2, ?_, ?_⟩⟩⟩
      · rwa [upd_ne ne] at nd
      · exact kO io d _ (by rwa [upd_ne ne] at nd) upd_same (on_way na nd ne sb)
    | true =>
      refine ⟨j, (n : Int), x, CS, dx, _, rfl, rfl, ho, T.cl, T.nH, rfl, ?_⟩
      cases c2 : (decide (0 ≤ j) && decide (j < (n : Int))) with
      | false =>
        have io : inT m n i j = false := by unfold inT; rw [c1, c2]; rfl
        refine iteTe rfl ⟨_, rfl, _, rfl, by show 2 ≤ 1000; decide, fun a na => ⟨a, _, _, rfl, upd_same, fun H2 d h1 h2 nd ne sb => ⟨rfl, d, _, h1, h2, ?_, ?_⟩⟩⟩
        · rwa [upd_ne ne] at nd
        · exact kO io d _ (by rwa [upd_ne ne] at nd) upd_same (on_way na nd ne sb)
      | true =>
        have io : inT m n i j = true := by unfold inT; rw [c1, c2]; rfl
        exact iteFe rfl (k io)
/-! allow, whatever is asked -/
def spAllowX (CS CO CG : Addr) : Sp := fun vs H Q E => ∃ x a R T m n i j z, vs = [.ref x, .int i, .int j, .str (S z)] ∧ SkAt CS H x a R T m n ∧ TabOk T m n ∧ z.length ≤ 1000 ∧ (inT m n i j = false → Lets E CO [("y", .int j), ("x", .int i)] H) ∧
  (inT m n i j = true → diffB 46 z = false → ∀ H', Same H H' → Lets E CG [("signs", .str (S z))] H') ∧
  ∀ i' j' : Nat, i = i' → j = j' → i' < m → diffB 46 z = true → ∀ row r, R[j']? = some r → T[j']? = some row → ∀ H', SameBut r H H' → H' r = some (.lst (rowsV (row.set i' (asc z)))) → Q .non H'
theorem ok_allowX {f fC a1 a2 eg : Addr} {fd dC b1 b2 dg : FuncData} (F : Fun K "allow" "Sketch.allow" cSketchAllow f fd) (T : Kls K mg CS) (OC : FnOk P w K mg base (L2.CX P w) 3 fC dC nSkChk (spSkChkX CS CO)) (mC : Meth K CS "_check_cell" fC) (bC : Binds K dC nSkChk [])
    (cAl : Cl P w K mg base CX0 3 "_are_allowed_signs" ["signs"] spAlw a1 b1) (cAs : Cl P w K mg base CX0 1 "in_ascii_order" ["signs"] spAsc a2 b2) (xg : EMk P w K mg base CG "InvalidSigns" ["self", "signs"] (spE1 CG "signs") eg dg) : FnOk P w K mg base (L2.CX P w) 4 f fd nAllow (spAllowX CS CO CG) := by
  refine F.okX scAllow (fun vs H Q E h => ?_) (fun cdv A outer s H vs Q E hr h => ?_)
  · obtain ⟨x, a, R, T0, m, n, i, j, z, rfl, _⟩ := h
    rfl
  · obtain ⟨x, a, R, T0, m, n, i, j, z, rfl, hs, g, lz, kO, kG, k⟩ := h
    have hr1 : Room 1 _ := hr.mono (by decide)
    have hr2 : Room 2 _ := hr.mono (by decide)
    refine ⟨_, pss_cons (ps_expr (pe_methE (E := fun _ => E) (pv 0) T.cl mC OC hr bC (fun σ pins H s e s' I c => passes_call (takes_of rfl rfl rfl rfl) (fun _ _ _ _ z => z) pins σ H s e s' I c) (pa_cons (pv 1) (pa_cons (pv 2) pa_nil))))
      (pss_cons (ps_if (pt_not (pt_val (pe_call cAl.ok hr (by rfl) cAl.gl cAl.kp cAl.bd .nil pass0 (pa_cons (pv 3) pa_nil)))) (pss_one (ps_raise rfl (takes_of rfl rfl rfl rfl) (pmk_oex xg.T xg.at_ xg.ty xg.ok hr2 xg.bd .nil pass0 (by rfl) xg.gl (pa_cons (pv 3) pa_nil)))) pss_nil)
      (pss_one (ps_asg (pe_call cAs.ok hr1 (by rfl) cAs.gl cAs.kp cAs.bd .nil pass0 (pa_cons (pv 3) pa_nil)) (pg_sub (pe_ix ix_list (pe_fld (pv 0) rfl) (pv 2) (fun _ _ => rfl)) (pv 1) set_list)))), ?_⟩
    obtain ⟨dx, ho⟩ := hs.o
    refine ⟨_, rfl, x, dx, _, rfl, ho, rfl, _, rfl, _, rfl, x, a, R, T0, m, n, i, j, rfl, hs, kO, fun io => ?_⟩
    refine ⟨_, rfl, z, rfl, lz, fun H2 s2 => ⟨_, rfl, ?_⟩⟩
    cases dz : diffB 46 z with
    | false =>
      refine iteTe rfl ⟨_, rfl, by show 1 ≤ 1000; decide, fun a na => ⟨a, _, rfl, upd_same, fun H3 d h3 h4 nd ne sb => ⟨rfl, d, _, h3, h4, ?_, ?_⟩⟩⟩
      · rwa [upd_ne ne] at nd
      · exact kG io dz H2 s2 d _ (by rwa [upd_ne ne] at nd) upd_same (on_way na nd ne sb)
    | true =>
      refine iteFe rfl ?_
      have hi : 0 ≤ i ∧ i < m ∧ 0 ≤ j ∧ j < n := by
        unfold inT at io
        simp only [Bool.and_eq_true, decide_eq_true_eq] at io
        omega
      obtain ⟨i', rfl⟩ : ∃ i' : Nat, i = i' := ⟨i.toNat, by omega⟩
      obtain ⟨j', rfl⟩ : ∃ j' : Nat, j = j' := ⟨j.toNat, by omega⟩
      have lj : j' < T0.length := by rw [g.h]; omega
      have hrow : T0[j']? = some T0[j'] := List.getElem?_eq_getElem lj
      have ljR : j' < R.length := by rw [hs.t.2.1]; exact lj
      have hr0 : R[j']? = some R[j'] := List.getElem?_eq_getElem ljR
      refine ⟨_, rfl, z, rfl, lz, fun H3 s3 => ?_⟩
      have s3' : Same H H3 := s2.trans s3
      have t3 := hs.t.up s3'
      have hR := t3.2.2 j' _ _ hr0 hrow
      refine ⟨_, rfl, x, CS, dx, _, _, rfl, s3' _ _ ho, T.cl, T.nR, rfl, _, rfl, a, _, (j' : Int), _, rfl, rfl, SqL.of t3.1, atI_nat (by rw [List.getElem?_map, hr0]; rfl), _, rfl, R[j'], rowsV T0[j'], (i' : Int), i', rfl, rfl, hR, ?_, ?_⟩
      · have li : i' < (rowsV T0[j']).length := by rw [rowsV_len, g.w _ (List.getElem_mem lj)]; omega
        exact ixN_nat li
      · rw [rowsV_set]
        exact k i' j' rfl rfl (by omega) dz _ _ hr0 hrow _ (fun b o ne e => by rw [upd_ne ne]; exact s3' _ _ e) upd_same
/-! sketch[x, y] = signs -/
def spSetIt (CS CO CG : Addr) : Sp := fun vs H Q E => ∃ r t i j v, vs = [.ref r, .ref t, v] ∧ H t = some (.tup [.int i, .int j]) ∧ (∃ dx fs, H r = some (.ins CS dx fs) ∧ fs.lookup ("allow" : Str) = none) ∧ spAllowX CS CO CG [.ref r, .int i, .int j, v] H (fun _ H' => Q .non H') E
abbrev nSetIt : List Str := ["self", "at", "worth", "x", "y"]
theorem scSetIt : FnScope nSetIt ["self", "at", "worth"] (defScope cSketchSetitem) := ⟨rfl, rfl, rfl, by decide +kernel, rfl, by decide +kernel, by decide +kernel⟩
theorem ok_setIt {f fA : Addr} {fd dA : FuncData} (F : Fun K "__setitem__" "Sketch.__setitem__" cSketchSetitem f fd) (T : Kls K mg CS) (OA : FnOk P w K mg base (L2.CX P w) 4 fA dA nAllow (spAllowX CS CO CG)) (mA : Meth K CS "allow" fA) (bA : Binds K dA nAllow []) : FnOk P w K mg base (L2.CX P w) 5 f fd ["self", "at", "worth"] (spSetIt CS CO CG) := by
  refine F.okX scSetIt (fun vs H Q E h => ?_) (fun cdv A outer s H vs Q E hr h => ?_)
  · obtain ⟨r, t, i, j, v, rfl, _⟩ := h
    rfl
  · obtain ⟨r, t, i, j, v, rfl, ht, ⟨dx, fs, ho, nf⟩, h⟩ := h
    refine ⟨_, pss_cons (ps_asg (pv 1) (pg_tup rfl (pgs_cons (pg_name (i := 3) scSetIt.nd rfl (.inl rfl)) (pgs_cons (pg_name (i := 4) scSetIt.nd rfl (.inl rfl)) pgs_nil))))
      (pss_one (ps_expr (pe_methE (E := fun _ => E) (pv 0) T.cl mA OA hr bA (fun σ pins H s e s' I c => passes_call (takes_of rfl rfl rfl rfl) (fun _ _ _ _ z => z) pins σ H s e s' I c) (pa_cons (pv 3) (pa_cons (pv 4) (pa_cons (pv 2) pa_nil)))))), ?_⟩
    exact ⟨_, rfl, t, [.int i, .int j], rfl, SqT.of ht, rfl, _, _, rfl, _, _, rfl, rfl, _, rfl, r, dx, fs, rfl, ho, nf, _, rfl, _, rfl, _, rfl, h⟩
end
end Pm
/-! ### o[i] = v, o of a class with an own __setitem__ (that may raise) -/
namespace Pm
open PySem PySem.Spec PyProof.Rows L2 SX Tr
section
variable {X : Cx} {CXf : CXT} {k : Nat} {f C : Addr} {fd : FuncData} {ps : List Str} {sp : Sp}
def gSubO (C : Addr) (sp : Sp) (E : L2.St → XK) (to ti : TE) : TG := fun v σ H Q => to σ H fun o H1 => ti σ H1 fun i H2 => ∃ r dx fs, o = .ref r ∧ H2 r = some (.ins C dx fs) ∧ sp [o, i, v] H2 (fun _ H3 => Q σ H3) (E σ)
theorem run_atS {E : XK} {pins : List (Addr × Obj)} {σ : L2.St} {H : Hp} {s : Shared} {A : Around} {Q : VK} {us : List Value} {vs : List V} (F : FnOk X.prog X.w X.K X.mg X.base CXf k f fd ps sp) (hr : Room k A) (fr : A.frames = X.A.frames) (hb : Binds X.K fd ps []) (hx : PassesAt CXf X σ E) (I : L2.Inv X pins σ H s)
    (r : Vals vs us) (h : sp vs H Q E) : wpAny (model X.prog X.w) A (call (.ref f) us) (EP X pins σ Q) X.xe s := by
  have e0 : Env0 X.prog X.w X.K X.mg X.base A X.stack s H := by
    have e := I.env0
    exact ⟨by rw [fr]; exact e.frames, e.mod, e.bs, e.bsz, e.funs, e.frf, e.hok, e.bare⟩
  have hl := F.len _ _ _ _ h
  refine wpAny_call (codeAny_mono (F.run A X.stack s H ⟨us, []⟩ us vs _ E hr e0 (by
    have := hb s us I.kIn (by rw [List.append_nil, ← r.length]; exact hl)
    simpa using this) r h) fun q s' hq => ?_)
  cases q with
  | error e => exact hx pins H s e s' I hq
  | ok fl =>
    cases fl with
    | ret u => exact I.after hq
    | next => exact False.elim hq
    | brk => exact False.elim hq
    | cont => exact False.elim hq
theorem pg_subO {o i : Expr} {to ti : TE} {E : L2.St → XK} {pos : Pos} (F : FnOk X.prog X.w X.K X.mg X.base CXf k f fd ps sp) (hr : Room k X.A) (hb : Binds X.K fd ps []) (m : OwnM X.K C "__setitem__" f) (nq : PySem.W.noSeq X.K C = true) (hx : ∀ σ, PassesAt CXf X σ (E σ)) (ho : PE X o to) (hi : PE X i ti)
    (ha : ∀ v, assign (.Subscript o i pos) X.env v = (do
      let ov ← holding [v] (eval o X.env)
      let iv ← holding [v, ov] (eval i X.env)
      standAt pos
      holding [v, ov, iv] (setItem ov iv v)
      release [v, ov, iv] []) := by intro _; rfl) : PG X (.Subscript o i pos) (gSubO C sp E to ti) := by
  refine ⟨fun pins s σ H v u Q I r h => ?_⟩
  rw [ha]
  refine wpAny_bind (wpAny_holding (thn (ho.run pins s σ H _ I h) fun ov s1 ⟨x, H1, I1, r1, q1⟩ => ?_))
  refine wpAny_bind (wpAny_holding (thn (hi.run pins s1 σ H1 _ I1 q1) fun iv s2 ⟨y, H2, I2, r2, q2⟩ => ?_))
  obtain ⟨a, dx, fs, rfl, hr0, q2⟩ := q2
  obtain rfl : ov = Value.ref a := r1
  obtain ⟨mA, J, _⟩ := ins_get I2.hok hr0
  obtain ⟨od, J, _⟩ := J.look
  obtain ⟨mm, hF⟩ := I2.fr
  refine wpAny_bind (wpAny_standAt (wpAny_bind (wpAny_holding (PySem.W.ksp_setItem hF I2.ok.mod.kin J nq m.at_ m.fn (thn (run_atS (vs := [.ref a, y, v]) F hr rfl hb (hx σ) I2 (.cons rfl (.cons r2 (.cons r .nil))) q2) fun z s3 ⟨zv, H3, I3, _, q3⟩ => ?_)))))
  exact wpAny_release ⟨σ, H3, I3, q3⟩
end
end Pm
namespace Pm
open PySem PySem.Spec PyProof.Rows L2 SX
/-! ### rows as data -/
/-- no sign is far out, none ends a line -/
def Low (R : Rows) : Prop := ∀ r ∈ R, ∀ c ∈ r, c < 256 ∧ c ≠ 10
def dR (r : List Nat) : PyData := .str (S r)
theorem dR_eqv (r q : List Nat) : PyData.eqv (dR r) (dR q) = decide (r = q) := by
  show (S r == S q) = _
  exact S_beq_eq
theorem dRs_lay : ∀ {M : Rows}, Low M → PyData.canLayAll0 (M.map dR) = true
  | [], _ => rfl
  | r :: M, h => by
    have e1 := dRs_lay (M := M) fun q m => h q (List.mem_cons_of_mem _ m)
    have e2 : PyData.strOk (S r) = true := by
      show (S r).cps.all (· < 0x110000) = true
      rw [Array.all_eq_true]
      intro i hi
      have m := h r List.mem_cons_self _ (List.getElem_mem (l := r) (n := i) (by simpa using hi))
      exact decide_eq_true (Nat.lt_of_lt_of_le (by simpa using m.1) (by decide))
    show (PyData.strOk (S r) && PyData.canLayAll0 (M.map dR)) = true
    rw [e1, e2]
    rfl
theorem dRs_depth : ∀ M : Rows, PyData.depthAll (M.map dR) = 0
  | [] => by simp [PyData.depthAll]
  | c :: M => by
    have := dRs_depth M
    simp [PyData.depthAll, dR, PyData.depth, this]
theorem dRs_shaped {M : Rows} (h : Low M) : SeqAt.shaped (.list (M.map dR)) = true := by
  have z := dRs_depth M
  have y := dRs_lay h
  simp [SeqAt.shaped, PyData.canLay0, PyData.depth, y, z]
theorem dRs_eqvAll : ∀ M N : Rows, PyData.eqvAll (M.map dR) (N.map dR) = decide (M = N)
  | [], N => by cases N <;> simp [PyData.eqvAll]
  | r :: M, [] => by simp [PyData.eqvAll]
  | r :: M, q :: N => by
    rw [List.map_cons, List.map_cons]
    show (PyData.eqv (dR r) (dR q) && PyData.eqvAll (M.map dR) (N.map dR)) = _
    rw [dR_eqv, dRs_eqvAll M N]
    simp
theorem dRs_eqv (M N : Rows) : PyData.eqv (.list (M.map dR)) (.list (N.map dR)) = decide (M = N) := by
  simp [PyData.eqv, dRs_eqvAll]
theorem dp_rows {K : PySem.W.Frag} {H : Hp} : ∀ R : Rows, DpAll K H (rowsV R) (R.map dR)
  | [] => .nil
  | r :: R => .cons (.str _) (dp_rows R)
theorem dp_list {K : PySem.W.Frag} {H : Hp} {a : Addr} {R : Rows} (h : H a = some (.lst (rowsV R))) : Dp K H (.ref a) (.list (R.map dR)) := .lst (SqL.of h) (dp_rows R)
theorem Low.nil : Low [] := fun r m => nomatch m
end Pm
/-! ### Sketch.__init__ -/
namespace Pm
open PySem PySem.Spec PyProof.Rows L2 SX Tr
theorem flat_rep (k : Nat) (v : V) : (List.replicate k [v]).flatten = List.replicate k v := by
  induction k with
  | zero => rfl
  | succ k ih => rw [List.replicate_succ, List.replicate_succ, List.flatten_cons, ih]; rfl
/-- a size between 1 and 8 -/
theorem pt_size {X : Cx} {i : Nat} {e : Expr} {j : Nat} {uM : Value} {p1 p2 pos : Pos} (he : PE X e (tVar i)) (hg : Gl X "MOST") (hM : X.mg "MOST" = some uM) (rM : RelV (.int 8) uM)
    (hm : lastMarks [.LtE, .LtE] [e, .Name "MOST" p2] = false := by with_unfolding_all rfl) : PT X (.Compare (.Constant (.int 1) j p1) [.LtE, .LtE] [e, .Name "MOST" p2] pos) (fun σ H Q => ∃ m : Int, σ[i]? = some (some (.int m)) ∧ Q (decide (1 ≤ m) && decide (m ≤ 8)) H) :=
  PT.weak (pt_chain op_le op_le pe_int he (pe_glob hg hM rM) hm) fun σ H Q ⟨m, e, q⟩ => ⟨_, e, _, _, rfl, rfl, _, rfl, by
    by_cases h : 1 ≤ m
    · rw [if_pos (decide_eq_true h)]
      refine ⟨_, _, rfl, rfl, _, rfl, ?_⟩
      rw [decide_eq_true h, Bool.true_and] at q
      exact q
    · rw [if_neg (by rw [decide_eq_false h]; decide)]
      rw [decide_eq_false h, Bool.false_and] at q
      exact ⟨_, rfl, q⟩⟩
abbrev fullT (m n : Nat) : Tab := List.replicate n (List.replicate m anyL)
/-- a new table: none of it was there -/
def NewT (H : Hp) (a : Addr) (R : List Addr) : Prop := (a :: R).Nodup ∧ ∀ b ∈ a :: R, H b = none
/-! #### a table that grows row by row -/
def PvT (H1 : Hp) (D : Addr) (T : Tab) (i : Nat) (G : Hp) : Prop := ∃ R : List Addr, R.length = i ∧ Same H1 G ∧ G D = some (.lst (R.map V.ref)) ∧ (D :: R).Nodup ∧ (∀ b ∈ D :: R, H1 b = none) ∧ ∀ (j : Nat) (r : Addr) (z : List (List Nat)), R[j]? = some r → T[j]? = some z → G r = some (.lst (rowsV z))
theorem pvT0 {H1 : Hp} {D : Addr} {T : Tab} (n : H1 D = none) : PvT H1 D T 0 (upd H1 D (.lst [])) :=
  ⟨[], rfl, sup n, upd_same, List.nodup_cons.mpr ⟨by simp, List.nodup_nil⟩, fun b m => by rw [List.mem_singleton.mp m]; exact n, fun j r z e => nomatch e⟩
theorem pvTS {H1 G G' : Hp} {D p : Addr} {T : Tab} {i : Nat} {z : List (List Nat)} (h : PvT H1 D T i G) (li : i < 1000) (hz : T[i]? = some z) (s : Same G G') (np : G p = none) (hp : G' p = some (.lst (rowsV z))) :
    ∃ acc, G' D = some (.lst acc) ∧ acc.length < sizeLine ∧ PvT H1 D T (i + 1) (upd G' D (.lst (acc ++ [.ref p]))) := by
  obtain ⟨R, lR, s0, hD, nd, fr, each⟩ := h
  have pD : p ≠ D := fun y => by rw [y, hD] at np; cases np
  have pR : p ∉ R := fun m => by
    obtain ⟨j, lj, e⟩ := List.getElem_of_mem m
    cases ej : T[j]? with
    | none =>
      have h1 := List.getElem?_eq_none_iff.mp ej
      have h2 := (List.getElem?_eq_some_iff.mp hz).1
      omega
    | some y =>
      have := each j p y (List.getElem?_eq_some_iff.mpr ⟨lj, e⟩) ej
      rw [np] at this
      cases this
  refine ⟨_, s _ _ hD, by rw [List.length_map, lR]; exact Nat.lt_of_lt_of_le li (by decide), R ++ [p], by rw [List.length_append, lR]; rfl, fun b o e => ?_, ?_, ?_, fun b m => ?_, fun j r y e1 e2 => ?_⟩
  · rw [upd_ne (fun y => by rw [y, fr D List.mem_cons_self] at e; cases e)]
    exact s _ _ (s0 _ _ e)
  · rw [upd_same, List.map_append]
    rfl
  · have n1 := List.nodup_cons.mp nd
    refine List.nodup_cons.mpr ⟨fun m => ?_, ?_⟩
    · rcases List.mem_append.mp m with m | m
      · exact n1.1 m
      · exact pD (List.mem_singleton.mp m).symm
    · rw [List.nodup_append]
      exact ⟨n1.2, by simp, fun a ma b mb y => by rw [List.mem_singleton.mp mb] at y; exact pR (y ▸ ma)⟩
  · rcases List.mem_cons.mp m with y | m
    · rw [y]; exact fr D List.mem_cons_self
    · rcases List.mem_append.mp m with m | m
      · exact fr b (List.mem_cons_of_mem _ m)
      · rw [List.mem_singleton.mp m]
        cases q : H1 p with
        | none => rfl
        | some o =>
          have := s0 _ _ q
          rw [np] at this
          cases this
  · by_cases lj : j < R.length
    · rw [List.getElem?_append_left lj] at e1
      have hr := each j r y e1 e2
      rw [upd_ne (fun q => by
        have := (List.nodup_cons.mp nd).1
        exact this (q ▸ List.mem_of_getElem? e1))]
      exact s _ _ hr
    · rw [List.getElem?_append_right (by omega)] at e1
      have ej : j - R.length = 0 := by
        have := (List.getElem?_eq_some_iff.mp e1).1
        simp at this
        omega
      rw [ej] at e1
      cases e1
      have : j = i := by omega
      subst this
      rw [hz] at e2
      cases e2
      rw [upd_ne pD]
      exact hp
theorem pvTD {H1 G : Hp} {D : Addr} {T : Tab} (h : PvT H1 D T T.length G) : ∃ R, TabAt G D R T ∧ NewT H1 D R ∧ Same H1 G := by
  obtain ⟨R, lR, s0, hD, nd, fr, each⟩ := h
  exact ⟨R, ⟨hD, lR, each⟩, ⟨nd, fr⟩, s0⟩
/-- what a row's comprehension asks -/
def tFullRow (K : PySem.W.Frag) (CS : Addr) : TE := fun σ H Q => ∃ x dx fs, ∃ m : Nat, ∃ uA, σ[0]? = some (some (.ref x)) ∧ σ[1]? = some (some (.int m)) ∧ H x = some (.ins CS dx fs) ∧ L2.Cls K CS ∧ Con K CS "ANY" (.str ".abcdefghijklmnopqrstuvwxyz") uA ∧ fs.lookup ("ANY" : Str) = none ∧ m ≤ 8 ∧
  ∀ H' p, Same H H' → H p = none → H' p = some (.lst (rowsV (List.replicate m anyL))) → Q (.ref p) H'
theorem rowsV_full (m : Nat) : rowsV (List.replicate m anyL) = List.replicate m (.str ".abcdefghijklmnopqrstuvwxyz") := by
  unfold rowsV
  rw [List.map_replicate, S_any]
theorem pe_fullRow {X : Cx} {eS eW : Expr} {p1 p2 p3 : Pos} {CS : Addr} (hS : PE X eS (tVar 0)) (hW : PE X eW (tVar 1)) (hb : attributeBase eS "ANY" X.env (eval eS X.env) = eval eS X.env) (hs : starEach [.Attribute eS "ANY" p1] X.env = [(false, eval (.Attribute eS "ANY" p1) X.env)] := by rfl) :
    PE X (.BinOp (.List [.Attribute eS "ANY" p1] p2) .Mult eW p3) (tFullRow X.K CS) :=
  PE.weak (pe_op op_rep (pe_lst (pa_cons (pe_con hS hb) pa_nil hs)) hW) fun σ H Q ⟨x, dx, fs, m, uA, e0, e1, hx, cl, cA, nf, m8, k⟩ => by
    refine ⟨_, e0, x, CS, dx, fs, _, uA, rfl, hx, cl, cA, nf, ?_⟩
    refine ⟨by show 1 ≤ _; decide, fun l nl => ⟨_, e1, l, (m : Int), _, rfl, rfl, upd_same, by omega, by omega, ?_, fun p np => ?_⟩⟩
    · show 1 * (m : Int).toNat ≤ sizeLine
      have : (m : Int).toNat = m := rfl
      rw [this, Nat.one_mul]
      exact Nat.le_trans m8 (by decide)
    · refine k _ p (fun b o e => ?_) ?_ ?_
      · have nb : b ≠ l := ne_of_none e nl
        have np' : b ≠ p := fun y => by rw [← y, upd_ne nb] at np; rw [np] at e; cases e
        rw [upd_ne np', upd_ne nb]
        exact e
      · by_cases y : p = l
        · rw [y]; exact nl
        · rwa [upd_ne y] at np
      · rw [upd_same, rowsV_full]
        rw [show (List.replicate (m : Int).toNat [V.str ".abcdefghijklmnopqrstuvwxyz"]).flatten = List.replicate m (.str ".abcdefghijklmnopqrstuvwxyz") from flat_rep m _]
section
variable {P : Program} {w : World} {K : PySem.W.Frag} {mg : Str → Option Value} {base : Heap} {CS CP : Addr}
def spSkInit (CS : Addr) : Sp := fun vs H Q _ => ∃ x dx, ∃ m n : Nat, ∃ rows, vs = [.ref x, .int m, .int n, rows] ∧ H x = some (.ins CS dx []) ∧ 1 ≤ m ∧ m ≤ 8 ∧ 1 ≤ n ∧ n ≤ 8 ∧
  ((rows = .non ∧ ∀ H' a R, SameBut x H H' → H' x = some (skO CS dx m n a) → TabAt H' a R (fullT m n) → NewT H a R → Q .non H') ∨ ∃ a, rows = .ref a ∧ ∀ H', SameBut x H H' → H' x = some (skO CS dx m n a) → Q .non H')
abbrev nSkInit : List Str := ["self", "width", "height", "_rows", "_"]
theorem scSkInit : FnScope nSkInit ["self", "width", "height", "_rows"] (defScope cSketchInit) := ⟨rfl, rfl, rfl, by decide +kernel, rfl, by decide +kernel, by decide +kernel⟩
theorem ok_skInit {f : Addr} {fd : FuncData} (F : FunD K "__init__" "Sketch.__init__" (defArgs cSketchInit) (defBody cSketchInit) (defScope cSketchInit) [] [("_rows", .non)] f fd) (L : LTxt K mg) (TP : PTxt K mg CP) (T : Kls K mg CS) : FnOk P w K mg base CX0 1 f fd ["self", "width", "height", "_rows"] (spSkInit CS) := by
  refine F.ok (CX := CX0) scSkInit (fun vs H Q E h => ?_) (fun cdv A outer s H vs Q E hr h => ?_)
  · obtain ⟨x, dx, m, n, rows, rfl, _⟩ := h
    rfl
  · obtain ⟨x, dx, m, n, rows, rfl, hx, m1, m8, n1, n8, k⟩ := h
    obtain ⟨uM, hM, rM⟩ := TP.most
    obtain ⟨uA, cA⟩ := T.any
    refine ⟨_, pss_cons (ps_if (PW.pt (pw_or (pt_not (pt_size (pv 1) (by rfl) hM rM)) (pw_or1 (pt_not (pt_size (pv 2) (by rfl) hM rM))))) (PSs.when (p := False) (t := fun _ _ _ => True) fun z => z.elim) pss_nil)
      (pss_cons (ps_fld (pv 0) (pv 1) rfl)
      (pss_cons (ps_fld (pv 0) (pv 2) rfl)
      (pss_one (ps_fld (pv 0) (pe_ifExp (pt_cmpR op_isN (pv 3) pe_non (nomark _)) (pe_lc (te := tFullRow K CS) (own := [("_", 4)]) (g := gName 4) (tt := tYes) rfl scSkInit.nd (pi_range1 (by rfl) L.rng (pa_cons (pv 2) pa_nil)) (blkOk_by (own := [("_", 4)]) (N := nSkInit) (sc := defScope cSketchInit) (by decide +kernel)) (fun _ _ _ _ _ => pg_name (i := 4) scSkInit.nd rfl (.inl rfl)) (fun _ _ _ _ _ => pts_nil) (fun _ _ _ _ _ => pe_fullRow (pv 0) (pv 1) rfl)) (pv 3)) rfl)))), ?_⟩
    refine ⟨(m : Int), rfl, ?_⟩
    have t1 : (decide (1 ≤ (m : Int)) && decide ((m : Int) ≤ 8)) = true := by rw [decide_eq_true (by omega), decide_eq_true (by omega)]; rfl
    have t2 : (decide (1 ≤ (n : Int)) && decide ((n : Int) ≤ 8)) = true := by rw [decide_eq_true (by omega), decide_eq_true (by omega)]; rfl
    rw [t1]
    refine ⟨(n : Int), rfl, ?_⟩
    rw [t2]
    refine ⟨_, rfl, _, rfl, x, CS, dx, [], rfl, hx, T.cl, T.nW, by show 0 < 1000; decide, ?_⟩
    refine ⟨_, rfl, _, rfl, x, CS, dx, _, rfl, upd_same, T.cl, T.nH, by show 1 < 1000; decide, ?_⟩
    have hx2 : (upd (upd H x (HO.ins CS dx (putF "width" (V.int m) []))) x (HO.ins CS dx (putF "height" (V.int n) (putF "width" (V.int m) [])))) x = some (.ins CS dx [("width", .int m), ("height", .int n)]) := upd_same
    have hb2 : ∀ b o, b ≠ x → H b = some o → (upd (upd H x (HO.ins CS dx (putF "width" (V.int m) []))) x (HO.ins CS dx (putF "height" (V.int n) (putF "width" (V.int m) [])))) b = some o := fun b o nb e => by rw [upd_ne nb, upd_ne nb]; exact e
    have hn2 : ∀ b, (upd (upd H x (HO.ins CS dx (putF "width" (V.int m) []))) x (HO.ins CS dx (putF "height" (V.int n) (putF "width" (V.int m) [])))) b = none → b ≠ x ∧ H b = none := fun b e => by
      have nb : b ≠ x := fun y => by rw [y, upd_same] at e; cases e
      rw [upd_ne nb, upd_ne nb] at e
      exact ⟨nb, e⟩
    revert hx2 hb2 hn2
    generalize (upd (upd H x (HO.ins CS dx (putF "width" (V.int m) []))) x (HO.ins CS dx (putF "height" (V.int n) (putF "width" (V.int m) [])))) = H2
    intro hx2 hb2 hn2
    rcases k with ⟨rfl, k⟩ | ⟨a, rfl, k⟩
    · refine ⟨_, rfl, rfl, _, rfl, iteTe (decide_eq_true rfl) ?_⟩
      refine ⟨_, rfl, (n : Int), rfl, by omega, by omega, fun D nD => ?_⟩
      refine lc_range (lo := 0) (n := (n : Int).toNat) (PvT H2 D (fullT m n)) (pvT0 nD) (fun i G hi pv => ?_) (fun G pv => ?_)
      · have hi : i < n := hi
        refine ⟨rfl, tyes (iteT ?_)⟩
        have s0 : Same H2 G := pv.choose_spec.2.1
        refine ⟨x, dx, _, m, uA, rfl, rfl, s0 _ _ hx2, T.cl, cA, rfl, m8, fun G' p sG np hp => ?_⟩
        exact pvTS pv (by omega) (List.getElem?_replicate_of_lt hi) sG np hp
      · have pv : PvT H2 D (fullT m n) (fullT m n).length G := by rw [List.length_replicate]; exact pv
        obtain ⟨R, tT, nw, s0⟩ := pvTD pv
        refine ⟨_, rfl, x, CS, dx, _, rfl, s0 _ _ hx2, T.cl, T.nR, by show 2 < 1000; decide, ?_⟩
        have nx : ∀ b ∈ D :: R, b ≠ x := fun b mb => (hn2 b (nw.2 b mb)).1
        exact k _ D R (fun b o nb e => by rw [upd_ne nb]; exact s0 _ _ (hb2 b o nb e)) upd_same (tT.keep fun b o mb e => by rw [upd_ne (nx b mb)]; exact e) ⟨nw.1, fun b mb => (hn2 b (nw.2 b mb)).2⟩
    · refine ⟨_, rfl, rfl, _, rfl, iteFe (decide_eq_false (by simp)) ?_⟩
      refine ⟨_, rfl, _, rfl, x, CS, dx, _, rfl, hx2, T.cl, T.nR, by show 2 < 1000; decide, ?_⟩
      exact k _ (fun b o nb e => by rw [upd_ne nb]; exact hb2 b o nb e) upd_same
end
end Pm
/-! ### copies -/
namespace Pm
open PySem PySem.Spec PyProof.Rows L2 SX Tr
abbrev nIn4 : List Str := ["self", "width", "height", "_rows"]
structure MkS (P : Program) (w : World) (K : PySem.W.Frag) (mg : Str → Option Value) (base : Heap) (CS fI : Addr) (dI : FuncData) (ds : List Value) : Prop where
  mkk : Mk K CS fI
  OI : FnOk P w K mg base CX0 1 fI dI nIn4 (spSkInit CS)
  kb : KBn K dI nIn4 3 ["_rows"] (fun us ws => us ++ ws) (fun vs zs => vs ++ zs)
  bd : Binds K dI nIn4 ds
  dv : Vals [V.non] ds
/-- a list's copy, the list in slot i -/
def tListOf (i : Nat) : TE := fun σ H Q => ∃ r z, σ[i]? = some (some (.ref r)) ∧ H r = some (.lst (rowsV z)) ∧ ∀ H' p, Same H H' → H p = none → H' p = some (.lst (rowsV z)) → Q (.ref p) H'
theorem pe_listOf {X : Cx} {i : Nat} {e : Expr} {p pos : Pos} (he : PE X e (tVar i)) (hg : Gl X "list") (hm : X.mg "list" = none) (hs : starEach [e] X.env = [(false, eval e X.env)] := by rfl) : PE X (.Call (.Name "list" p) [e] [] pos) (tListOf i) :=
  PE.weak (pe_callTy call_list_of hg hm (by decide +kernel) (pa_cons he pa_nil hs) (by decide) (by decide) hs (by rfl)) fun σ H Q ⟨r, z, e, h, k⟩ =>
    ⟨_, e, r, _, rfl, .inl (SqL.of h), fun p np => k _ p (fun b o e => by rw [upd_ne (ne_of_none e np)]; exact e) np upd_same⟩
section
variable {P : Program} {w : World} {K : PySem.W.Frag} {mg : Str → Option Value} {base : Heap} {CS CP : Addr}
def NewSk (H : Hp) (x a : Addr) (R : List Addr) : Prop := (x :: a :: R).Nodup ∧ ∀ b ∈ x :: a :: R, H b = none
def spCopy (CS : Addr) : Sp := fun vs H Q _ => ∃ x a R T m n, vs = [.ref x] ∧ SkAt CS H x a R T m n ∧ TabOk T m n ∧ ∀ H' y a' R', Same H H' → SkAt CS H' y a' R' T m n → NewSk H y a' R' → Q (.ref y) H'
/-- a sketch made of new rows -/
theorem made_new {H H1 : Hp} {D x dx : Addr} {R : List Addr} {T : Tab} {m n : Nat} (s0 : Same H H1) (tT : TabAt H1 D R T) (nw : NewT H D R) (nx : H1 x = none) (nd : H1 dx = none) (ne : dx ≠ x) {H' : Hp} (s : SameBut x (upd (upd H1 dx (.own x)) x (.ins CS dx [])) H') (hx : H' x = some (skO CS dx m n D)) : Same H H' ∧ SkAt CS H' x D R T m n ∧ NewSk H x D R := by
  have up1 : Same H1 H' := fun b o e => s b o (ne_of_none e nx) (by rw [upd_ne (ne_of_none e nx), upd_ne (ne_of_none e nd)]; exact e)
  refine ⟨s0.trans up1, ⟨⟨dx, hx⟩, tT.up up1⟩, List.nodup_cons.mpr ⟨fun mm => ?_, nw.1⟩, fun b mb => ?_⟩
  · have : ∃ o, H1 x = some o := by
      rcases List.mem_cons.mp mm with e | mR
      · rw [e]; exact ⟨_, tT.1⟩
      · obtain ⟨j, lj, e⟩ := List.getElem_of_mem mR
        have l2 : j < T.length := by rw [← tT.2.1]; exact lj
        exact ⟨_, tT.2.2 j x _ (List.getElem?_eq_some_iff.mpr ⟨lj, e⟩) (List.getElem?_eq_getElem l2)⟩
    obtain ⟨o, e⟩ := this
    rw [nx] at e
    cases e
  · rcases List.mem_cons.mp mb with e | mR
    · rw [e]
      cases q : H x with
      | none => rfl
      | some o => rw [s0 _ _ q] at nx; cases nx
    · exact nw.2 b mR
end
end Pm
/-! ### tables and sketches compared -/
namespace Pm
open PySem PySem.Spec PyProof.Rows L2 SX Tr
def LowT (T : Tab) : Prop := ∀ r ∈ T, Low r
theorem TabOk.low {T : Tab} {m n : Nat} (g : TabOk T m n) : LowT T := fun r mr z mz c mc => by
  rcases (g.ok r mr z mz).2.2.1 c mc with e | e <;> omega
def dT (T : Tab) : List PyData := T.map fun r => .list (r.map dR)
theorem dT_depth : ∀ T : Tab, PyData.depthAll (dT T) ≤ 8
  | [] => by simp [dT, PyData.depthAll]
  | r :: T => by
    have z := dRs_depth r
    have y := dT_depth T
    unfold dT at y ⊢
    simp [PyData.depthAll, PyData.depth]
    omega
theorem dT_lay : ∀ {T : Tab}, LowT T → PyData.canLayAll0 (dT T) = true
  | [], _ => by simp [dT, PyData.canLayAll0]
  | r :: T, h => by
    have z := dRs_lay (h r List.mem_cons_self)
    have y := dT_lay fun q m => h q (List.mem_cons_of_mem _ m)
    unfold dT at y ⊢
    simp [PyData.canLayAll0, PyData.canLay0, z, y]
theorem dT_shaped {T : Tab} (h : LowT T) : SeqAt.shaped (.list (dT T)) = true := by
  have z := dT_depth T
  have y := dT_lay h
  simp [SeqAt.shaped, PyData.canLay0, PyData.depth, y]
  omega
theorem dT_eqvAll : ∀ M N : Tab, PyData.eqvAll (dT M) (dT N) = decide (M = N)
  | [], N => by cases N <;> simp [dT, PyData.eqvAll]
  | r :: M, [] => by simp [dT, PyData.eqvAll]
  | r :: M, q :: N => by
    show (PyData.eqv (.list (r.map dR)) (.list (q.map dR)) && PyData.eqvAll (dT M) (dT N)) = _
    rw [dRs_eqv, dT_eqvAll M N]
    simp
theorem dT_eqv (M N : Tab) : PyData.eqv (.list (dT M)) (.list (dT N)) = decide (M = N) := by
  simp [PyData.eqv, dT_eqvAll]
theorem dp_tabs {K : PySem.W.Frag} {H : Hp} : ∀ {R : List Addr} {T : Tab}, R.length = T.length → (∀ (j : Nat) (r : Addr) (z : List (List Nat)), R[j]? = some r → T[j]? = some z → H r = some (.lst (rowsV z))) → DpAll K H (R.map V.ref) (dT T)
  | [], [], _, _ => .nil
  | r :: R, z :: T, l, h => .cons (dp_list (h 0 r z rfl rfl)) (dp_tabs (by simpa using l) fun j r' z' e1 e2 => h (j + 1) r' z' (by simpa using e1) (by simpa using e2))
theorem TabAt.dp {K : PySem.W.Frag} {H : Hp} {a : Addr} {R : List Addr} {T : Tab} (h : TabAt H a R T) : Dp K H (.ref a) (.list (dT T)) := .lst (SqL.of h.1) (dp_tabs h.2.1 h.2.2)
structure NotT (K : PySem.W.Frag) (C : Addr) (T : String) : Prop where
  ic : PySem.W.isClsIn K C = true
  ty : PySem.W.typeIn K (.ref C) = some (.type "type")
  sub : PySem.W.subIn K (.type T) (.ref C) = some false
theorem NotT.kit {K : PySem.W.Frag} {C : Addr} {T : String} (n : NotT K C T) : PySem.W.kitOne K (.type T) (.ref C) = some false := by
  unfold PySem.W.kitOne
  rw [if_neg (by simp)]
  show (if ((PySem.W.clsIn K C).isSome && PySem.W.typeIn K (.ref C) == some (.type "type")) = true then PySem.W.subIn K (.type T) (.ref C) else none) = some false
  rw [if_pos (by rw [show (PySem.W.clsIn K C).isSome = true from n.ic, n.ty]; rfl)]
  exact n.sub
/-- what the text says further of the class of sketches -/
structure SKit (K : PySem.W.Frag) (CS : Addr) : Prop where
  ca : PySem.W.findIn K (.ref CS) "__class__" = some (some (.builtin "object.__class__"))
  cn : PySem.W.specialIn K (.builtin "object.__class__") "__get__" = some (some (.builtin "getset_descriptor.__get__"))
  ct : PySem.W.takesIn K (.builtin "object.__class__") = some true
  cm : PySem.W.mroIn K CS (.type "object") = some true
  kk : PySem.W.kitOne K (.ref CS) (.ref CS) = some true
  nl : NotT K CS "list"
  ns : NotT K CS "str"
section
variable {P : Program} {w : World} {K : PySem.W.Frag} {mg : Str → Option Value} {base : Heap} {CS : Addr}
theorem SkAt.ty {H : Hp} {x a : Addr} {R : List Addr} {T : Tab} {m n : Nat} (Y : SKit K CS) (T0 : Kls K mg CS) (h : SkAt CS H x a R T m n) : TyX K H (.ref x) (.ref CS) := by
  obtain ⟨dx, e⟩ := h.o
  exact .base (.ins e T0.cl Y.ca Y.cn Y.ct Y.cm)
/-- the other thing: a sketch, a list, a text -/
def Oth (CS : Addr) (H : Hp) (T : Tab) (y : V) (b : Bool) : Prop := (∃ q a R T2 m n, y = .ref q ∧ SkAt CS H q a R T2 m n ∧ LowT T2 ∧ b = decide (T = T2)) ∨ (∃ q xs, y = .ref q ∧ H q = some (.lst xs) ∧ b = false) ∨ ∃ z, y = .str z ∧ b = false
def spSkEq (CS : Addr) : Sp := fun vs H Q _ => ∃ x a R T m n y b, vs = [.ref x, y] ∧ SkAt CS H x a R T m n ∧ LowT T ∧ Oth CS H T y b ∧ Q (.bl b) H
theorem scSkEq : FnScope ["self", "other"] ["self", "other"] (defScope cSketchEq) := ⟨rfl, rfl, rfl, by decide +kernel, rfl, by decide +kernel, by decide +kernel⟩
theorem ok_skEq {f : Addr} {fd : FuncData} (F : Fun K "__eq__" "Sketch.__eq__" cSketchEq f fd) (L : LTxt K mg) (T : Kls K mg CS) (Y : SKit K CS) : FnOk P w K mg base CX0 1 f fd ["self", "other"] (spSkEq CS) := by
  refine F.ok scSkEq (fun vs H Q E h => ?_) (fun cdv A outer s H vs Q E hr h => ?_)
  · obtain ⟨x, a, R, T0, m, n, y, b, rfl, _⟩ := h
    rfl
  · obtain ⟨x, a, R, T0, m, n, y, b, rfl, hs, lo, ho, k⟩ := h
    refine ⟨_, pss_one (ps_ret (pe_and (pe_callB call_isi (by rfl) L.isi (by decide +kernel) (pa_cons (pv 1) (pa_cons (pe_glob (v := .ref CS) (by rfl) T.gS rfl) pa_nil)))
      (pe_one (pe_cmpR (op_eqD hr.units) (pe_fld (pv 0) rfl) (pe_fld (pv 1) rfl) (nomark _))))), ?_⟩
    rcases ho with ⟨q, a2, R2, T2, m2, n2, rfl, hs2, lo2, rfl⟩ | ⟨q, xs, rfl, hq, rfl⟩ | ⟨z, rfl, rfl⟩
    · refine ⟨_, rfl, .ref q, .ref CS, .ref CS, .ref CS, true, rfl, .own CS, hs2.ty Y T, Y.kk, true, rfl, ?_⟩
      obtain ⟨dx, h1⟩ := hs.o
      obtain ⟨dy, h3⟩ := hs2.o
      refine ⟨_, rfl, x, CS, dx, _, _, rfl, h1, T.cl, T.nR, rfl, _, rfl, q, CS, dy, _, _, rfl, h3, T.cl, T.nR, rfl, _, _, hs.t.dp, hs2.t.dp, dT_shaped lo, dT_shaped lo2, ?_⟩
      rw [dT_eqv]
      exact k
    · exact ⟨_, rfl, .ref q, .ref CS, .type "list", .ref CS, false, rfl, .own CS, .base (.lst hq), Y.nl.kit, false, rfl, k⟩
    · exact ⟨_, rfl, .str z, .ref CS, .type "str", .ref CS, false, rfl, .own CS, .base (.str _), Y.ns.kit, false, rfl, k⟩
end
/-! sketch == e -/
section
variable {X : Cx} {CS f : Addr} {fd : FuncData} {k : Nat}
def rSkEq (CS : Addr) : R2 := fun x y H Q => ∃ q a R T m n b, x = .ref q ∧ SkAt CS H q a R T m n ∧ LowT T ∧ Oth CS H T y b ∧ Q (.bl b) H
theorem op_skEq (O : FnOk X.prog X.w X.K X.mg X.base CX0 k f fd ["self", "other"] (spSkEq CS)) (hr : Room k X.A) (b : Binds X.K fd ["self", "other"] []) (m : OwnM X.K CS "__eq__" f) (Y : SKit X.K CS) : OpR X (compareOp .Eq) (rSkEq CS) := by
  intro pins s σ H x y v u Q I rx ry h
  obtain ⟨q, a, R, T, mm0, n, bb, rfl, hs, lo, ho, go⟩ := h
  obtain rfl : v = Value.ref q := rx
  obtain ⟨dx, h1⟩ := hs.o
  obtain ⟨mA, J, _⟩ := ins_get I.hok h1
  obtain ⟨od, J, _⟩ := J.look
  obtain ⟨mm, hF⟩ := I.fr
  have hu := hr.un
  have fin : ∀ {tb : Value}, PySem.W.Looks (model X.prog X.w) s.heap (typeOf u) tb → PySem.W.notFirst X.K CS tb = true → wpAny (model X.prog X.w) X.A (compareOp .Eq (.ref q) u) (EP X pins σ Q) X.xe s := fun hb hn => by
    show wpAny _ _ (richCompare .Eq _ _) _ _ _
    refine PySem.W.cmp_K (op := .Eq) (by omega) hF I.ok.mod.kin J hb hn m.at_ m.fn ?_
    refine wpAny_mono (run_at (Q := fun v H' => v = .bl bb ∧ H' = H) (E := E0) (vs := [.ref q, y]) O hr rfl b pass0 I (.cons rfl (.cons ry .nil)) ⟨q, a, R, T, mm0, n, y, bb, rfl, hs, lo, ho, rfl, rfl⟩) (fun v s' z => ?_) fun _ _ z => z
    obtain ⟨v', H', I', rv, rfl, rfl⟩ := z
    cases rv
    exact ⟨.bl bb, H', I', rfl, go⟩
  rcases ho with ⟨q2, a2, R2, T2, m2, n2, rfl, hs2, lo2, rfl⟩ | ⟨q2, xs, rfl, hq, rfl⟩ | ⟨z, rfl, rfl⟩
  · obtain rfl : u = Value.ref q2 := ry
    obtain ⟨dy, h3⟩ := hs2.o
    obtain ⟨mA2, J2, _⟩ := ins_get I.hok h3
    obtain ⟨od2, J2, _⟩ := J2.look
    exact fin J2.type (by simp [PySem.W.notFirst])
  · obtain rfl : u = Value.ref q2 := ry
    obtain ⟨_, its, c, _, e⟩ := (show ObjOk X.prog X.w H s.heap q2 (.lst xs) from I.hok q2 _ hq)
    refine fin ((PySem.W.Looks.ld e).andThen .now) ?_
    show ((Value.type "list" == .ref CS) || (PySem.W.subIn X.K (.type "list") (.ref CS) == some false)) = true
    rw [Y.nl.sub]
    simp
  · obtain ⟨tk, rfl⟩ := ry
    refine fin (tb := .type "str") (PySem.W.Looks.of_pure rfl) ?_
    show ((Value.type "str" == .ref CS) || (PySem.W.subIn X.K (.type "str") (.ref CS) == some false)) = true
    rw [Y.ns.sub]
    simp
end
end Pm
/-! ### Sketch.read of good words -/
namespace Tr
open PySem PySem.Spec PyProof.Rows L2 SX
def enumD (ds : List D) : List D := ds.zipIdx.map fun p => .tup [.int ((p.2 : Int) + 1), p.1]
section
variable {X : Cx} {B : Hp × Hp} {Γ : Env} {e : Expr} {es : List Expr} {E : L2.St → XK}
theorem i_enum1 {tg : Expr} {tk : TA} {ds : List D} (ho : ∀ {t : TA}, PA X es t → PI X tg e (Pm.iEnS X.K t tk)) (hk : ∀ σ H Q, Q [.int 1] H → tk σ H Q) (h : OkA X B es Γ [.lst ds]) : OkI X B tg e Γ (enumD ds) := PI.weak (ho h) fun σ H R ⟨F, w, k⟩ => ⟨F, w, fun vs F1 H1 w1 g1 r1 => hk _ _ _ (by
  cases r1 with
  | cons r1 r2 =>
    cases r2
    cases r1 with
    | @lst a us _ h1 r1 =>
      refine ⟨a, us, rfl, rfl, tofl (w1.fh _ _ h1), k _ F1 H1 w1 g1 ⟨_, _, by rw [show (enumD ds).length = us.length from by unfold enumD; rw [List.length_map, List.length_zipIdx, r1.length]]; exact Pm.walkS (K := X.K) (a := a) (xs := us), fun F H s fh => tofl (fh _ _ (s _ _ h1)), fun i F H v H' d s fh hd y => ?_⟩⟩
      obtain ⟨T, x, rfl, nT, rfl, hx⟩ := y
      obtain ⟨d', hd', rx⟩ := r1.atV hx
      unfold enumD at hd
      rw [List.getElem?_map, List.getElem?_zipIdx, hd'] at hd
      cases hd
      have g := Gr.new (o := .tup [.int ((i : Int) + 1), x]) fh nT
      refine ⟨_, g, same_both fh, ?_⟩
      show Rep X.K _ (.ref T) (.tup [.int (((0 + i : Nat) : Int) + 1), d'])
      rw [Nat.zero_add]
      exact .tup upd_same (.cons (.int _) (.cons ((rx.mono s).mono g.f) .nil)))⟩
theorem rm_split {K : PySem.W.Frag} {u v : List Nat} {ws : List (List Nat)} (e : Txt.split (S u) (S v) = ws.map S) (n : v ≠ []) (l : u.length ≤ 100000) :
    RMT K (fun x xs H Q => ∃ a b, x = .str a ∧ xs = [.str b] ∧ (b.length == 0) = false ∧ a.length + 2 ≤ sizeLine ∧ rNewStrs (Txt.split a b) H Q) (.tx u) [.tx v] (.lst (ws.map D.tx)) := fun F H fh x vs rx r Q q => by
  cases rx
  cases r with
  | cons r1 r =>
    cases r
    cases r1
    refine ⟨S u, S v, rfl, rfl, ?_, ?_, fun p np => ?_⟩
    · rw [lenS]
      cases v with
      | nil => exact absurd rfl n
      | cons => rfl
    · rw [lenS]
      exact Nat.le_trans (Nat.add_le_add_right l 2) (by decide)
    · rw [e]
      have g := Gr.new (o := .lst ((ws.map S).map V.str)) fh np
      refine q _ _ _ g (same_both fh) (.lst upd_same ?_)
      have go : ∀ {G : Hp} (zs : List (List Nat)), Reps K G ((zs.map S).map V.str) (zs.map D.tx) := fun {G} zs => by
        induction zs with
        | nil => exact .nil
        | cons z zs ih => exact .cons (.str _) ih
      exact go ws
theorem rc_all {K : PySem.W.Frag} {bs : List Bool} : RCT K (rAll K) [.lst (bs.map D.bl)] (.bl (bs.all id)) := fun F H fh vs r Q q => by
  cases r with
  | cons r1 r =>
    cases r
    cases r1 with
    | @lst p us _ hp ru =>
      have e : us = bs.map V.bl := by
        clear hp q
        induction bs generalizing us with
        | nil => cases ru; rfl
        | cons b bs ih =>
          cases ru with
          | cons r1 r2 =>
            cases r1
            rw [ih r2]
            rfl
      subst e
      exact ⟨p, bs, rfl, SqL.of (fh _ _ hp), q _ F H (Gr.refl _ _) fh (.bl _)⟩
end
end Tr
namespace Pm
open PySem PySem.Spec PyProof.Rows L2 SX Tr
theorem cut_take (xs : List D) (t : Nat) : cutTr xs none (some (t : Int)) = xs.take t := by
  unfold cutTr
  rw [HT.sIx_none, HT.sIx_nat, List.drop_zero, Nat.sub_zero]
  rcases Nat.le_total t xs.length with h | h
  · rw [Nat.min_eq_left h]
  · rw [Nat.min_eq_right h, List.take_of_length_le (Nat.le_refl _), List.take_of_length_le h]
theorem as_alw {K : PySem.W.Frag} {z : List Nat} {vs : List V} {H : Hp} {Q : VK} {E : XK} (l : z.length ≤ 1000) (h : spT K [.tx z] (.bl (diffB 46 z)) vs H Q E) : spAlw vs H Q E := by
  obtain ⟨F, fh, r, k⟩ := h
  cases r with
  | cons r1 r =>
    cases r; cases r1
    exact ⟨z, rfl, l, fun H' s => k _ F H' ⟨Same.refl _, s, fun _ _ _ n => n⟩ (fh.trans s) (.bl _)⟩
/-- a word that names a cell's signs -/
def wordOk (w : List Nat) : Prop := w = [42] ∨ okZ w
def readW (w : List Nat) : List Nat := if w = [42] then anyL else asc w
theorem wordOk.len {w : List Nat} (h : wordOk w) : w.length ≤ 27 := by
  rcases h with rfl | h
  · show 1 ≤ 27
    decide
  · exact h.2.1
theorem any_ok : okW anyL := by
  refine ⟨by decide, by decide, by decide, by decide, asc_uniq (List.Perm.refl _) (by decide)⟩
theorem readW_ok {w : List Nat} (h : wordOk w) : okW (readW w) := by
  unfold readW
  split
  · exact any_ok
  · rcases h with e | h
    · exact absurd e (by assumption)
    · exact h.asc
/-- the words of a text that is a sketch -/
structure WdsOk (T : Tab) (m n : Nat) : Prop where
  h : T.length = n
  w : ∀ r ∈ T, r.length = m
  m1 : 1 ≤ m
  m8 : m ≤ 8
  n1 : 1 ≤ n
  n8 : n ≤ 8
  ok : ∀ r ∈ T, ∀ w ∈ r, wordOk w
def readT (T : Tab) : Tab := T.map fun r => r.map readW
theorem WdsOk.tab {T : Tab} {m n : Nat} (g : WdsOk T m n) : TabOk (readT T) m n := by
  refine ⟨by unfold readT; rw [List.length_map]; exact g.h, fun r mr => ?_, g.m1, g.m8, g.n1, g.n8, fun r mr w mw => ?_⟩
  · obtain ⟨q, mq, rfl⟩ := List.mem_map.mp mr
    rw [List.length_map]
    exact g.w q mq
  · obtain ⟨q, mq, rfl⟩ := List.mem_map.mp mr
    obtain ⟨v, mv, rfl⟩ := List.mem_map.mp mw
    exact readW_ok (g.ok q mq v mv)
theorem WdsOk.row0 {T : Tab} {m n : Nat} (g : WdsOk T m n) : ∃ r, T[0]? = some r ∧ r.length = m ∧ atI (T.map fun r => D.lst (r.map D.tx)) 0 = some (.lst (r.map D.tx)) := by
  have a : 0 < T.length := by rw [g.h]; exact g.n1
  exact ⟨T[0], List.getElem?_eq_getElem a, g.w _ (List.getElem_mem a), atI_nat (j := 0) (by rw [List.getElem?_map, List.getElem?_eq_getElem a]; rfl)⟩
section
variable {P : Program} {w : World} {K : PySem.W.Frag} {mg : Str → Option Value} {base : Heap} {CS CP : Addr}
theorem star_S : ("*" : Str) = S [42] := by decide +kernel
/-! _is_bad_row, _bad_line: nothing is bad -/
def gSkBad (ds : List D) (d : D) : Prop := ∃ r : List (List Nat), ∃ m : Nat, r.length = m ∧ m ≤ 8 ∧ (∀ w ∈ r, wordOk w) ∧ ds = [.lst (r.map D.tx), .int m] ∧ d = .bl false
abbrev nSkBad : List Str := ["words", "width", "word"]
theorem scSkBad : FnScope nSkBad ["words", "width"] (defScope gIsBadRowSketches) := ⟨rfl, rfl, rfl, by decide +kernel, rfl, by decide +kernel, by decide +kernel⟩
theorem ok_skBad {f a1 : Addr} {fd b1 : FuncData} (F : Fun K "_is_bad_row" "_is_bad_row" gIsBadRowSketches f fd) (L : LTxt K mg) (T : Kls K mg CS) (TP : PTxt K mg CP) (cAl : Cl P w K mg base CX0 3 "_are_allowed_signs" ["signs"] spAlw a1 b1) : FnOk P w K mg base CX0 4 f fd ["words", "width"] (spG K gSkBad) := by
  refine F.ok scSkBad (spG_len fun ds d ⟨_, _, _, _, _, e, _⟩ => by rw [e]; rfl) (fun cdv A outer s H vs Q E hr h => ?_)
  obtain ⟨ds, d, ⟨r, m, lr, m8, ok, rfl, rfl⟩, h⟩ := h
  obtain ⟨B, tw⟩ := tree_wish (N := nSkBad) h (by show 2 ≤ 3; decide)
  obtain ⟨uM, hM, rM⟩ := TP.most
  obtain ⟨uW, hW, rW⟩ := T.aw
  have lr' : (r.map D.tx).length = m := by rw [List.length_map, lr]
  refine ⟨_, (show OkSs _ B _ [.d (.lst (r.map D.tx)), .d (.int m), .no] (.rt (.bl false)) from ?_), tw⟩
  have LEN : ∀ {X : Cx} {B : Hp × Hp} {Γ : Tr.Env} {e : Expr}, True := fun {X B Γ e} => trivial
  refine s_ifNo (o_as (o_w (w_or (o_op (fun p q => pt_cmpR op_gt p q (nomark _)) (t_cb (fun h => pe_callB call_len_seq (by rfl) L.len PySem.boot_len h) (a_cons (ok_var (pv 0) rfl) a_nil) rc_len) (ok_glob (by rfl) hM rM (fun _ _ => .int _)) (r2_i fun _ => .bl _)) (fun _ => w_or1 (o_op (fun p q => pt_cmpR op_ne p q (nomark _)) (t_cb (fun h => pe_callB call_len_seq (by rfl) L.len PySem.boot_len h) (a_cons (ok_var (pv 0) rfl) a_nil) rc_len) (ok_var (pv 1) rfl) r2_neI)))) (by rw [lr', decide_eq_false (by omega)]; simp))
    (s_one (s_ret (ok_as (v_not (t_cb (fun h => pe_callB (cr_all rfl) (by rfl) TP.all (by decide +kernel) h) (a_cons (ok_as (t_lc (vs := [2]) r D.tx (fun w => [.d (.lst (r.map D.tx)), .d (.int m), .d (.tx w)]) (fun w => .bl true) (fun h => by exact pe_lc (own := [("word", 2)]) (g := (gName 2)) (tt := tYes) rfl scSkBad.nd h (blkOk_by (own := [("word", 2)]) (N := nSkBad) (sc := defScope gIsBadRowSketches) (by decide +kernel)) (fun _ _ _ _ _ => (pg_name (i := 2) scSkBad.nd rfl (.inl rfl))) (fun _ _ _ _ _ => pts_nil) (fun _ _ _ _ _ => (pe_el fun B w m => (ok_as (v_or (p := decide (w = [42])) (q := diffB 46 w) (t_eq (ok_var (pv 2) rfl) (ok_as (ok_glob (d := .tx [42]) (by rfl) hW rW (fun _ _ => by rw [star_S]; exact .str _)) rfl) r2_eqS) (fun hb => v_one (t_call (z := .bl (diffB 46 w)) (fun h => pe_call cAl.ok hr (by rfl) cAl.gl cAl.kp cAl.bd .nil pass0 h) (a_cons (ok_var (pv 2) rfl) a_nil) (fun _ _ _ q => as_alw (by have := (ok w m).len; omega) q)))) (by
        rcases ok w m with rfl | z
        · rfl
        · rw [diff_ok z, Bool.or_true]))))) (i_list (ok_var (pv 0) rfl)) (fun _ _ _ => (b_name (i := 2) (by decide))) (by omega)) (show D.lst (r.map fun w => .bl true) = .lst ((r.map fun _ => true).map D.bl) by rw [List.map_map]; rfl)) a_nil) rc_all)) (by rw [List.all_map]; simp))))
def gSkLine (ds : List D) (d : D) : Prop := ∃ T m n, WdsOk T m n ∧ ds = [tabD T] ∧ d = .int 0
abbrev nSkLine : List Str := ["rows", "line", "words"]
theorem scSkLine : FnScope nSkLine ["rows"] (defScope gBadLineSketches) := ⟨rfl, rfl, rfl, by decide +kernel, rfl, by decide +kernel, by decide +kernel⟩
theorem ok_skLine {f a1 : Addr} {fd b1 : FuncData} (F : Fun K "_bad_line" "_bad_line" gBadLineSketches f fd) (L : LTxt K mg) (TP : PTxt K mg CP) (cB : Cl P w K mg base CX0 4 "is_bad_row_sketches" ["words", "width"] (spG K gSkBad) a1 b1) : FnOk P w K mg base CX0 5 f fd ["rows"] (spG K gSkLine) := by
  refine F.ok scSkLine (spG_len fun ds d ⟨_, _, _, _, e, _⟩ => by rw [e]; rfl) (fun cdv A outer s H vs Q E hr h => ?_)
  obtain ⟨ds, d, ⟨T, m, n, g, rfl, rfl⟩, h⟩ := h
  obtain ⟨B, tw⟩ := tree_wish (N := nSkLine) h (by show 1 ≤ 3; decide)
  obtain ⟨uM, hM, rM⟩ := TP.most
  have n8 := g.n8
  have lT : (T.map fun r => D.lst (r.map D.tx)).length = n := by rw [List.length_map, g.h]
  obtain ⟨r0, _, l0, a0⟩ := g.row0
  have l0 : (r0.map D.tx).length = m := by rw [List.length_map, l0]
  have e2 : enumD (cutTr (T.map fun r => D.lst (r.map D.tx)) none (some 8)) = T.zipIdx.map fun p => .tup [.int ((p.2 : Int) + 1), .lst (p.1.map D.tx)] := by
    have c := cut_take (T.map fun r => D.lst (r.map D.tx)) 8
    rw [show (some (8 : Int)) = some ((8 : Nat) : Int) from rfl, c, List.take_of_length_le (by omega)]
    unfold enumD
    rw [List.zipIdx_map, List.map_map]
    rfl
  refine ⟨_, (show OkSs _ B _ [.d (tabD T), .no, .no] (.rt (.int 0)) from ?_), tw⟩
  refine s_forNo (vs := [1, 2]) T.zipIdx (fun p => .tup [.int ((p.2 : Int) + 1), .lst (p.1.map D.tx)]) (fun k => _) (fun h g => ps_for PassesOwn.never rfl h (pg_tup rfl (pgs_cons (pg_name (i := 1) scSkLine.nd rfl (.inl rfl)) (pgs_cons (pg_name (i := 2) scSkLine.nd rfl (.inl rfl)) pgs_nil))) g) (i_as (i_enum1 (fun h => pi_enumS (by rfl) TP.enum h (pk_cons pe_int pk_nil)) (fun _ _ _ q => q) (a_cons (t_slL (ok_var (pv 0) rfl) so_none (so_some (ok_glob (by rfl) hM rM (fun _ _ => .int _)))) a_nil)) e2) (fun _ _ _ => b_tup (b_cons (b_name (i := 1) (by decide)) (b_cons (b_name (i := 2) (by decide)) b_nil))) (fun B p mp => ?_)
    (s_one (s_ret (ok_as (t_if (y' := .int 0) (y := .int 9) (o_op (fun p q => pt_cmpR op_gt p q (nomark _)) (t_cb (fun h => pe_callB call_len_seq (by rfl) L.len PySem.boot_len h) (a_cons (ok_var (pv 0) rfl) a_nil) rc_len) (ok_glob (by rfl) hM rM (fun _ _ => .int _)) (r2_i fun _ => .bl _)) (fun hb => ok_as (t_add (ok_glob (by rfl) hM rM (fun _ _ => .int _)) ok_int) rfl) (fun _ => ok_int)) (by rw [lT, decide_eq_false (by omega)]; rfl))))
  have mT : p.1 ∈ T := by
    obtain ⟨_, _, e⟩ := List.mem_zipIdx mp
    rw [e]
    exact List.getElem_mem _
  refine s_leO (Γ2 := [.d (tabD T), .d (.int ((p.2 : Int) + 1)), .d (.lst (p.1.map D.tx))]) ?_ (.cons (.cons (.cons .refl (.inl rfl)) (.inl rfl)) (.inr rfl))
  exact s_ifNo (o_val (t_callG (fun h => pe_call cB.ok hr (by rfl) cB.gl cB.kp cB.bd .nil pass0 h) (a_cons (ok_var (pv 2) rfl) (a_cons (ok_as (t_cb (fun h => pe_callB call_len_seq (by rfl) L.len PySem.boot_len h) (a_cons (t_ixL (ok_var (pv 0) rfl) ok_int a0 (fun _ _ => rfl)) a_nil) rc_len) (show D.int ((r0.map D.tx).length : Int) = .int (m : Int) by rw [l0])) a_nil)) ⟨p.1, m, g.w _ mT, g.m8, g.ok _ mT, rfl, rfl⟩)) s_nil
end
end Pm
/-! ### Sketch.read of a good text -/
namespace Pm
open PySem PySem.Spec PyProof.Rows L2 SX Tr
section
variable {X : Cx} {CX : CXT} {k n : Nat} {f C : Addr} {fd : FuncData} {ps ks : List Str} {sp : Sp} {E : XK} {x : Str} {p pos : Pos} {e : Expr} {es : List Expr} {kws : List Keyword} {t tk : TA} {g : List Value → List Value → List Value} {gV : List V → List V → List V}
def tMakeVN (i : Nat) (C : Addr) (n m : Nat) (sp : Sp) (gV : List V → List V → List V) (E : XK) (t tk : TA) : TE := fun σ H Q => σ[i]? = some (some (.ref C)) ∧ tMakeN C n m sp gV E t tk σ H Q
/-- c(e, .., k = v, ..), the class at C in slot i -/
theorem pe_makeVN {i : Nat} (M : Mk X.K C f) (F : FnOk X.prog X.w X.K X.mg X.base CX k f fd ps sp) (hr : Room (k + 1) X.A) (hN : X.N[i]? = some x) (hv : Vis X.env.scope x) (hb : KBn X.K fd ps (n + 1) ks g gV) (hx : Passes CX X E)
    (ha : PA X (e :: es) t) (hkw : PK X kws tk) (hall : (backToKw pos (keywordEach kws X.env)).all (·.1.isSome) = true := by rfl) (hks : (backToKw pos (keywordEach kws X.env)).filterMap (·.1) = ks := by rfl)
    (hdb : (x == ("__debug__" : Str)) = false := by decide) (hcd : (x == ("__classdict__" : Str)) = false := by decide) (he : starEach (e :: es) X.env = (false, eval e X.env) :: starEach es X.env := by rfl)
    (hpl : ((backTo pos (starEach (e :: es) X.env)).any (·.1) || (backToKw pos (keywordEach kws X.env)).any (·.1.isNone)) = false := by rfl) :
    PE X (.Call (.Name x p) (e :: es) kws pos) (tMakeVN i C n ks.length sp gV E t tk) := by
  refine ⟨fun pins s σ H Q I ⟨hs, h⟩ => ?_⟩
  refine wpAny_Call_Name_kw (thn ((pe_var (pos := p) hN hv hdb hcd).run pins s σ H (fun v H1 => v = .ref C ∧ H1 = H) I ⟨.ref C, hs, rfl, rfl⟩) fun u s0 ⟨v, H0, I0, r0, ev, eh⟩ => ?_)
  subst ev eh
  obtain rfl : u = Value.ref C := r0
  refine PySem.W.callWith_KW (h₀ := X.base) I.ok.mod.kin M.kp hall (thn (ha.run pos pins s0 σ _ _ I0 h) fun us s1 ⟨vs, H1, I1, r, q⟩ => ?_) hpl he
  refine thn (hkw.run pos pins s1 σ H1 _ I1 q) fun ws s2 ⟨zs, H2, I2, rz, l1, l2, q2⟩ => ⟨I2.kIn, ?_⟩
  rw [hks]
  exact run_makeN M F hr hb hx I2 r rz l1 l2 q2
end
/-! the words' lists -/
theorem row_of {K : PySem.W.Frag} {F : Hp} : ∀ {z : List (List Nat)} {us : List V}, Reps K F us (z.map D.tx) → us = rowsV z
  | [], _, .nil => rfl
  | _ :: z, _, .cons r1 r2 => by
    cases r1
    rw [row_of r2]
    rfl
theorem tab_of {K : PySem.W.Frag} {F : Hp} : ∀ {T : Tab} {us : List V}, Reps K F us (T.map fun r => D.lst (r.map D.tx)) → ∃ R : List Addr, us = R.map V.ref ∧ R.length = T.length ∧ ∀ (j : Nat) (r : Addr) (z : List (List Nat)), R[j]? = some r → T[j]? = some z → F r = some (.lst (rowsV z))
  | [], _, .nil => ⟨[], rfl, rfl, fun j r z e => nomatch e⟩
  | z :: T, _, .cons r1 r2 => by
    obtain ⟨R, e1, e2, e3⟩ := tab_of r2
    cases r1 with
    | @lst a vs _ h rr =>
      refine ⟨a :: R, by rw [e1]; rfl, by rw [List.length_cons, List.length_cons, e2], fun j r y h1 h2 => ?_⟩
      cases j with
      | zero =>
        cases h1
        cases h2
        rw [← row_of rr]
        exact h
      | succ j => exact e3 j r y (by simpa using h1) (by simpa using h2)
theorem rep_tab {K : PySem.W.Frag} {F : Hp} {v : V} {T : Tab} (h : Rep K F v (tabD T)) : ∃ a R, v = .ref a ∧ TabAt F a R T := by
  cases h with
  | @lst a vs _ h rr =>
    obtain ⟨R, e1, e2, e3⟩ := tab_of rr
    exact ⟨a, R, rfl, by rw [← e1]; exact h, e2, e3⟩
section
variable {P : Program} {w : World} {K : PySem.W.Frag} {mg : Str → Option Value} {base : Heap} {CS CP : Addr}
/-! _read_word -/
def spRdW : Sp := fun vs H Q _ => ∃ z, vs = [.str (S z)] ∧ wordOk z ∧ ∀ H', Same H H' → Q (.str (S (readW z))) H'
theorem scRdW : FnScope ["word"] ["word"] (defScope gReadWord) := ⟨rfl, rfl, rfl, by decide +kernel, rfl, by decide +kernel, by decide +kernel⟩
theorem ok_rdW {f a1 : Addr} {fd b1 : FuncData} {mc uA : Value} (F : Fun K "_read_word" "_read_word" gReadWord f fd) (T : Kls K mg CS) (crd : ClX.CRead K CS mc) (cA : ClX.CVal K CS mc "ANY" (.str ".abcdefghijklmnopqrstuvwxyz") uA) (cAs : Cl P w K mg base CX0 1 "in_ascii_order" ["signs"] spAsc a1 b1) : FnOk P w K mg base CX0 2 f fd ["word"] spRdW := by
  refine F.ok scRdW (fun vs H Q E h => ?_) (fun cdv A outer s H vs Q E hr h => ?_)
  · obtain ⟨z, rfl, _⟩ := h
    rfl
  · obtain ⟨z, rfl, ok, k⟩ := h
    obtain ⟨uW, hW, rW⟩ := T.aw
    refine ⟨_, pss_one (ps_ret (pe_ifExp (pt_cmpR op_eq (pv 0) (pe_glob (by rfl) hW rW) (nomark _)) (ClX.pe_cval (pe_glob (v := .ref CS) (by rfl) T.gS rfl)) (pe_call cAs.ok hr (by rfl) cAs.gl cAs.kp cAs.bd .nil pass0 (pa_cons (pv 0) pa_nil)))), ?_⟩
    have lz := ok.len
    refine ⟨_, rfl, rfl, _, rfl, ?_⟩
    by_cases e : z = [42]
    · subst e
      refine iteTe (decide_eq_true (by rw [star_S])) ⟨CS, mc, _, uA, rfl, crd, cA, ?_⟩
      have := k H (Same.refl _)
      rw [show readW [42] = anyL from rfl, S_any] at this
      exact this
    · refine iteFe (decide_eq_false fun y => e (by rw [star_S] at y; exact S_inj (V.str.inj y))) ⟨_, rfl, z, rfl, by omega, fun H1 s1 => ?_⟩
      have := k H1 s1
      unfold readW at this
      rw [if_neg e] at this
      exact this
end
end Pm
/-! ### Sketch.read of a good text -/
namespace Pm
open PySem PySem.Spec PyProof.Rows L2 SX Tr
/-- a row of words read: a new list -/
def tReadRow (i : Nat) : TE := fun σ H Q => ∃ r z, σ[i]? = some (some (.ref r)) ∧ H r = some (.lst (rowsV z)) ∧ z.length ≤ 8 ∧ (∀ w ∈ z, wordOk w) ∧ σ.length = 7 ∧ ∀ H' p, Same H H' → H p = none → H' p = some (.lst (rowsV (z.map readW))) → Q (.ref p) H'
theorem seven {σ : L2.St} (h : σ.length = 7) : ∃ y0 y1 y2 y3 y4 y5 y6, σ = [y0, y1, y2, y3, y4, y5, y6] := by
  match σ, h with
  | [y0, y1, y2, y3, y4, y5, y6], _ => exact ⟨y0, y1, y2, y3, y4, y5, y6, rfl⟩
theorem tab_split {W : Tab} {m n : Nat} (g : WdsOk W m n) : TL.spl [10] 0 [] (tabT W) = W.map (TL.joinL [32]) ∧ ∀ r ∈ W, TL.spl [32] 0 [] (TL.joinL [32] r) = r := by
  have no : ∀ r ∈ W, ∀ w ∈ r, 10 ∉ w ∧ 32 ∉ w := fun r mr w mw => by
    rcases g.ok r mr w mw with rfl | z
    · exact ⟨by decide, by decide⟩
    · refine ⟨fun y => ?_, fun y => ?_⟩ <;> (rcases z.2.2.1 _ y with e | e <;> omega)
  have ne : W ≠ [] := fun e => by
    have := g.h
    have := g.n1
    rw [e] at *
    simp at *
    omega
  refine ⟨spl_join (by simpa using ne) fun p mp => ?_, fun r mr => spl_join (fun e => ?_) fun p mp => (no r mr p mp).2⟩
  · obtain ⟨r, mr, rfl⟩ := List.mem_map.mp mp
    have go : ∀ (ws : List (List Nat)), (∀ w ∈ ws, 10 ∉ w) → 10 ∉ TL.joinL [32] ws := by
      intro ws
      induction ws with
      | nil => intro _ y; exact nomatch y
      | cons w ws ih =>
        intro h
        cases ws with
        | nil => exact h w List.mem_cons_self
        | cons v ws =>
          intro y
          rcases List.mem_append.mp (show 10 ∈ w ++ ([32] ++ TL.joinL [32] (v :: ws)) from y) with y | y
          · exact h w List.mem_cons_self y
          · rcases List.mem_append.mp y with y | y
            · simp at y
            · exact ih (fun u mu => h u (List.mem_cons_of_mem _ mu)) y
    exact go r fun w mw => (no r mr w mw).1
  · have := g.w r mr
    have := g.m1
    rw [e] at *
    simp at *
    omega
theorem wds_len {W : Tab} {m n : Nat} (g : WdsOk W m n) : (tabT W).length ≤ 1800 ∧ ∀ r ∈ W, (TL.joinL [32] r).length ≤ 224 := by
  have row : ∀ r ∈ W, (TL.joinL [32] r).length ≤ 224 := fun r mr => by
    have e := join_len (c := 32) (m := 27) r fun w mw => (g.ok r mr w mw).len
    rw [g.w r mr] at e
    have := g.m8
    omega
  refine ⟨?_, row⟩
  unfold tabT
  have e := join_len (c := 10) (m := 224) (W.map fun r => TL.joinL [32] r) fun w mw => by
    obtain ⟨r, mr, rfl⟩ := List.mem_map.mp mw
    exact row r mr
  rw [List.length_map, g.h] at e
  have := g.n8
  omega
section
variable {P : Program} {w : World} {K : PySem.W.Frag} {mg : Str → Option Value} {base : Heap} {CS CP : Addr}
def spRead (CS : Addr) : Sp := fun vs H Q _ => ∃ W m n, vs = [.ref CS, .str (S (tabT W))] ∧ WdsOk W m n ∧ ∀ H' y a R, Same H H' → SkAt CS H' y a R (readT W) m n → NewSk H y a R → Q (.ref y) H'
abbrev nRead : List Str := ["cls", "text", "words", "line", "rows", "row", "word"]
theorem scRead : FnScope nRead ["cls", "text"] (defScope cSketchRead) := ⟨rfl, rfl, rfl, by decide +kernel, rfl, by decide +kernel, by decide +kernel⟩
theorem ok_read {f fI a1 a2 : Addr} {fd dI b1 b2 : FuncData} {ds : List Value} (F : Fun K "read" "Sketch.read" cSketchRead f fd) (L : LTxt K mg) (T : Kls K mg CS) (M : MkS P w K mg base CS fI dI ds)
    (cL : Cl P w K mg base CX0 5 "bad_line_sketches" ["rows"] (spG K gSkLine) a1 b1) (cR : Cl P w K mg base CX0 2 "_read_word" ["word"] spRdW a2 b2) : FnOk P w K mg base CX0 6 f fd ["cls", "text"] (spRead CS) := by
  refine F.ok scRead (fun vs H Q E h => ?_) (fun cdv A outer s H vs Q E hr h => ?_)
  · obtain ⟨W, m, n, rfl, _⟩ := h
    rfl
  obtain ⟨W, m, n, rfl, g, k⟩ := h
  have hr2 : Room 2 _ := hr.mono (by decide)
  obtain ⟨lt, lrow⟩ := wds_len g
  obtain ⟨sp1, sp2⟩ := tab_split g
  have s1 : Txt.split (S (tabT W)) (S [10]) = (W.map (TL.joinL [32])).map S := by rw [split_S (by decide) (by decide), sp1]
  have s2 : ∀ r ∈ W, Txt.split (S (TL.joinL [32] r)) (S [32]) = r.map S := fun r mr => by rw [split_S (by decide) (by decide), sp2 r mr]
  have few : W.length ≤ 90000 := by rw [g.h]; have := g.n8; omega
  have e1 : D.lst ((W.map (TL.joinL [32])).map D.tx) = .lst (W.map fun r => .tx (TL.joinL [32] r)) := by rw [List.map_map]; rfl
  refine ⟨_, (s_consTo (B := (H, H)) (Γ := [.d (.val (.ref CS)), .d (.tx (tabT W)), .no, .no, .no, .no, .no]) (Γ1 := [.d (.val (.ref CS)), .d (.tx (tabT W)), .d (tabD W), .no, .no, .no, .no])
      (s_setLc (i := 2) (vs := [5]) W (fun r => .tx (TL.joinL [32] r)) (fun k => _) (fun r => .lst (r.map D.tx)) (fun h => by exact ps_setLc (i := 2) (own := [("row", 5)]) (g := (gName 5)) (tt := tYes) rfl scRead.nd rfl rfl (sw_true rfl rfl rfl (by decide +kernel)) h (blkOk_by (own := [("row", 5)]) (N := nRead) (sc := defScope cSketchRead) (by decide +kernel)) (fun _ _ _ _ _ => (pg_name (i := 5) scRead.nd rfl (.inl rfl))) (fun _ _ _ _ _ => pts_nil) (fun _ _ _ _ _ => (pe_el fun B r m => (t_bm (fun h g => pe_bm PySem.F.plainAttrs_str PySem.F.slot_str_split PySem.F.type_str_split mt_split h g) (ok_var (pv 5) rfl) (a_cons (ok_tx (z := [32]) (by decide +kernel)) a_nil) ty_str (rm_split (s2 r m) (by decide) (by have := lrow r m; omega)))))) (i_list (ok_as (t_bm (fun h g => pe_bm PySem.F.plainAttrs_str PySem.F.slot_str_split PySem.F.type_str_split mt_split h g) (ok_var (pv 1) rfl) (a_cons (ok_tx (z := [10]) (by decide +kernel)) a_nil) ty_str (rm_split s1 (by decide) (by omega))) e1)) (fun _ _ _ => (b_name (i := 5) (by decide))) few)
    (s_consTo (B := (H, H)) (Γ := [.d (.val (.ref CS)), .d (.tx (tabT W)), .d (tabD W), .no, .no, .no, .no]) (Γ1 := [.d (.val (.ref CS)), .d (.tx (tabT W)), .d (tabD W), .d (.int 0), .no, .no, .no]) (s_set (i := 3) (fun h => ps_set (i := 3) scRead.nd rfl (.inl rfl) h) (t_callG (fun h => pe_call cL.ok hr (by rfl) cL.gl cL.kp cL.bd .nil pass0 h) (a_cons (ok_var (pv 2) rfl) a_nil) ⟨W, m, n, g, rfl, rfl⟩))
    (pss_cons (ps_if (pt_cmpR op_gt (pv 3) pe_int (nomark _)) (PSs.when (p := False) (t := fun _ _ _ => True) fun z => z.elim) pss_nil)
    (pss_cons (ps_setLc (i := 4) (own := [("row", 5)]) (g := (gName 5)) (tt := tYes) (te := tReadRow 5) rfl scRead.nd rfl rfl (sw_true rfl rfl rfl (by decide +kernel)) (pi_list (pv 2)) (blkOk_by (own := [("row", 5)]) (N := nRead) (sc := defScope cSketchRead) (by decide +kernel)) (fun _ _ _ _ _ => (pg_name (i := 5) scRead.nd rfl (.inl rfl))) (fun _ _ _ _ _ => pts_nil) (fun _ _ _ _ _ => ?_))
    (pss_one (ps_ret (pe_makeVN (i := 0) (n := 2) M.mkk M.OI hr2 rfl (.inl rfl) M.kb pass0 (pa_cons (pe_callB call_len_seq (by rfl) L.len PySem.boot_len (pa_cons (pe_ix ix_list (pv 4) pe_int (fun _ _ => rfl)) pa_nil)) (pa_cons (pe_callB call_len_seq (by rfl) L.len PySem.boot_len (pa_cons (pv 4) pa_nil)) pa_nil)) (pk_cons (pv 4) pk_nil)))))))), ?_⟩
  · refine PE.weak (pe_lc (own := [("word", 6)]) (g := (gName 6)) (tt := tYes) rfl scRead.nd (pi_list (pv 5)) (blkOk_by (own := [("word", 6)]) (N := nRead) (sc := cutScope [(".0", .local), ("row", .local)]) (by decide +kernel)) (fun _ _ _ _ _ => (pg_name (i := 6) scRead.nd rfl (.inl rfl))) (fun _ _ _ _ _ => pts_nil) (fun _ _ _ _ _ => pe_call cR.ok hr2 (by rfl) cR.gl cR.kp cR.bd .nil pass0 (pa_cons (pv 6) pa_nil))) (fun σ H Q ⟨r, z, e, hz, l8, ok, l7, q⟩ => ?_)
    obtain ⟨y0, y1, y2, y3, y4, y5, y6, rfl⟩ := seven l7
    refine ⟨_, e, r, rfl, ⟨_, SqL.of hz⟩, fun D nD => ?_⟩
    refine lc_list (xs := rowsV z) (fun i G => Same H G ∧ G D = some (.lst (rowsV ((z.take i).map readW)))) ⟨sup nD, upd_same⟩ (fun i G hi pv => SqL.of (pv.1 _ _ hz)) (fun i y G hy pv => ?_) (fun G pv => ?_)
    · have li : i < z.length := by
        have := (List.getElem?_eq_some_iff.mp hy).1
        rwa [rowsV_len] at this
      have ey : y = .str (S z[i]) := by
        unfold rowsV at hy
        rw [List.getElem?_map, List.getElem?_eq_getElem li] at hy
        exact (Option.some.inj hy).symm
      subst ey
      refine ⟨rfl, tyes (iteT ⟨_, rfl, z[i], rfl, ok _ (List.getElem_mem li), fun H' s' => ⟨_, s' _ _ pv.2, ?_, fun b o eb => ?_, ?_⟩⟩)⟩
      · rw [rowsV_len, List.length_map, List.length_take]
        exact Nat.lt_of_le_of_lt (Nat.min_le_left _ _) (Nat.lt_of_lt_of_le (Nat.lt_of_lt_of_le li l8) (by decide))
      · rw [upd_ne (ne_of_none eb nD)]
        exact s' _ _ (pv.1 _ _ eb)
      · rw [upd_same, List.take_succ_eq_append_getElem li, List.map_append]
        unfold rowsV
        rw [List.map_append]
        rfl
    · refine q _ D pv.1 nD ?_
      rw [pv.2, rowsV_len, List.take_length]
  · refine ⟨H, wd_start (Same.refl H) (.cons (.val _) (.cons (.str _) .nil)) (by show 2 ≤ 7; decide), fun σ2 F2 H2 w2 => ⟨F2, w2, fun σ3 F3 H3 w3 => ?_⟩⟩
    obtain ⟨v0, z0, r0⟩ := w3.slot (i := 0) rfl
    obtain ⟨v2, z2, r2⟩ := w3.slot (i := 2) rfl
    obtain ⟨v3, z3, r3⟩ := w3.slot (i := 3) rfl
    obtain ⟨a, R, rfl, tF⟩ := rep_tab r2
    have tT := tF.up w3.fh
    obtain ⟨y0, y1, y2, y3, y4, y5, y6, rfl⟩ := seven w3.len
    cases z0
    cases z2
    cases z3
    cases r0
    cases r3
    refine ⟨_, rfl, _, _, rfl, rfl, _, rfl, iteFe (decide_eq_false (by decide)) ?_⟩
    refine ⟨_, rfl, a, rfl, ⟨_, SqL.of tT.1⟩, fun D nD => ?_⟩
    have lW : (readT W).length = W.length := by unfold readT; rw [List.length_map]
    refine lc_list (xs := R.map V.ref) (PvT H3 D (readT W)) (pvT0 nD) (fun i G hi pv => SqL.of (pv.choose_spec.2.1 _ _ tT.1)) (fun i y G hy pv => ?_) (fun G pv => ?_)
    · rw [List.getElem?_map] at hy
      cases er : R[i]? with
      | none => rw [er] at hy; cases hy
      | some r =>
        rw [er] at hy
        cases hy
        have li : i < W.length := by rw [← tT.2.1]; exact (List.getElem?_eq_some_iff.mp er).1
        have hz : W[i]? = some W[i] := List.getElem?_eq_getElem li
        have mz : W[i] ∈ W := List.getElem_mem li
        have h8 := g.n8
        refine ⟨rfl, tyes (iteT ⟨r, W[i], rfl, pv.choose_spec.2.1 _ _ (tT.2.2 i r _ er hz), by rw [g.w _ mz]; exact g.m8, g.ok _ mz, rfl, fun G' p sG np hp => ?_⟩)⟩
        exact pvTS pv (by rw [g.h] at li; omega) (by unfold readT; rw [List.getElem?_map, hz]; rfl) sG np hp
    · rw [List.length_map, tT.2.1, ← lW] at pv
      obtain ⟨R', tT2, nw, s0⟩ := pvTD pv
      have l0 : 0 < W.length := by rw [g.h]; exact g.n1
      have l0' : 0 < R'.length := by rw [tT2.2.1, lW]; exact l0
      have hz0 : (readT W)[0]? = some (W[0].map readW) := by unfold readT; rw [List.getElem?_map, List.getElem?_eq_getElem l0]; rfl
      have hr0 := tT2.2.2 0 R'[0] _ (List.getElem?_eq_getElem l0') hz0
      have lm : (rowsV (W[0].map readW)).length = m := by rw [rowsV_len, List.length_map, g.w _ (List.getElem_mem l0)]
      have ln : (R'.map V.ref).length = n := by rw [List.length_map, tT2.2.1, lW, g.h]
      refine ⟨rfl, ⟨_, rfl, D, _, 0, _, rfl, rfl, SqL.of tT2.1, atI_nat (j := 0) (by rw [List.getElem?_map, List.getElem?_eq_getElem l0']; rfl), R'[0], _, rfl, .inl (SqL.of hr0), ?_⟩⟩
      refine ⟨_, rfl, D, _, rfl, .inl (SqL.of tT2.1), ?_⟩
      refine ⟨_, rfl, rfl, rfl, fun y dy ny ndy ne => ⟨y, dy, m, n, _, by rw [lm, ln]; rfl, upd_same, g.m1, g.m8, g.n1, g.n8, .inr ⟨D, rfl, fun H' s' hx' => ⟨rfl, ?_⟩⟩⟩⟩
      obtain ⟨q1, q2, q3⟩ := made_new s0 tT2 nw ny ndy ne s' hx'
      have sH : Same H H3 := w3.hh
      exact k _ y D R' (sH.trans q1) q2 ⟨q3.1, fun b mb => sH.free (q3.2 b mb)⟩
end
end Pm
/-! ### the law's draws of signs -/
namespace Pm
open PySem PySem.Spec PyProof.Rows L2 SX Tr
theorem hu65 {A : Around} {k : Nat} (hr : Room k A) : A.units + 65 < cLine := by
  have := hr.un
  omega
def onesV (z : List Nat) : List V := (ones z).map V.str
theorem onesV_rows (z : List Nat) : onesV z = rowsV (z.map fun c => [c]) := by
  unfold onesV ones rowsV
  rw [List.map_map, List.map_map]
  rfl
theorem onesV_len (z : List Nat) : (onesV z).length = z.length := by
  unfold onesV ones
  rw [List.length_map, List.length_map]
theorem onesV_app (y z : List Nat) : onesV (y ++ z) = onesV y ++ onesV z := by
  unfold onesV ones
  rw [List.map_append, List.map_append]
theorem any_one (L : List Nat) (c : Nat) : (((L.map fun c => [c]).map dR).any fun z => PyData.eqv z (dR [c])) = decide (c ∈ L) := by
  rw [List.map_map, List.any_map]
  by_cases z : c ∈ L
  · rw [decide_eq_true z, List.any_eq_true]
    exact ⟨c, z, by show PyData.eqv (dR [c]) (dR [c]) = true; rw [dR_eqv]; exact decide_eq_true rfl⟩
  · rw [decide_eq_false z, List.any_eq_false]
    intro d hd
    show ¬ PyData.eqv (dR [d]) (dR [c]) = true
    rw [dR_eqv]
    intro e
    have := of_decide_eq_true e
    cases this
    exact z hd
section
variable {P : Program} {w : World} {K : PySem.W.Frag} {mg : Str → Option Value} {base : Heap}
/-! each sign once -/
def spOnceS : Sp := fun vs H Q _ => ∃ a z, vs = [.ref a] ∧ H a = some (.lst (onesV z)) ∧ z.length ≤ 50 ∧ (∀ c ∈ z, c < 256 ∧ c ≠ 10) ∧
  ∀ p ys H', Same H H' → H p = none → H' p = some (.lst (onesV ys)) → ys.Nodup → (∀ c, c ∈ ys ↔ c ∈ z) → ys.length ≤ z.length → Q (.ref p) H'
abbrev nOnce : List Str := ["_law_cells_here", "_law_found", "_law_cell"]
theorem scOnce : FnScope nOnce ["_law_cells_here"] (defScope lOnce) := ⟨rfl, rfl, rfl, by decide +kernel, rfl, by decide +kernel, by decide +kernel⟩
theorem ok_once {f : Addr} {fd : FuncData} (F : Fun K "_law_once" "_law_once" lOnce f fd) : FnOk P w K mg base CX0 1 f fd ["_law_cells_here"] spOnceS := by
  refine F.ok scOnce (fun vs H Q E h => ?_) (fun cdv A outer s H vs Q E hr h => ?_)
  · obtain ⟨a, z, rfl, _⟩ := h
    rfl
  · obtain ⟨a, z, rfl, ha, few, low, k⟩ := h
    refine ⟨_, pss_cons (ps_set (i := 1) scOnce.nd rfl (.inl rfl) (pe_lst pa_nil))
      (pss_cons (ps_for PassesOwn.never rfl (pi_list (pv 0)) (pg_name (i := 2) scOnce.nd rfl (.inl rfl))
        (pss_one (ps_if (pt_cmpR (op_notInD (hu65 hr)) (pv 2) (pv 1) (by rfl)) (pss_one (ps_expr (pe_bm PySem.F.plainAttrs_list PySem.F.slot_list_append PySem.F.type_list_append mt_append (pv 1) (pa_cons (pv 2) pa_nil)))) pss_nil)))
      (pss_one (ps_ret (pv 1)))), ?_⟩
    refine ⟨Nat.zero_le _, fun o no => ?_⟩
    refine ⟨_, rfl, a, rfl, ⟨_, SqL.of (same_upd no _ _ ha)⟩, for_list (K := K) (a := a) (xs := onesV z) (fun i σ G => ∃ y ys, σ = [some (.ref a), some (.ref o), y] ∧ Same H G ∧ G o = some (.lst (onesV ys)) ∧ ys.Nodup ∧ (∀ c, c ∈ ys ↔ c ∈ z.take i) ∧ ys.length ≤ i ∧ ys.length ≤ z.length)
      ⟨_, [], rfl, same_upd no, upd_same, List.nodup_nil, (fun c => ⟨fun z => (nomatch z), fun z => (nomatch z)⟩), Nat.zero_le _, Nat.zero_le _⟩ (fun i σ G _ ⟨_, _, _, sm, _⟩ => SqL.of (sm _ _ ha)) ?_ ?_⟩
    · rintro i x σ G hx ⟨y, ys, rfl, sm, ho, nd, hk, hl, hl2⟩
      have li : i < z.length := by
        have := (List.getElem?_eq_some_iff.mp hx).1
        rwa [onesV_len] at this
      have ex : x = .str (S [z[i]]) := by
        unfold onesV ones at hx
        rw [List.getElem?_map, List.getElem?_map, List.getElem?_eq_getElem li] at hx
        exact (Option.some.inj hx).symm
      subst ex
      have lowy : Low (ys.map fun c => [c]) := fun r m c mc => by
        obtain ⟨d, md, rfl⟩ := List.mem_map.mp m
        rw [List.mem_singleton.mp mc]
        exact low d (List.mem_of_mem_take ((hk d).mp md))
      have lowx : Low [[z[i]]] := fun r m c mc => by
        rw [List.mem_singleton.mp m] at mc
        rw [List.mem_singleton.mp mc]
        exact low _ (List.getElem_mem li)
      have take1 : z.take (i + 1) = z.take i ++ [z[i]] := List.take_succ_eq_append_getElem li
      have shx : SeqAt.shaped (dR [z[i]]) = true := by
        have y := dRs_lay lowx
        simp [PyData.canLayAll0] at y
        simp [SeqAt.shaped, PyData.depth, dR] at y ⊢
        exact y
      refine ⟨_, rfl, _, rfl, dR [z[i]], (ys.map fun c => [c]).map dR, .str _, dp_list (by rw [← onesV_rows]; exact ho), shx, dRs_shaped lowy, ?_⟩
      rw [any_one]
      refine ⟨_, rfl, ite2 (fun e => ?_) (fun e => ?_)⟩
      · have nin : z[i] ∉ ys := fun m => by
          rw [decide_eq_true m] at e
          cases e
        refine ⟨_, rfl, .inl ⟨rfl, _, SqL.of ho⟩, _, rfl, o, _, _, rfl, rfl, ho, ?_, ?_⟩
        · rw [onesV_len]
          exact small1000 (by omega)
        · refine ⟨_, ys ++ [z[i]], rfl, fun b u eb => ?_, ?_, ?_, fun d => ?_, ?_, ?_⟩
          · rw [upd_ne (ne_of_none eb no)]
            exact sm _ _ eb
          · rw [upd_same, onesV_app]
            rfl
          · rw [List.nodup_append]
            exact ⟨nd, by simp, fun a ma b mb q => by rw [List.mem_singleton.mp mb] at q; exact nin (q ▸ ma)⟩
          · rw [take1, List.mem_append, List.mem_append, hk d]
          · rw [List.length_append]
            show ys.length + 1 ≤ i + 1
            omega
          · rw [List.length_append]
            show ys.length + 1 ≤ z.length
            omega
      · have m : z[i] ∈ ys := by
          by_cases m : z[i] ∈ ys
          · exact m
          · rw [decide_eq_false m] at e
            exact absurd rfl e
        refine ⟨_, ys, rfl, sm, ho, nd, fun d => ?_, by omega, hl2⟩
        rw [take1, List.mem_append, hk d, List.mem_singleton]
        refine ⟨.inl, fun h => h.elim id fun q => ?_⟩
        rw [q]
        exact (hk _).mp m
    · rintro σ G ⟨y, ys, rfl, sm, ho, nd, hk, hl, hl2⟩
      refine ⟨_, rfl, k o ys G sm no ho nd (fun c => ?_) hl2⟩
      rw [hk c, onesV_len, List.take_length]
end
end Pm
/-! ### _law_allowed -/
namespace Pm
open PySem PySem.Spec PyProof.Rows L2 SX Tr
theorem draw4 {z : List Nat} (h : Pal z) {n : Int} (n0 : 0 ≤ n) (n1 : n < 4) : ∃ c, atI (S ([46] ++ z)).cps.toList n = some c ∧ (c = 46 ∨ (97 ≤ c ∧ c ≤ 122)) := by
  obtain ⟨a, b, e, rfl, ha, hb, he⟩ := h
  rw [cpsS]
  have : n = 0 ∨ n = 1 ∨ n = 2 ∨ n = 3 := by omega
  rcases this with rfl | rfl | rfl | rfl
  · exact ⟨46, rfl, .inl rfl⟩
  · exact ⟨a, rfl, .inr ha⟩
  · exact ⟨b, rfl, .inr hb⟩
  · exact ⟨e, rfl, .inr he⟩
theorem bag_same {H H' : Hp} {b l : Addr} (h : BagL H b l) (s : Same H H') : BagL H' b l := by
  obtain ⟨ns, i, q, r, e1, e2, e3⟩ := h
  exact ⟨ns, i, q, r, s _ _ e1, s _ _ e2, e3⟩
theorem bag_ones {H : Hp} {b l : Addr} {a : Addr} {z : List Nat} (hb : BagL H b l) (h : H a = some (.lst (onesV z))) : a ≠ b := fun e => by
  obtain ⟨ns, i, p, q, hbb, _⟩ := hb
  rw [e, hbb] at h
  have e2 := HO.lst.inj (Option.some.inj h)
  cases z with
  | nil => cases e2
  | cons k1 ks => cases e2
section
variable {P : Program} {w : World} {K : PySem.W.Frag} {mg : Str → Option Value} {base : Heap}
def spAlwd : Sp := fun vs H Q _ => ∃ b l z c, vs = [.ref b, .str (S z), .str (S [c])] ∧ BagL H b l ∧ Pal z ∧ (c = 46 ∨ (97 ≤ c ∧ c ≤ 122)) ∧ ∀ y H', okW y → SameBut b H H' → BagL H' b l → Q (.str (S y)) H'
abbrev nAlwd : List Str := ["_law_bag_here", "_law_palette_here", "_law_sign", "_law_pick", "_law_more", "_law_k"]
theorem scAlwd : FnScope nAlwd ["_law_bag_here", "_law_palette_here", "_law_sign"] (defScope lAllowed) := ⟨rfl, rfl, rfl, by decide +kernel, rfl, by decide +kernel, by decide +kernel⟩
theorem ok_alwd {f a1 a2 a3 : Addr} {fd b1 b2 b3 : FuncData} (F : Fun K "_law_allowed" "_law_allowed" lAllowed f fd) (L : LTxt K mg) (R : STxt K mg) (cT : Cl P w K mg base CX0 1 "_law_take" tkNames spTake a1 b1) (cA : Cl P w K mg base CX0 1 "_law_any" [] spAny a2 b2) (cO : Cl P w K mg base CX0 1 "_law_once" ["_law_cells_here"] spOnceS a3 b3) :
    FnOk P w K mg base CX0 2 f fd ["_law_bag_here", "_law_palette_here", "_law_sign"] spAlwd := by
  refine F.ok scAlwd (fun vs H Q E h => ?_) (fun cdv A outer s H vs Q E hr h => ?_)
  · obtain ⟨b, l, z, c, rfl, _⟩ := h
    rfl
  · obtain ⟨b, l, z, c, rfl, hb, hz, hc, k⟩ := h
    refine ⟨_, pss_cons (ps_set (i := 3) scAlwd.nd rfl (.inl rfl) (pe_call cT.ok hr (by rfl) cT.gl cT.kp cT.bd .nil pass0 (pa_cons (pv 0) (pa_cons pe_int pa_nil))))
      (pss_cons (ps_if (pt_cmpR op_eq (pv 3) pe_int (nomark _)) (pss_one (ps_ret (pe_call0 cA.ok hr (by rfl) cA.gl cA.kp cA.bd .nil pass0))) pss_nil)
      (pss_cons (ps_setLc (i := 4) (own := [("_law_k", 5)]) (g := gName 5) (tt := tYes) rfl scAlwd.nd rfl rfl (sw_true rfl rfl rfl (by decide +kernel)) (pi_range1 (by rfl) L.rng (pa_cons (pe_op op_add (pe_op op_mod (pe_callTy call_int1 (by rfl) L.int (by decide +kernel) (pa_cons (pv 3) pa_nil)) pe_int) (pe_callTy call_int1 (by rfl) L.int (by decide +kernel) (pa_cons (pe_cmpR op_lt (pv 3) pe_int (nomark _)) pa_nil))) pa_nil)) (blkOk_by (own := [("_law_k", 5)]) (N := nAlwd) (sc := defScope lAllowed) (by decide +kernel)) (fun _ _ _ _ _ => pg_name (i := 5) scAlwd.nd rfl (.inl rfl)) (fun _ _ _ _ _ => pts_nil) (fun _ _ _ _ _ => pe_ix ix_str (pe_op op_add_str pe_str (pv 1)) (pe_call cT.ok hr (by rfl) cT.gl cT.kp cT.bd .nil pass0 (pa_cons (pv 0) (pa_cons pe_int pa_nil))) (fun _ _ => rfl)))
      (pss_cons (ps_if (pt_cmpR op_gt (pv 3) pe_int (nomark _)) (pss_one (ps_expr (pe_bm PySem.F.plainAttrs_list PySem.F.slot_list_append PySem.F.type_list_append mt_append (pv 4) (pa_cons (pv 2) pa_nil)))) pss_nil)
      (pss_one (ps_ret (pe_join pe_str (pe_callB cr_sortedS (by rfl) R.srt (by decide +kernel) (pa_cons (pe_call cO.ok hr (by rfl) cO.gl cO.kp cO.bd .nil pass0 (pa_cons (pv 4) pa_nil)) pa_nil)))))))), ?_⟩
    have lz := hz.len
    refine ⟨_, rfl, b, l, 8, rfl, hb, by decide, by decide, fun n H1 n0 n1 u1 b1 => ?_⟩
    refine ⟨_, rfl, rfl, _, rfl, ite2 (fun e => ?_) (fun e => ?_)⟩
    · refine ⟨rfl, ?_⟩
      exact k anyL H1 any_ok (but_same u1) b1
    · have nn : n ≠ 0 := fun y => e (by rw [y]; exact decide_eq_true rfl)
      have cnt : ∃ q : Nat, n % 3 + (if decide (n < 3) = true then 1 else 0) = (q : Int) ∧ q ≤ 3 ∧ (n ≤ 2 → 1 ≤ q) := by
        refine ⟨(n % 3 + (if decide (n < 3) = true then 1 else 0)).toNat, ?_, ?_, ?_⟩ <;> (by_cases y : n < 3 <;> simp only [y, decide_true, decide_false, if_true, Bool.false_eq_true, if_false] <;> omega)
      obtain ⟨q, eq, q3, q1⟩ := cnt
      refine ⟨_, rfl, .inl ⟨n, rfl, _, _, rfl, rfl, (show (0 : Int) < 3 by decide), _, rfl, _, _, rfl, rfl, .inr ⟨_, rfl, _, _, rfl, rfl, (q : Int), ?_, by omega, by omega, fun D nD => ?_⟩⟩⟩
      · rw [← eq]
      have s1 := but_same u1
      have nDb : D ≠ b := fun e => by
        obtain ⟨xs, e2⟩ := bag_b b1
        rw [e, e2] at nD
        cases nD
      have nDl : D ≠ l := fun e => by
        obtain ⟨xs, e2⟩ := bag_l b1
        rw [e, e2] at nD
        cases nD
      have nD0 : H D = none := by
        obtain ⟨xs, e2⟩ := bag_b hb
        exact but_back e2 s1 nDb nD
      refine lc_range (lo := 0) (n := (q : Int).toNat) (fun i G => ∃ zs : List Nat, zs.length = i ∧ (∀ c ∈ zs, c = 46 ∨ (97 ≤ c ∧ c ≤ 122)) ∧ SameBut b H G ∧ BagL G b l ∧ G D = some (.lst (onesV zs))) ⟨[], rfl, (fun r hr => nomatch hr), fun a o ha e => ?_, bag_upd b1 nD, upd_same⟩ (fun i G hi pv => ?_) (fun G pv => ?_)
      · rw [upd_ne (ne_of_none (s1 a o ha e) nD)]
        exact s1 a o ha e
      · obtain ⟨zs, lzs, gz, sG, bG, hD⟩ := pv
        have hi : i < q := hi
        have e1 : ("." : Str) ++ S z = S ([46] ++ z) := by rw [dot_S, S_cat]
        refine ⟨rfl, tyes (iteT ⟨_, rfl, _, _, rfl, rfl, by rw [dot_S, len_S, len_S, lz]; decide, _, rfl, b, l, 4, rfl, bG, by decide, by decide, fun n2 G1 m0 m1 u2 b2 => ?_⟩)⟩
        obtain ⟨c2, ec, gc⟩ := draw4 hz m0 m1
        refine ⟨_, n2, c2, rfl, rfl, by rw [e1, len_S]; simp [lz]; exact small_line (by decide), by rw [e1]; exact ec, onesV zs, (u2 D nDb).trans hD, by rw [onesV_len]; exact small1000 (by omega), zs ++ [c2], by rw [List.length_append, lzs]; rfl, fun d hd => ?_, fun a o ha e => ?_, bag_ne b2 nDb nDl, ?_⟩
        · rcases List.mem_append.mp hd with m | m
          · exact gz d m
          · rw [List.mem_singleton.mp m]
            exact gc
        · rw [upd_ne (ne_of_none e nD0)]
          exact (u2 a ha).trans (sG a o ha e)
        · rw [upd_same, onesV_app]
          rfl
      · obtain ⟨zs, lzs, gz, sG, bG, hD⟩ := pv
        have lzs : zs.length = q := lzs
        have tail : ∀ {zs2 : List Nat} {G2 : Hp} {j : Nat}, zs2 ≠ [] → zs2.length ≤ 4 → (∀ c ∈ zs2, c = 46 ∨ (97 ≤ c ∧ c ≤ 122)) → SameBut b H G2 → BagL G2 b l → G2 D = some (.lst (onesV zs2)) → spOnceS [.ref D] G2 (fun y H3 => rSortedS K [y] H3 fun y2 H4 => ∃ a p, ∃ ys : List Str, (V.str "" : V) = .str a ∧ [y2] = [V.ref p] ∧ (SqL K H4 p (ys.map V.str) ∨ SqT K H4 p (ys.map V.str)) ∧ (ys.map (·.length)).sum + ys.length * a.length ≤ 16777216 ∧ Q (.str (Txt.join a ys)) H4) E0 := fun {zs2 G2 j} ne l4 gz2 s2 b2 hD2 => by
          refine ⟨D, zs2, rfl, hD2, by omega, fun c mc => by rcases gz2 c mc with e | e <;> omega, fun p ys G3 s3 np hp nd hk hl => ?_⟩
          refine ⟨p, ones ys, rfl, SqL.of hp, by show ((ys.map fun c => S [c])).length < 64; rw [List.length_map]; omega, fun out p2 pm srt np2 => ?_⟩
          obtain ⟨ws, pw, rfl⟩ := ones_perm pm
          have lw : ws.length ≤ 4 := by rw [pw.length_eq]; omega
          refine ⟨_, p2, ones ws, rfl, rfl, .inl (SqL.of upd_same), ?_, ?_⟩
          · have e : ((ones ws).map (·.length)).sum = ws.length := by
              unfold ones
              rw [List.map_map]
              have : ((fun x : Str => x.length) ∘ fun c => S [c]) = fun _ => 1 := by
                funext c
                exact S_len [c]
              rw [this]
              exact sum_one ws
            rw [e]
            show ws.length + (ones ws).length * 0 ≤ 16777216
            omega
          · rw [join_ones]
            have okz : okZ ys := by
              refine ⟨fun e => ?_, by omega, fun c mc => gz2 c ((hk c).mp mc), nd⟩
              cases hz2 : zs2 with
              | nil => exact ne hz2
              | cons c r =>
                have := (hk c).mpr (by rw [hz2]; exact List.mem_cons_self)
                rw [e] at this
                cases this
            have ew : ws = asc ys := asc_of pw (ones_sorted srt)
            rw [ew]
            refine k _ _ okz.asc (sb_trans s2 (sb_trans (sb_of s3) (sb_of (same_upd np2)))) ?_
            exact bag_upd (bag_same b2 s3) np2
        refine ⟨_, rfl, _, _, rfl, rfl, _, rfl, ite2 (fun e2 => ?_) (fun e2 => ?_)⟩
        · have big : 2 < n := of_decide_eq_true e2
          refine ⟨_, rfl, .inl ⟨rfl, _, SqL.of hD⟩, _, rfl, D, _, _, rfl, rfl, hD, by rw [onesV_len]; exact small1000 (by omega), ?_⟩
          refine ⟨⟨_, rfl⟩, _, rfl, tail (zs2 := zs ++ [c]) (G2 := upd G D (.lst (onesV zs ++ [V.str (S [c])]))) (j := 0) (by simp) (by rw [List.length_append]; show zs.length + 1 ≤ 4; omega) (fun d hd => ?_) (fun a o ha e => ?_) (bag_ne bG nDb nDl) (by rw [upd_same, onesV_app]; rfl)⟩
          · rcases List.mem_append.mp hd with m | m
            · exact gz d m
            · rw [List.mem_singleton.mp m]
              exact hc
          · rw [upd_ne (ne_of_none e nD0)]
            exact sG a o ha e
        · have small : n ≤ 2 := by
            by_cases y : 2 < n
            · exact absurd (decide_eq_true y) e2
            · omega
          refine ⟨⟨_, rfl⟩, _, rfl, tail (zs2 := zs) (j := 0) (fun e => ?_) (by omega) gz sG bG hD⟩
          have := q1 small
          rw [e] at lzs
          simp at lzs
          omega
end
end Pm
/-! ### first & second; errors without fields; a loop that may return (written by gen_k21.py) -/
namespace Tr
open PySem PySem.Spec PyProof.Rows L2 SX
theorem rows_of {K : PySem.W.Frag} {F : Hp} : ∀ {us : List V} {W : List (List Nat)}, Reps K F us (W.map D.tx) → us = Pm.rowsV W
  | us, [], r => by cases r; rfl
  | us, w :: W, r => by
    cases r with
    | cons r1 r2 =>
      cases r1
      rw [rows_of r2]
      rfl
section
variable {X : Cx} {B : Hp × Hp} {Γ : Env} {e : Expr} {s : Stmt} {r : List Stmt} {d : D}
/-- a loop that may return, and what stands behind it -/
theorem s_forRR {α S : Type} {g : TG} {vs : List Nat} {body : List Stmt} {tg : Expr} (env : S → Env) (f : S → α → Sum D S) (ks : List α) (enc : α → D) (s0 : S) (bound : S → α → Env)
    (ho : ∀ {wi : TI} {tb : TS}, PI X tg e wi → PSs X body tb → PS X s (tFor wi g tb)) (hi : OkI X B tg e (env s0) (ks.map enc))
    (hg : ∀ (B : Hp × Hp) s k, k ∈ ks → BindG X.K B vs g (env s) (enc k) (bound s k)) (hb : ∀ (B : Hp × Hp) i k s, ks[i]? = some k → runF f s0 (ks.take i) = .inr s → OkSs X B body (bound s k) (outOf env (f s k)))
    (hR : ∀ x, runF f s0 ks = .inl x → x = d) (hN : ∀ s', runF f s0 ks = .inr s' → OkSs X B r (env s') (.rt d)) : OkSs X B (s :: r) (env s0) (.rt d) := by
  have h := s_forR (vs := vs) env f ks enc s0 bound ho hi hg hb
  cases q : runF f s0 ks with
  | inl x =>
    rw [q] at h
    rw [← hR x q]
    exact s_retHere h
  | inr s' =>
    rw [q] at h
    exact s_cons h (hN s' q)
end
end Tr
namespace Pm
open PySem PySem.Spec PyProof.Rows L2 SX Tr
theorem pmk_own0 {X : Cx} {C : Addr} {bmB : List Value} {B newId initId : String} {x : Str} {p pos : Pos} (F : ExcBaseFacts B newId initId bmB) (q : PySem.W.excIn X.K C bmB newId = true) (gC : X.mg x = some (.ref C)) (kC : PySem.W.keepIn X.K (.ref C) = true) (r : Raises X (.ref C)) (hg : Gl X x)
    (dbg : (x == ("__debug__" : Str)) = false := by decide) : PMk X (.Call (.Name x p) [] [] pos) (fun _ H Q => Q (.ref C) none H) := by
  intro pins s σ H Q I h
  refine wpAny_Call_Name_kw (ld_glob I hg gC ?_ dbg)
  refine PySem.W.callWith_K0 I.kIn kC ?_
  obtain ⟨bm, N, nm, qn, bs, hdct, sn, sub, ab, col, dd, k0, k1, k2, k3, k5, mN, lkC, lkN, noI, tl⟩ := exc_obj I.kIn q
  exact wpAny_call_exc_subT F tl lkC lkN noI (fun h' e made => mk_of I made r h (I.hok.gone made.new)) (Nat.zero_le _)
def rIsX0 (K : PySem.W.Frag) (a : Addr) (cls : Value) (d : Option Addr) : List V → Hp → VK → Prop := fun xs H Q => ∃ (D : Addr) (c : V) (cv : Value) (b : Bool),
  xs = [.ref a, c] ∧ cls = .ref D ∧ d = none ∧ ErrC K D ∧ (∀ u, RelV c u → u = cv) ∧ PySem.W.kitOne K (.ref D) cv = some b ∧ Q (.bl b) H
theorem call_isX0 {X : Cx} {a : Addr} {cls : Value} {d : Option Addr} {oe : Obj} {pn : List (Addr × Obj)} (hz : Zc cls d oe) (hf : ∃ vs, oe.data = .fields vs) : CallR (X.suite a ((a, oe) :: pn)) (.builtin "isinstance") (rIsX0 X.K a cls d) := by
  intro pins s σ H xs us Q I r h
  obtain ⟨D, c, cv, b, rfl, rfl, rfl, C, hcv, e, q⟩ := h
  match r with
  | .cons rx (.cons rt .nil) =>
    cases rx
    cases hcv _ rt
    obtain ⟨at_, _⟩ := I.pin (a, oe) (List.mem_append_left _ List.mem_cons_self)
    obtain ⟨vs, hd⟩ := hf
    have J : PySem.W.InstAt s.heap a oe D none := ⟨at_, hz.1, by unfold PySem.W.notCls; rw [hd] <;> rfl, by rw [hz.2]; trivial⟩
    exact PySem.W.kia_one (PySem.W.kitx_exc C.cl C.hg C.hk C.hs C.ha C.hn C.ht C.hm) I.kIn J e (fun z => nomatch z) fun tk => ⟨.bl b, H, I.kept (t' := tk) fun _ _ z => z, rfl, q⟩
section
variable {X : Cx} {CXf : CXT} {C f : Addr} {fd : FuncData} {k : Nat} {E : L2.St → XK} {sp : Sp} {a b : Expr} {ta tb : TE} {pos : Pos}
def tBand (C : Addr) (sp : Sp) (E : L2.St → XK) (ta tb : TE) : TE := fun σ H Q => ta σ H fun x H1 => tb σ H1 fun y H2 => ∃ r q dx dy fs gs, x = .ref r ∧ y = .ref q ∧ H2 r = some (.ins C dx fs) ∧ H2 q = some (.ins C dy gs) ∧ sp [.ref r, .ref q] H2 (fun v H' => ∃ z, v = .ref z ∧ Q v H') (E σ)
theorem pe_band (F : FnOk X.prog X.w X.K X.mg X.base CXf k f fd ["self", "other"] sp) (hr : Room k X.A) (hb : Binds X.K fd ["self", "other"] []) (hx : ∀ σ, PassesAt CXf X σ (E σ)) (sf : PySem.W.selfFirst X.K C = true) (m : OwnM X.K C "__and__" f) (pa : PE X a ta) (pb : PE X b tb) :
    PE X (.BinOp a .BitAnd b pos) (tBand C sp E ta tb) := by
  refine ⟨fun pins s σ H Q I h => ?_⟩
  refine wpAny_BinOp (binT pa pb I h fun v u s2 x y H2 I2 rx ry q => ?_)
  obtain ⟨r, q', dx, dy, fs, gs, rfl, rfl, hr0, hq0, q⟩ := q
  obtain rfl : v = Value.ref r := rx
  obtain rfl : u = Value.ref q' := ry
  obtain ⟨mA, J, _⟩ := ins_get I2.hok hr0
  obtain ⟨od, J, _⟩ := J.look
  obtain ⟨mB, J', _⟩ := ins_get I2.hok hq0
  obtain ⟨od', J', _⟩ := J'.look
  obtain ⟨mm, hF⟩ := I2.fr
  refine PySem.W.binop_K (op := .BitAnd) hF I2.ok.mod.kin J J'.type sf m.at_ m.fn ?_
  refine wpAny_mono (run_fnS (Q := fun v H' => ∃ z, v = .ref z ∧ Q v H') (us := [.ref r, .ref q']) (vs := [.ref r, .ref q']) F hr hb (hx σ) I2 (.cons rfl (.cons rfl .nil)) q) (fun v s' z => ?_) fun _ _ z => z
  obtain ⟨v', H', I', rv, z, rfl, hz⟩ := z
  obtain rfl : v = Value.ref z := rv
  exact ⟨.ref z, H', I', rfl, hz⟩
end
end Pm
/-! ### list(zip(a, b)), a and b lists of one length -/
namespace Zp
open PySem PySem.Spec PyProof.Rows L2
theorem nolen : typeLookup (.type "zip") "__len__" = pure none := am_miss_of_fast (by decide +kernel)
theorem nohint : typeLookup (.type "zip") "__length_hint__" = pure none := am_miss_of_fast (by decide +kernel)
section
variable {prog : Program} {w : World} {A : Around} {s : Shared} {R : Result → Shared → Prop} {z TI TO i1 i2 l1 l2 : Addr} {xs ys : Array Value}
/-- behind i turns, the tuples given out kept -/
def St (z TI TO i1 i2 l1 l2 : Addr) (xs ys : Array Value) (B i : Nat) (h : Heap) : Prop := IsPair h TI (.ref i1) (.ref i2) ∧ h.IsListIter i1 l1 i ∧ h.IsListIter i2 l2 i ∧ h.IsList l1 xs ∧ h.IsList l2 ys ∧
  ((IsZip h z TI TO .none ∧ ∃ a b, IsPair h TO a b) ∨ ∃ T f oT, IsZipHeld h z TI TO T f ∧ h.get? T = some oT ∧ B ≤ T)
theorem St.keep {B i : Nat} {h h' : Heap} (st : St z TI TO i1 i2 l1 l2 xs ys B i h) (hk : ∀ b o, (b = z ∨ b = TI ∨ b = TO ∨ b = i1 ∨ b = i2 ∨ b = l1 ∨ b = l2 ∨ B ≤ b) → h.get? b = some o → h'.get? b = some o) : St z TI TO i1 i2 l1 l2 xs ys B i h' := by
  obtain ⟨hTI, h1, h2, hl1, hl2, hz⟩ := st
  refine ⟨hk _ _ (by simp) hTI, h1.at fun o e => hk _ o (by simp) e, h2.at fun o e => hk _ o (by simp) e, hl1.at fun o e => hk _ o (by simp) e, hl2.at fun o e => hk _ o (by simp) e, ?_⟩
  rcases hz with ⟨hz, a, b, hTO⟩ | ⟨T, f, oT, hz, hT, hB⟩
  · exact .inl ⟨hk _ _ (by simp) hz, a, b, hk _ _ (by simp) hTO⟩
  · exact .inr ⟨T, f, oT, hk _ _ (by simp) hz, hk _ _ (by simp [hB]) hT, hB⟩
/-- the pairs so far -/
def Prs (xs ys : Array Value) (B i : Nat) (acc : Array Value) (h : Heap) : Prop := acc.size = i ∧ ∀ j, j < i → acc[j]? = some (.ref (B + j)) ∧ ∃ x y, xs[j]? = some x ∧ ys[j]? = some y ∧ h.get? (B + j) = some { cls := .type "tuple", data := .seq #[x, y] }
theorem drain (hh : A.handled = none) (D : ZipApart z TI TO i1 i2 l1 l2) {S B n : Nat} {res : Value} (nx : xs.size = n) (ny : ys.size = n) (hn : n ≤ 100000) (hB : ∀ b, b = S ∨ b = z ∨ b = TI ∨ b = TO ∨ b = i1 ∨ b = i2 ∨ b = l1 ∨ b = l2 → b < B) (hS : S ≠ z ∧ S ≠ TI ∧ S ≠ TO ∧ S ≠ i1 ∧ S ≠ i2 ∧ S ≠ l1 ∧ S ≠ l2) :
    ∀ (k i : Nat) (s : Shared) (acc : Array Value) (c : Nat), n - i = k → i ≤ n → St z TI TO i1 i2 l1 l2 xs ys B i s.heap → s.heap.get? S = some { cls := .type "list", dict := none, data := .seq acc c, slots := #[] } → Prs xs ys B i acc s.heap → s.heap.objs.size = B + i →
    (∀ h' acc' c', (∀ b o, b ≠ S → b ≠ z → b ≠ TO → b ≠ i1 → b ≠ i2 → s.heap.get? b = some o → h'.get? b = some o) → h'.get? S = some { cls := .type "list", dict := none, data := .seq acc' c', slots := #[] } → Prs xs ys B n acc' h' → R (.ok (.ret res)) { s with heap := h' }) →
    codeAny (model prog w) A (.builtin "list.extend.loop" ⟨[.ref S, .ref z, res], []⟩) R s := by
  intro k
  induction k with
  | zero =>
    intro i s acc c hk hi st hSl hp hsz hR
    obtain rfl : i = n := by omega
    refine codeAny_builtin F.entry_extend_loop ?_
    rw [Around.under_plainId F.plain_extend_loop _]
    show wpAny _ A.in1 (pyNext (.ref z) >>= _) _ _ s
    obtain ⟨hTI, h1, h2, hl1, hl2, hz⟩ := st
    have hend : xs[i]? = none ∨ ys[i]? = none := .inl (Array.getElem?_eq_none (by omega))
    have keepP : ∀ h' : Heap, (∀ c o, c ≠ z → c ≠ TO → c ≠ i1 → c ≠ i2 → s.heap.get? c = some o → h'.get? c = some o) → Prs xs ys B i acc h' := fun h' hk => ⟨hp.1, fun j hj => by
      obtain ⟨e, x, y, ex, ey, et⟩ := hp.2 j hj
      have big : ∀ b, b < B → B + j ≠ b := fun b hb => by omega
      exact ⟨e, x, y, ex, ey, hk _ _ (big _ (hB _ (by simp))) (big _ (hB _ (by simp))) (big _ (hB _ (by simp))) (big _ (hB _ (by simp))) et⟩⟩
    rcases hz with ⟨hz, a, b, hTO⟩ | ⟨T, f, oT, hz, hT, hBT⟩
    · exact wpAny_bind (wpAny_pyNext_zip_end hh D hz hTI hTO h1 h2 hl1 hl2 hend fun h' hk => wpAny_pure (hR h' acc c (fun b o _ n1 n2 n3 n4 e => hk b o n1 n2 n3 n4 e) (hk S _ hS.1 hS.2.2.1 hS.2.2.2.1 hS.2.2.2.2.1 hSl) (keepP h' hk)))
    · exact wpAny_bind (wpAny_pyNext_zip_end_held hh D hz hT hTI h1 h2 hl1 hl2 hend fun h' hk => wpAny_pure (hR h' acc c (fun b o _ n1 n2 n3 n4 e => hk b o n1 n3 n4 e) (hk S _ hS.1 hS.2.2.2.1 hS.2.2.2.2.1 hSl) (keepP h' fun c o c1 c2 c3 c4 e => hk c o c1 c3 c4 e)))
  | succ k ih =>
    intro i s acc c hk hi st hSl hp hsz hR
    have hlt : i < n := by omega
    refine codeAny_builtin F.entry_extend_loop ?_
    rw [Around.under_plainId F.plain_extend_loop _]
    show wpAny _ A.in1 (pyNext (.ref z) >>= _) _ _ s
    obtain ⟨hTI, h1, h2, hl1, hl2, hz⟩ := st
    have ex := Array.getElem?_eq_getElem (show i < xs.size by omega)
    have ey := Array.getElem?_eq_getElem (show i < ys.size by omega)
    have go : ∀ h' : Heap, St z TI TO i1 i2 l1 l2 xs ys B (i + 1) h' → IsPair h' s.heap.objs.size xs[i] ys[i] → h'.objs.size = s.heap.objs.size + 1 → (∀ c o, c ≠ z → c ≠ TO → c ≠ i1 → c ≠ i2 → s.heap.get? c = some o → h'.get? c = some o) →
        wpAny (model prog w) A.in1 (updateSeq S (·.push (.ref s.heap.objs.size)) >>= fun _ => again (.builtin "list.extend.loop" ⟨[.ref S, .ref z, res], []⟩)) (fun fin s' => match fin with | .done f => R (.ok f) s' | .again c' => c'.quiet = true ∧ codeAny (model prog w) A c' R s') (fun e s' => R (.error e) s') { s with heap := h' } := fun h' st' hT hsz' hk' => by
      have hS' := hk' S _ hS.1 hS.2.2.1 hS.2.2.2.1 hS.2.2.2.2.1 hSl
      have kU : ∀ b o, b ≠ S → h'.get? b = some o → (h'.update S (Obj.mapSeq (·.push (Value.ref s.heap.objs.size)))).get? b = some o := fun b o ne e => (Heap.get?_update_other _ _ (Ne.symm ne)).trans e
      have hSB := hB S (by simp)
      refine wpAny_bind ?_
      refine wpAny_updateSeq hS' rfl (wpAny_pure ⟨plainId_quiet F.plain_extend_loop _, ih (i + 1) _ (acc.push (.ref s.heap.objs.size)) _ (by omega) (by omega) (st'.keep fun b o hb e => kU b o (fun q => ?_) e) (Heap.get?_update_self _ hS' rfl) ⟨by rw [Array.size_push, hp.1], fun j hj => ?_⟩ ?_ fun h'' acc' c' hk'' hS'' hp'' => ?_⟩) (by rw [hp.1]; exact Nat.le_trans (Nat.le_of_lt hlt) (Nat.le_trans hn (by decide))) (by show (acc.push _).size ≤ sizeLine + 1; rw [Array.size_push, hp.1]; exact Nat.le_trans hlt (Nat.le_trans hn (by decide)))
      · subst q
        rcases hb with q | q | q | q | q | q | q | q
        · exact hS.1 q
        · exact hS.2.1 q
        · exact hS.2.2.1 q
        · exact hS.2.2.2.1 q
        · exact hS.2.2.2.2.1 q
        · exact hS.2.2.2.2.2.1 q
        · exact hS.2.2.2.2.2.2 q
        · omega
      · by_cases ej : j = i
        · subst ej
          refine ⟨?_, xs[j], ys[j], ex, ey, kU _ _ (by omega) (by rw [← hsz]; exact hT)⟩
          rw [Array.getElem?_push, if_pos hp.1.symm, hsz]
        · obtain ⟨e, x, y, e1, e2, et⟩ := hp.2 j (by omega)
          have big : ∀ b, b < B → B + j ≠ b := fun b hb => by omega
          refine ⟨?_, x, y, e1, e2, kU _ _ (big _ hSB) (hk' _ _ (big _ (hB _ (by simp))) (big _ (hB _ (by simp))) (big _ (hB _ (by simp))) (big _ (hB _ (by simp))) et)⟩
          rw [Array.getElem?_push, if_neg (by rw [hp.1]; exact ej)]
          exact e
      · rw [Heap.size_update, hsz', hsz]
        omega
      · exact hR h'' acc' c' (fun b o n0 n1 n2 n3 n4 e => hk'' b o n0 n1 n2 n3 n4 (kU b o n0 (hk' b o n1 n2 n3 n4 e))) hS'' hp''
    have bz : ∀ {b}, b < B → B + i ≠ b := fun {b} hb => by omega
    rcases hz with ⟨hz, a, b, hTO⟩ | ⟨T, f, oT, hz, hT, hBT⟩
    · refine wpAny_bind (wpAny_pyNext_zip_item D hz hTI hTO h1 h2 hl1 hl2 ex ey fun h' a1 a2 a3 a4 a5 a6 hk' => go h' ?_ a5 a6 hk')
      exact ⟨hk' _ _ D.TIz D.TITO D.TIi1 D.TIi2 hTI, a3, a4, hl1.at fun o e => hk' _ o D.l1z D.l1TO D.l1i1 D.l1i2 e, hl2.at fun o e => hk' _ o D.l2z D.l2TO D.l2i1 D.l2i2 e, .inr ⟨s.heap.objs.size, false, _, a1, a5, by omega⟩⟩
    · have Tz : ∀ b, b < B → T ≠ b := fun b hb q => Nat.lt_irrefl _ (Nat.lt_of_lt_of_le hb (q ▸ hBT))
      refine wpAny_bind (wpAny_pyNext_zip_item_held D hz hT hTI h1 h2 hl1 hl2 ex ey fun h' a1 a3 a4 a5 a6 hk' => go h' ?_ a5 a6 fun c o c1 _ c3 c4 e => hk' c o c1 c3 c4 e)
      exact ⟨hk' _ _ D.TIz D.TIi1 D.TIi2 hTI, a3, a4, hl1.at fun o e => hk' _ o D.l1z D.l1i1 D.l1i2 e, hl2.at fun o e => hk' _ o D.l2z D.l2i1 D.l2i2 e, .inr ⟨T, true, oT, a1, hk' _ _ (Tz _ (hB _ (by simp))) (Tz _ (hB _ (by simp))) (Tz _ (hB _ (by simp))) hT, hBT⟩⟩
end
section
variable {prog : Program} {w : World} {A : Around} {s : Shared} {z TI TO i1 i2 l1 l2 : Addr} {xs ys : Array Value}
theorem call_list_zip {Q : Value → Shared → Prop} {E : Value → Shared → Prop} {n : Nat} (hh : A.handled = none) (D : ZipApart z TI TO i1 i2 l1 l2) (hz : IsZip s.heap z TI TO .none) (hTI : IsPair s.heap TI (.ref i1) (.ref i2)) (hTO : ∃ a b, IsPair s.heap TO a b)
    (h1 : s.heap.IsListIter i1 l1 0) (h2 : s.heap.IsListIter i2 l2 0) (hl1 : s.heap.IsList l1 xs) (hl2 : s.heap.IsList l2 ys) (nx : xs.size = n) (ny : ys.size = n) (hn : n ≤ 100000)
    (hQ : ∀ h' acc c', (∀ b o, b ≠ z → b ≠ TO → b ≠ i1 → b ≠ i2 → s.heap.get? b = some o → h'.get? b = some o) → h'.get? s.heap.objs.size = some { cls := .type "list", dict := none, data := .seq acc c', slots := #[] } → Prs xs ys (s.heap.objs.size + 1) n acc h' → Q (.ref s.heap.objs.size) { s with heap := h' }) :
    wpAny (model prog w) A (call (.type "list") [.ref z]) Q E s := by
  obtain ⟨a0, b0, hTO⟩ := hTO
  have lt : ∀ {b o}, s.heap.get? b = some o → b < s.heap.objs.size := fun e => Heap.lt_size e
  have lz := lt hz
  have lTI := lt hTI
  have lTO := lt hTO
  have li1 : i1 < s.heap.objs.size := let ⟨_, e, _⟩ := h1; lt e
  have li2 : i2 < s.heap.objs.size := let ⟨_, e, _⟩ := h2; lt e
  have ll1 : l1 < s.heap.objs.size := let ⟨_, e, _⟩ := hl1; lt e
  have ll2 : l2 < s.heap.objs.size := let ⟨_, e, _⟩ := hl2; lt e
  have hSz : s.heap.objs.size ≠ z := Nat.ne_of_gt lz
  refine callType_codes (Q₁ := fun obj s₁ => obj = .ref s.heap.objs.size ∧ s₁ = { s with heap := s.heap.push { cls := .type "list", data := .seq #[] } }) F.called_list (F.typeCall_list_1 _) F.entry_list_init
    (code_list_new _ ⟨rfl, rfl⟩) fun obj s₁ h₁ => ?_
  obtain ⟨rfl, rfl⟩ := h₁
  have hS : (s.heap.push { cls := .type "list", data := .seq #[] }).get? s.heap.objs.size = some { cls := .type "list", data := .seq #[] } := Heap.get?_push_size _ rfl
  refine ⟨⟨_, hS, rfl⟩, F.args_list_init_2 _ _, ?_⟩
  show wpAny _ A.in1.in1 (do let old ← Builtin.List.listItems (.ref s.heap.objs.size); Builtin.List.listUpdate (.ref s.heap.objs.size) (fun _ => #[]); letGo old.toList.reverse; Builtin.List.listExtendWith (.ref s.heap.objs.size) (.ref z) .none) _ _ _
  refine wpAny_bind ?_
  unfold Builtin.List.listItems
  refine wpAny_bind (wpAny_seqItems hS rfl (wpAny_pure ?_))
  show wpAny _ A.in1.in1 (updateSeq s.heap.objs.size (fun _ => #[]) >>= fun _ => letGo (#[] : Array Value).toList.reverse >>= fun _ => Builtin.List.listExtendWith (.ref s.heap.objs.size) (.ref z) .none) _ _ _
  refine wpAny_bind (wpAny_updateSeq hS rfl ?_)
  have hS2 := Heap.get?_update_self (Obj.mapSeq (fun _ => (#[] : Array Value))) hS rfl
  refine wpAny_bind (wpAny_letGo ?_)
  unfold Builtin.List.listExtendWith
  have up : ∀ (h : Heap) (f : Obj → Obj), (∀ b o, s.heap.get? b = some o → h.get? b = some o) → ∀ b o, s.heap.get? b = some o → (h.update s.heap.objs.size f).get? b = some o := fun h f q b o e =>
    (Heap.get?_update_other _ _ (Ne.symm (Nat.ne_of_lt (Heap.lt_size e)))).trans (q b o e)
  have k1 : ∀ b o, s.heap.get? b = some o → (s.heap.push { cls := .type "list", data := .seq #[] }).get? b = some o := fun b o e => Heap.get?_push_of_some _ e
  have k2 := up _ (Obj.mapSeq (fun _ => (#[] : Array Value))) k1
  have gty : ∀ {h : Heap}, (∀ b o, s.heap.get? b = some o → h.get? b = some o) → ({ s with heap := h } : Shared).TypeIs (.ref z) "zip" := fun {h} q => ⟨_, q _ _ hz, rfl⟩
  refine wpAny_bind (wpAny_typeOf (gty k2) ?_)
  have e1 : Builtin.List.listSameRef (.ref s.heap.objs.size) (.ref z) = false := by simp [Builtin.List.listSameRef, hSz]
  have e2 : (Value.type "zip" == Value.type "list") = false := by decide
  have e3 : (Value.type "zip" == Value.type "tuple") = false := by decide
  simp only [e1, e2, e3, Bool.or_false, Bool.false_eq_true, if_false]
  refine wpAny_bind (wpAny_pyIter_zip (s := { s with heap := _ }) (k2 _ _ hz) ?_)
  refine wpAny_bind (wpAny_holding ?_)
  unfold Builtin.List.listLengthHint
  refine wpAny_bind (wpAny_specialOf (gty k2) nolen ?_)
  show wpAny _ A.in1.in1 (specialOf (Value.ref z) (Str.ofString "__length_hint__") >>= _) _ _ _
  refine wpAny_bind (wpAny_specialOf (gty k2) nohint ?_)
  refine wpAny_pure ?_
  show wpAny _ A.in1.in1 (rule "list.extend.makes-room" >>= fun _ => Builtin.List.listTouch (.ref s.heap.objs.size) >>= fun _ =>
    again (.builtin "list.extend.loop" ⟨[.ref s.heap.objs.size, .ref z, .none], []⟩)) _ _ _
  refine wpAny_bind (wpAny_rule ?_)
  refine wpAny_bind ?_
  show wpAny _ A.in1.in1 (updateSeq s.heap.objs.size (·.push .none) >>= fun _ => updateSeq s.heap.objs.size (·.pop)) _ _ _
  refine wpAny_bind (wpAny_updateSeq hS2 rfl ?_)
  have hS3 := Heap.get?_update_self (Obj.mapSeq (·.push Value.none)) hS2 rfl
  refine wpAny_updateSeq (hz := by seq_fits) hS3 rfl ?_
  have hS4 := Heap.get?_update_self (Obj.mapSeq (·.pop)) hS3 rfl
  have k4 := up _ (Obj.mapSeq (·.pop)) (up _ (Obj.mapSeq (·.push Value.none)) k2)
  refine wpAny_pure ⟨plainId_quiet F.plain_extend_loop _, ?_⟩
  refine drain (A := A.in1) (xs := xs) (ys := ys) (TI := TI) (TO := TO) (i1 := i1) (i2 := i2) (l1 := l1) (l2 := l2) (B := s.heap.objs.size + 1) (n := n) (res := .none) hh D nx ny hn ?_ ?_ n 0 _ #[] _ (by omega) (Nat.zero_le _) ?_ hS4 ⟨rfl, fun j hj => absurd hj (Nat.not_lt_zero _)⟩ ?_ fun h' acc' c' hk hS' hp => ⟨rfl, ?_⟩
  · intro b hb
    rcases hb with q | q | q | q | q | q | q | q
    · rw [q]; exact Nat.lt_succ_self _
    · rw [q]; exact Nat.lt_succ_of_lt lz
    · rw [q]; exact Nat.lt_succ_of_lt lTI
    · rw [q]; exact Nat.lt_succ_of_lt lTO
    · rw [q]; exact Nat.lt_succ_of_lt li1
    · rw [q]; exact Nat.lt_succ_of_lt li2
    · rw [q]; exact Nat.lt_succ_of_lt ll1
    · rw [q]; exact Nat.lt_succ_of_lt ll2
  · exact ⟨Nat.ne_of_gt lz, Nat.ne_of_gt lTI, Nat.ne_of_gt lTO, Nat.ne_of_gt li1, Nat.ne_of_gt li2, Nat.ne_of_gt ll1, Nat.ne_of_gt ll2⟩
  · exact ⟨k4 _ _ hTI, h1.at fun o e => k4 _ o e, h2.at fun o e => k4 _ o e, hl1.at fun o e => k4 _ o e, hl2.at fun o e => k4 _ o e, .inl ⟨k4 _ _ hz, a0, b0, k4 _ _ hTO⟩⟩
  · simp [Heap.size_update, Heap.size_push]
  · exact hQ h' acc' c' (fun b o n1 n2 n3 n4 e => hk b o (Nat.ne_of_lt (lt e)) n1 n2 n3 n4 (k4 _ _ e)) hS' hp
end
/-- a heap with the new pairs and their list -/
def zipAt (S B : Nat) (xs ys : List V) (o : Option HO) (b : Nat) : Option HO := if b = S then some (.lst ((List.range xs.length).map fun j => V.ref (B + j))) else if B ≤ b ∧ b < B + xs.length then some (.tup [xs.getD (b - B) .non, ys.getD (b - B) .non]) else o
def zipH (H : Hp) (S B : Nat) (xs ys : List V) : Hp := fun b => zipAt S B xs ys (H b) b
theorem ne_add {a b : Nat} (k : Nat) (h : a < b) : a ≠ b + k := by omega
def tListZip (K : PySem.W.Frag) (ta : TA) : TE := fun σ H Q => ta σ H fun vs H1 => ∃ a b xs ys, vs = [.ref a, .ref b] ∧ SqL K H1 a xs ∧ SqL K H1 b ys ∧ xs.length = ys.length ∧ xs.length ≤ 100000 ∧ ∀ S B, H1 S = none → (∀ j, H1 (B + j) = none) → S < B → Q (.ref S) (zipH H1 S B xs ys)
theorem vals_refs : ∀ l : List Addr, Vals (l.map V.ref) (l.map Value.ref)
  | [] => .nil
  | _ :: l => .cons rfl (vals_refs l)
theorem pe_listZip {X : Cx} {e e2 : Expr} {ta : TA} {p p2 q pos : Pos} (hg : Gl X "list") (hm : X.mg "list" = none) (hg2 : Gl X "zip") (hm2 : X.mg "zip" = none) (ha : PA X [e, e2] ta) (hc : X.calm = true := by rfl)
    (hs : starEach [e, e2] X.env = (false, eval e X.env) :: starEach [e2] X.env := by rfl) (hpl : (backTo q (starEach [e2] X.env)).any (·.1) = false := by rfl)
    (na : starEach [Expr.Call (.Name "zip" p2) [e, e2] [] q] X.env = (false, eval (.Call (.Name "zip" p2) [e, e2] [] q) X.env) :: starEach [] X.env := by rfl) :
    PE X (.Call (.Name "list" p) [.Call (.Name "zip" p2) [e, e2] [] q] [] pos) (tListZip X.K ta) := by
  refine ⟨fun pins s σ H Q I h => ?_⟩
  refine Call_ (ld_blt I hg hm PyProof.Rows.boot_list ?_)
  refine PyProof.Rows.callWith_type1 (PyProof.Rows.args_cons ?_ na) na rfl
  refine Call_ (ld_blt I hg2 hm2 PyProof.Rows.boot_zip (PyProof.Rows.callWith_type1 (thn (ha.run q pins s σ H _ I h) fun us s1 ⟨vs, H1, I1, r1, q1⟩ => ?_) hs hpl))
  obtain ⟨a, b, xs, ys, ex, hqx, hqy, hl, few, q1⟩ := q1
  subst ex
  cases r1 with
  | cons r rr =>
    cases rr with
    | cons r' rr =>
      cases rr
      cases r
      cases r'
      obtain ⟨its, rv, p1, _⟩ := I1.list hqx
      obtain ⟨its2, rv2, p2', _⟩ := I1.list hqy
      have la : a < s1.heap.objs.size := p1.lt
      have lb : b < s1.heap.objs.size := p2'.lt
      have n1 : its.toArray.size = xs.length := by rw [List.size_toArray]; exact rv.length.symm
      have n2 : its2.toArray.size = xs.length := by rw [List.size_toArray, hl]; exact rv2.length.symm
      refine call_zip_2 p1.isList p2'.isList fun h' hz hTI hTO h1 h2 hsz hk => ?_
      refine PyProof.Rows.args_nil ?_
      refine call_list_zip (s := { s1 with heap := h' }) (xs := its.toArray) (ys := its2.toArray) (n := xs.length) (I1.ok.hd hc) (PySem.W.ktu_apart s1.heap.objs.size a b la lb) hz hTI ⟨_, _, hTO⟩ h1 h2 (p1.isList.at fun o e => hk _ o e) (p2'.isList.at fun o e => hk _ o e) n1 n2 few fun h'' acc c' hk2 hS hp => ?_
      have keep : ∀ b o, s1.heap.get? b = some o → h''.get? b = some o := fun b o e => by
        have lt : (b : Nat) < (s1.heap.objs.size : Nat) := Heap.lt_size e
        exact hk2 b o (ne_add 4 lt) (ne_add 3 lt) (ne_add 0 lt) (ne_add 1 lt) (hk b o e)
      have eS : h'.objs.size = s1.heap.objs.size + 5 := hsz
      have hp : Prs its.toArray its2.toArray (h'.objs.size + 1) xs.length acc h'' := hp
      have hS : h''.get? h'.objs.size = some { cls := .type "list", dict := none, data := .seq acc c', slots := #[] } := hS
      have fr : ∀ b : Nat, s1.heap.objs.size ≤ b → H1 b = none := fun b hb => I1.hok.fresh hb
      have old : ∀ (b : Nat) u, H1 b = some u → b < s1.heap.objs.size := fun b u e => by
        rcases Nat.lt_or_ge b s1.heap.objs.size with y | y
        · exact y
        · rw [fr b y] at e; cases e
      have same : ∀ b : Nat, b < s1.heap.objs.size → zipH H1 h'.objs.size (h'.objs.size + 1) xs ys b = H1 b := fun b hb => by
        unfold zipH zipAt
        rw [if_neg (show (b : Nat) ≠ h'.objs.size by omega), if_neg (by omega)]
      have sm : ∀ (b : Nat) u, H1 b = some u → zipH H1 h'.objs.size (h'.objs.size + 1) xs ys b = some u := fun b u e => by rw [same b (old b u e), e]
      have I2 : L2.Inv X pins σ (zipH H1 h'.objs.size (h'.objs.size + 1) xs ys) { s1 with heap := h'' } := by
        refine I1.step (g' := s1.gens) (d' := s1.drawn) (t' := s1.toks) (ch := []) (fun b hb => nomatch hb) (fun b o _ _ _ e _ => keep b o e) (fun b o _ _ _ e _ => ⟨o.slots, keep b o e⟩) (fun b o _ e nn => ?_) (fun b o _ e => ⟨o, keep b o e⟩) (fun b xs' e => sm b _ e) (fun b o u e => sm b _ e) (fun b ps e => ⟨#[], ?_⟩) (fun m hm => ?_) (fun b u e => ?_) I1.bare
        · rw [same b (Heap.lt_size e)]; exact nn
        · rw [sm b _ e]; simp
        · obtain ⟨o, es, ep, ho, r⟩ := hm
          exact ⟨o, es, ep, keep _ o ho, r⟩
        · refine (show ∀ (bN : Nat) (u : HO), zipH H1 h'.objs.size (h'.objs.size + 1) xs ys bN = some u → ObjOk X.prog X.w (zipH H1 h'.objs.size (h'.objs.size + 1) xs ys) h'' bN u from ?_) b u e
          clear e b u
          intro bN u e
          by_cases hb : bN < s1.heap.objs.size
          · rw [same bN hb] at e
            exact (I1.hok bN u e).stay (fun c v _ q => keep c v q) (fun c q => sm c _ q) fun c xs q => sm c _ q
          · unfold zipH zipAt at e
            by_cases eb : bN = h'.objs.size
            · rw [if_pos eb] at e
              cases e
              subst eb
              have el : acc.toList = ((List.range xs.length).map fun j => h'.objs.size + 1 + j).map Value.ref := by
                refine List.ext_getElem? fun j => ?_
                rw [List.map_map, List.getElem?_map, Array.getElem?_toList]
                by_cases hj : j < xs.length
                · rw [(hp.2 j hj).1, List.getElem?_range hj]
                  rfl
                · rw [Array.getElem?_eq_none (by rw [hp.1]; omega), List.getElem?_eq_none (by simp; omega)]
                  rfl
              have vv := vals_refs ((List.range xs.length).map fun j => h'.objs.size + 1 + j)
              rw [← el, List.map_map] at vv
              exact ⟨by rw [List.length_map, List.length_range]; exact Nat.le_trans few (by decide), acc.toList, c', vv, by rw [hS]⟩
            · rw [if_neg eb] at e
              by_cases ec : h'.objs.size + 1 ≤ bN ∧ bN < h'.objs.size + 1 + xs.length
              · rw [if_pos ec] at e
                cases e
                obtain ⟨_, x, y, exx, eyy, et⟩ := hp.2 (bN - (h'.objs.size + 1)) (by omega)
                have hbj : h'.objs.size + 1 + (bN - (h'.objs.size + 1)) = bN := by omega
                rw [hbj] at et
                have lx : bN - (h'.objs.size + 1) < xs.length := by omega
                obtain ⟨u1, hu1, ru1⟩ := rv.get (List.getElem?_eq_getElem lx)
                obtain ⟨u2, hu2, ru2⟩ := rv2.get (List.getElem?_eq_getElem (by rw [← hl]; exact lx))
                have q1' : u1 = x := by
                  have : its.toArray[bN - (h'.objs.size + 1)]? = some u1 := by simpa using hu1
                  rw [exx] at this
                  exact (Option.some.inj this).symm
                have q2' : u2 = y := by
                  have : its2.toArray[bN - (h'.objs.size + 1)]? = some u2 := by simpa using hu2
                  rw [eyy] at this
                  exact (Option.some.inj this).symm
                subst q1' q2'
                refine ⟨by show 2 ≤ sizeLine; decide, [u1, u2], .cons ?_ (.cons ?_ .nil), ⟨_, et, rfl, _, rfl⟩⟩
                · rw [List.getD_eq_getElem?_getD, List.getElem?_eq_getElem lx]; exact ru1
                · rw [List.getD_eq_getElem?_getD, List.getElem?_eq_getElem (by rw [← hl]; exact lx)]; exact ru2
              · rw [if_neg ec] at e
                rw [fr bN (by omega)] at e
                cases e
      exact ⟨.ref h'.objs.size, _, I2, rfl, q1 h'.objs.size (h'.objs.size + 1) (fr _ (by omega)) (fun j => fr _ (by omega)) (Nat.lt_succ_self _)⟩
end Zp
/-! ### a sketch and a table beside the bag (written by gen_sx.py) -/
namespace Pm
open PySem PySem.Spec PyProof.Rows L2 SX Tr
theorem row_bag {H : Hp} {b l r : Addr} {z : List (List Nat)} (hb : BagL H b l) (h : H r = some (.lst (rowsV z))) (ne : z ≠ []) : r ≠ b ∧ r ≠ l := by
  obtain ⟨ns, i, p, q, e1, e2, _⟩ := hb
  cases z with
  | nil => exact absurd rfl ne
  | cons w z =>
    refine ⟨fun e => ?_, fun e => ?_⟩
    · rw [e, e1] at h
      have := HO.lst.inj (Option.some.inj h)
      cases this
    · rw [e, e2] at h
      have := HO.lst.inj (Option.some.inj h)
      cases ns with
      | nil => cases this
      | cons n ns => cases this
theorem bag_sb {H H' : Hp} {b l r : Addr} (hb : BagL H b l) (s : SameBut r H H') (n : r ≠ b ∧ r ≠ l) : BagL H' b l := by
  obtain ⟨ns, i, p, q, e1, e2, e3⟩ := hb
  exact ⟨ns, i, p, q, s _ _ (Ne.symm n.1) e1, s _ _ (Ne.symm n.2) e2, e3⟩
/-- the bag is none of a table's lists -/
theorem tab_bag {H : Hp} {b l a : Addr} {R : List Addr} {T : Tab} {m n : Nat} (hb : BagL H b l) (h : TabAt H a R T) (g : TabOk T m n) : ∀ c ∈ a :: R, c ≠ b ∧ c ≠ l := fun c mc => by
  rcases List.mem_cons.mp mc with rfl | mc
  · obtain ⟨ns, i, p, q, e1, e2, _⟩ := hb
    have h1 := h.1
    have l1 : 1 ≤ R.length := by rw [h.2.1, g.h]; exact g.n1
    cases R with
    | nil => simp at l1
    | cons r R =>
      refine ⟨fun e => ?_, fun e => ?_⟩
      · rw [e, e1] at h1
        have := HO.lst.inj (Option.some.inj h1)
        cases R with
        | nil => cases this
        | cons r2 R => cases this
      · rw [e, e2] at h1
        have := HO.lst.inj (Option.some.inj h1)
        cases ns with
        | nil => cases this
        | cons n ns => cases this
  · obtain ⟨j, lj, e⟩ := List.getElem_of_mem mc
    have l2 : j < T.length := by rw [← h.2.1]; exact lj
    refine row_bag hb (h.2.2 j c T[j] (List.getElem?_eq_some_iff.mpr ⟨lj, e⟩) (List.getElem?_eq_getElem l2)) fun e => ?_
    have := g.w _ (List.getElem_mem l2)
    have := g.m1
    rw [e] at *
    simp at *
    omega
/-- a sketch and the law's table of it, and the bag -/
structure LawSt (CS : Addr) (H G : Hp) (b l x a : Addr) (R : List Addr) (t : Addr) (R2 : List Addr) (T T2 : Tab) (m n : Nat) : Prop where
  bag : BagL G b l
  sk : SkAt CS G x a R T m n
  tb : TabAt G t R2 T2
  ok : TabOk T m n
  ok2 : TabOk T2 m n
  fr : ∀ c o, c ≠ b → c ∉ x :: a :: R ++ t :: R2 → H c = some o → G c = some o
section
variable {CS b l x a t : Addr} {R R2 : List Addr} {T T2 : Tab} {m n : Nat} {H G G' : Hp}
theorem nd_parts (nd : (x :: a :: R ++ t :: R2).Nodup) : (x :: a :: R).Nodup ∧ (t :: R2).Nodup ∧ ∀ c ∈ x :: a :: R, c ∉ t :: R2 := by
  rw [List.nodup_append] at nd
  exact ⟨nd.1, nd.2.1, fun c m1 m2 => nd.2.2 c m1 c m2 rfl⟩
theorem LawSt.up (S0 : LawSt CS H G b l x a R t R2 T T2 m n) (s : Same G G') : LawSt CS H G' b l x a R t R2 T T2 m n :=
  ⟨bag_same S0.bag s, S0.sk.up s, S0.tb.up s, S0.ok, S0.ok2, fun c o n1 n2 e => s _ _ (S0.fr c o n1 n2 e)⟩
/-- the bag is drawn from -/
theorem LawSt.draw (S0 : LawSt CS H G b l x a R t R2 T T2 m n) (s : SameBut b G G') (hb : BagL G' b l) : LawSt CS H G' b l x a R t R2 T T2 m n := by
  have n1 := tab_bag S0.bag S0.sk.t S0.ok
  have n2 := tab_bag S0.bag S0.tb S0.ok2
  have nx : x ≠ b := fun e => by
    obtain ⟨dx, ho⟩ := S0.sk.o
    obtain ⟨xs, e2⟩ := bag_b S0.bag
    rw [e, e2] at ho
    cases ho
  exact ⟨hb, S0.sk.keep fun c o mc e => s c o (by rcases List.mem_cons.mp mc with rfl | mc; exact nx; exact (n1 c mc).1) e, S0.tb.keep fun c o mc e => s c o (n2 c mc).1 e, S0.ok, S0.ok2, fun c o h1 h2 e => s c o h1 (S0.fr c o h1 h2 e)⟩
/-- the sketch's row is changed -/
theorem LawSt.putS {i j : Nat} {r : Addr} {row : List (List Nat)} {y : List Nat} (S0 : LawSt CS H G b l x a R t R2 T T2 m n) (nd : (x :: a :: R ++ t :: R2).Nodup) (hr : R[j]? = some r) (hrow : T[j]? = some row) (hy : okW y) (s : SameBut r G G') (e : G' r = some (.lst (rowsV (row.set i y)))) :
    LawSt CS H G' b l x a R t R2 (T.set j (row.set i y)) T2 m n := by
  obtain ⟨nd1, nd2, dj⟩ := nd_parts nd
  have mr : r ∈ a :: R := List.mem_cons_of_mem _ (List.mem_of_getElem? hr)
  have nb := tab_bag S0.bag S0.sk.t S0.ok r mr
  have rx : x ≠ r := fun q => (List.nodup_cons.mp nd1).1 (q ▸ mr)
  obtain ⟨dx, ho⟩ := S0.sk.o
  refine ⟨bag_sb S0.bag s nb, ⟨⟨dx, s _ _ rx ho⟩, S0.sk.t.put (List.nodup_cons.mp nd1).2 hr s e⟩, S0.tb.keep fun c o mc ec => s c o (fun q => dj r (List.mem_cons_of_mem _ mr) (q ▸ mc)) ec, S0.ok.put hrow hy, S0.ok2, fun c o h1 h2 ec => s c o (fun q => h2 (List.mem_append_left _ (q ▸ List.mem_cons_of_mem _ mr))) (S0.fr c o h1 h2 ec)⟩
/-- the table's row is changed -/
theorem LawSt.putT {i j : Nat} {r : Addr} {row : List (List Nat)} {y : List Nat} (S0 : LawSt CS H G b l x a R t R2 T T2 m n) (nd : (x :: a :: R ++ t :: R2).Nodup) (hr : R2[j]? = some r) (hrow : T2[j]? = some row) (hy : okW y) (s : SameBut r G G') (e : G' r = some (.lst (rowsV (row.set i y)))) :
    LawSt CS H G' b l x a R t R2 T (T2.set j (row.set i y)) m n := by
  obtain ⟨nd1, nd2, dj⟩ := nd_parts nd
  have mr : r ∈ t :: R2 := List.mem_cons_of_mem _ (List.mem_of_getElem? hr)
  have nb := tab_bag S0.bag S0.tb S0.ok2 r mr
  refine ⟨bag_sb S0.bag s nb, S0.sk.keep fun c o mc ec => s c o (fun q => dj c mc (q ▸ mr)) ec, S0.tb.put nd2 hr s e, S0.ok, S0.ok2.put hrow hy, fun c o h1 h2 ec => s c o (fun q => h2 (List.mem_append_right _ (q ▸ mr))) (S0.fr c o h1 h2 ec)⟩
end
theorem cells_rep {K : PySem.W.Frag} {F : Hp} {v : V} {M : List Cell} (h : Rep K F v (cellsD M)) : ∃ a us, v = .ref a ∧ F a = some (.lst us) ∧ us.length = M.length ∧ ∀ (k : Nat) (c : Cell), M[k]? = some c → ∃ q, us[k]? = some (.ref q) ∧ F q = some (.tup [.int c.1, .int c.2]) := by
  cases h with
  | @lst a us _ h rr =>
    refine ⟨a, us, rfl, h, by rw [rr.length, List.length_map], fun k c e => ?_⟩
    obtain ⟨u, eu, ru⟩ := rr.at (i := k) (d := cellD c) (by rw [List.getElem?_map, e]; rfl)
    cases ru with
    | @tup q vs _ hq r2 =>
      refine ⟨q, eu, ?_⟩
      cases r2 with
      | cons r3 r4 =>
        cases r3
        cases r4 with
        | cons r5 r6 =>
          cases r5
          cases r6
          exact hq
theorem draw3 {z : List Nat} (h : Pal z) {n : Int} (n0 : 0 ≤ n) (n1 : n < 3) : ∃ c, atI (S z).cps.toList n = some c ∧ 97 ≤ c ∧ c ≤ 122 := by
  obtain ⟨a, b, e, rfl, ha, hb, he⟩ := h
  rw [cpsS]
  have : n = 0 ∨ n = 1 ∨ n = 2 := by omega
  rcases this with rfl | rfl | rfl
  · exact ⟨a, rfl, ha⟩
  · exact ⟨b, rfl, hb⟩
  · exact ⟨e, rfl, he⟩
theorem raw0 {P : Program} {w : World} {K : PySem.W.Frag} {mg : Str → Option Value} {base : Heap} {CXf : CXT} {k : Nat} {f : Addr} {fd : FuncData} {ps : List Str} {sp : Sp} (O : FnOk P w K mg base CXf k f fd ps sp) (b : Binds K fd ps []) : FnR P w K mg base CXf k f sp := by
  have z := O.raw b (.nil : Vals [] [])
  have e : (fun vs H Q E => sp (vs ++ []) H Q E) = sp := by
    funext vs H Q E
    rw [List.append_nil]
  rw [e] at z
  exact z
theorem own_some {CS : Addr} {H : Hp} {x a : Addr} {R : List Addr} {T : Tab} {m n : Nat} (h : SkAt CS H x a R T m n) : ∀ c ∈ x :: a :: R, ∃ o, H c = some o := fun c mc => by
  rcases List.mem_cons.mp mc with rfl | mc
  · obtain ⟨dx, e⟩ := h.o
    exact ⟨_, e⟩
  · rcases List.mem_cons.mp mc with rfl | mR
    · exact ⟨_, h.t.1⟩
    · obtain ⟨j, lj, e⟩ := List.getElem_of_mem mR
      have l2 : j < T.length := by rw [← h.t.2.1]; exact lj
      exact ⟨_, h.t.2.2 j c _ (List.getElem?_eq_some_iff.mpr ⟨lj, e⟩) (List.getElem?_eq_getElem l2)⟩
theorem tab_some {H : Hp} {a : Addr} {R : List Addr} {T : Tab} (h : TabAt H a R T) : ∀ c ∈ a :: R, ∃ o, H c = some o := fun c mc => by
  rcases List.mem_cons.mp mc with rfl | mR
  · exact ⟨_, h.1⟩
  · obtain ⟨j, lj, e⟩ := List.getElem_of_mem mR
    have l2 : j < T.length := by rw [← h.2.1]; exact lj
    exact ⟨_, h.2.2 j c _ (List.getElem?_eq_some_iff.mpr ⟨lj, e⟩) (List.getElem?_eq_getElem l2)⟩
section
variable {CS b l x a t : Addr} {R R2 : List Addr} {T T2 : Tab} {m n : Nat} {H G G' : Hp}
theorem LawSt.base (S0 : LawSt CS H G b l x a R t R2 T T2 m n) : LawSt CS G G b l x a R t R2 T T2 m n := ⟨S0.bag, S0.sk, S0.tb, S0.ok, S0.ok2, fun _ _ _ _ e => e⟩
theorem LawSt.own_bag (S0 : LawSt CS H G b l x a R t R2 T T2 m n) : ∀ c ∈ x :: a :: R ++ t :: R2, c ≠ b := fun c mc => by
  rcases List.mem_append.mp mc with mc | mc
  · rcases List.mem_cons.mp mc with rfl | mc
    · intro e
      obtain ⟨dx, ho⟩ := S0.sk.o
      obtain ⟨xs, e2⟩ := bag_b S0.bag
      rw [e, e2] at ho
      cases ho
    · exact (tab_bag S0.bag S0.sk.t S0.ok c mc).1
  · exact (tab_bag S0.bag S0.tb S0.ok2 c mc).1
/-- another sketch and table, while this one's are changed -/
theorem LawSt.other {x' a' t' : Addr} {R' R2' : List Addr} {T' T2' : Tab} {H0 : Hp} (P0 : LawSt CS H0 G b l x' a' R' t' R2' T' T2' m n) (S0 : LawSt CS G G' b l x a R t R2 T T2 m n) (dj : ∀ c ∈ x' :: a' :: R' ++ t' :: R2', c ∉ x :: a :: R ++ t :: R2) : LawSt CS G' G' b l x' a' R' t' R2' T' T2' m n :=
  ⟨S0.bag, P0.sk.keep fun c o mc e => S0.fr c o (P0.own_bag c (List.mem_append_left _ mc)) (dj c (List.mem_append_left _ mc)) e, P0.tb.keep fun c o mc e => S0.fr c o (P0.own_bag c (List.mem_append_right _ mc)) (dj c (List.mem_append_right _ mc)) e, P0.ok, P0.ok2, fun _ _ _ _ e => e⟩
end
theorem read_star {T : Tab} {m n : Nat} (g : TabOk T m n) : WdsOk (starT T) m n ∧ readT (starT T) = T := by
  refine ⟨⟨by unfold starT; rw [List.length_map]; exact g.h, fun r mr => ?_, g.m1, g.m8, g.n1, g.n8, fun r mr w mw => ?_⟩, ?_⟩
  · obtain ⟨q, mq, rfl⟩ := List.mem_map.mp mr
    rw [List.length_map]
    exact g.w q mq
  · obtain ⟨q, mq, rfl⟩ := List.mem_map.mp mr
    obtain ⟨v, mv, rfl⟩ := List.mem_map.mp mw
    unfold starW
    split
    · exact .inl rfl
    · exact .inr (g.ok q mq v mv).z
  · unfold readT starT
    rw [List.map_map]
    refine (List.map_congr_left fun r mr => ?_).trans (List.map_id T)
    show (r.map starW).map readW = r
    rw [List.map_map]
    refine (List.map_congr_left fun w mw => ?_).trans (List.map_id r)
    have ok := g.ok r mr w mw
    show readW (starW w) = w
    unfold starW
    by_cases e : w = anyL
    · rw [if_pos e, e]
      rfl
    · rw [if_neg e]
      unfold readW
      rw [if_neg, ok.2.2.2.2]
      intro e2
      have := ok.2.2.1 42 (by rw [e2]; exact List.mem_cons_self)
      omega
theorem made_full {H H5 : Hp} {CS x dx a : Addr} {R : List Addr} {m n : Nat} (nx : H x = none) (nd : H dx = none) (ne : dx ≠ x) (s : SameBut x (upd (upd H dx (.own x)) x (.ins CS dx [])) H5) (hx : H5 x = some (skO CS dx m n a)) (tT : TabAt H5 a R (fullT m n)) (nw : NewT (upd (upd H dx (.own x)) x (.ins CS dx [])) a R) : Same H H5 ∧ SkAt CS H5 x a R (fullT m n) m n ∧ NewSk H x a R := by
  have away : ∀ c ∈ a :: R, c ≠ x ∧ H c = none := fun c mc => by
    have e := nw.2 c mc
    have c1 : c ≠ x := fun q => by rw [q, upd_same] at e; cases e
    rw [upd_ne c1] at e
    have c2 : c ≠ dx := fun q => by rw [q, upd_same] at e; cases e
    rw [upd_ne c2] at e
    exact ⟨c1, e⟩
  refine ⟨fun b o e => s b o (ne_of_none e nx) (by rw [upd_ne (ne_of_none e nx), upd_ne (ne_of_none e nd)]; exact e), ⟨⟨dx, hx⟩, tT⟩, List.nodup_cons.mpr ⟨fun mm => (away x mm).1 rfl, nw.1⟩, fun b mb => ?_⟩
  rcases List.mem_cons.mp mb with e | mb
  · rw [e]; exact nx
  · exact (away b mb).2
theorem full_ok {m n : Nat} (m1 : 1 ≤ m) (m8 : m ≤ 8) (n1 : 1 ≤ n) (n8 : n ≤ 8) : TabOk (fullT m n) m n := by
  refine ⟨List.length_replicate, fun r mr => ?_, m1, m8, n1, n8, fun r mr w mw => ?_⟩
  · rw [List.eq_of_mem_replicate mr, List.length_replicate]
  · rw [List.eq_of_mem_replicate mr] at mw
    rw [List.eq_of_mem_replicate mw]
    exact any_ok
end Pm
/-! ### zips over trees; the common signs -/
namespace Tr
open PySem PySem.Spec PyProof.Rows L2 SX
def zipD (ds es : List D) : List D := List.zipWith (fun a b => .tup [a, b]) ds es
theorem reps_of {K : PySem.W.Frag} {F : Hp} : ∀ {vs : List V} {ds : List D}, vs.length = ds.length → (∀ (i : Nat) v d, vs[i]? = some v → ds[i]? = some d → Rep K F v d) → Reps K F vs ds
  | [], [], _, _ => .nil
  | v :: vs, d :: ds, l, h => .cons (h 0 v d rfl rfl) (reps_of (by simpa using l) fun i v' d' e1 e2 => h (i + 1) v' d' (by simpa using e1) (by simpa using e2))
section
variable {X : Cx} {B : Hp × Hp} {Γ : Env} {e e1 e2 : Expr} {p p2 q pos : Pos}
theorem i_zip {tg : Expr} {ds es : List D} (ho : ∀ {t : TA}, PA X [e1, e2] t → PI X tg e (iZip X.K t)) (h : OkA X B [e1, e2] Γ [.lst ds, .lst es]) : OkI X B tg e Γ (zipD ds es) := PI.weak (ho h) fun σ H R ⟨F, w, k⟩ => ⟨F, w, fun vs F1 H1 w1 g1 r1 => by
  cases r1 with
  | cons r1 r2 =>
    cases r2 with
    | cons r2 r3 =>
      cases r3
      cases r1 with
      | @lst a us _ h1 r1 =>
        cases r2 with
        | @lst b ws _ h2 r2 =>
          refine ⟨a, b, us, ws, rfl, tofl (w1.fh _ _ h1), tofl (w1.fh _ _ h2), k _ F1 H1 w1 g1 ⟨_, _, walk_zip (K := X.K) (a := a) (b := b) (xs := us) (ys := ws) (by unfold zipD; rw [List.length_zipWith, r1.length, r2.length]), fun F H s fh => ⟨tofl (fh _ _ (s _ _ h1)), tofl (fh _ _ (s _ _ h2))⟩, fun i F H v H' d s fh hd y => ?_⟩⟩
          obtain ⟨T, x, z, rfl, nT, rfl, hx, hz⟩ := y
          obtain ⟨d1, hd1, rx⟩ := r1.atV hx
          obtain ⟨d2, hd2, rz⟩ := r2.atV hz
          unfold zipD at hd
          rw [List.getElem?_zipWith, hd1, hd2] at hd
          cases hd
          have g := Gr.new (o := .tup [x, z]) fh nT
          exact ⟨_, g, same_both fh, .tup upd_same (.cons ((rx.mono s).mono g.f) (.cons ((rz.mono s).mono g.f) .nil))⟩⟩
theorem zip_old {H : Hp} {S B : Nat} {xs ys : List V} {b : Addr} {o : HO} (nS : H S = none) (nB : ∀ j, H (B + j) = none) (e : H b = some o) : Zp.zipH H S B xs ys b = some o ∧ b ≠ S ∧ ¬ (B ≤ b ∧ b < B + xs.length) := by
  have h1 : b ≠ S := fun q => by rw [q, nS] at e; cases e
  have h2 : ¬ (B ≤ b ∧ b < B + xs.length) := fun ⟨y, _⟩ => by
    obtain ⟨j, hj⟩ := Nat.exists_eq_add_of_le y
    rw [hj, nB j] at e
    cases e
  refine ⟨?_, h1, h2⟩
  unfold Zp.zipH Zp.zipAt
  rw [if_neg h1, if_neg h2, e]
theorem t_listZip {ds es : List D} (ho : ∀ {t : TA}, PA X [e1, e2] t → PE X e (Zp.tListZip X.K t)) (h : OkA X B [e1, e2] Γ [.lst ds, .lst es]) (l : ds.length = es.length) (few : ds.length ≤ 100000) : Ok X B e Γ (.lst (zipD ds es)) := PE.weak (ho h) fun σ H Q ⟨F, w, k⟩ => ⟨F, w, fun vs F1 H1 w1 g1 r1 => by
  cases r1 with
  | cons r1 r2 =>
    cases r2 with
    | cons r2 r3 =>
      cases r3
      cases r1 with
      | @lst a us _ h1 r1 =>
        cases r2 with
        | @lst b ws _ h2 r2 =>
          refine ⟨a, b, us, ws, rfl, tofl (w1.fh _ _ h1), tofl (w1.fh _ _ h2), by rw [r1.length, r2.length, l], by rw [r1.length]; exact few, fun S B nS nB lt => ?_⟩
          have lu : us.length = ds.length := r1.length
          have lw : ws.length = ds.length := by rw [r2.length, l]
          have fS : F1 S = none := w1.fh.free nS
          have fB : ∀ j, F1 (B + j) = none := fun j => w1.fh.free (nB j)
          have sF : Same F1 (Zp.zipH F1 S B us ws) := fun c o ec => (zip_old fS fB ec).1
          have g : Gr F1 H1 (Zp.zipH F1 S B us ws) (Zp.zipH H1 S B us ws) := by
            refine ⟨sF, fun c o ec => (zip_old nS nB ec).1, fun c o ec nn => ?_⟩
            obtain ⟨_, q1, q2⟩ := zip_old (xs := us) (ys := ws) nS nB ec
            unfold Zp.zipH Zp.zipAt
            rw [if_neg q1, if_neg q2, nn]
          have both : Same (Zp.zipH F1 S B us ws) (Zp.zipH H1 S B us ws) := fun c o ec => by
            unfold Zp.zipH Zp.zipAt at ec ⊢
            by_cases q1 : c = S
            · rw [if_pos q1] at ec ⊢; exact ec
            · rw [if_neg q1] at ec ⊢
              by_cases q2 : B ≤ c ∧ c < B + us.length
              · rw [if_pos q2] at ec ⊢; exact ec
              · rw [if_neg q2] at ec ⊢; exact w1.fh _ _ ec
          refine k _ (Zp.zipH F1 S B us ws) _ (w1.gr g both) (g1.trans g) (.lst (a := S) (by unfold Zp.zipH Zp.zipAt; rw [if_pos rfl]) (reps_of ?_ fun i v d hv hd => ?_))
          · unfold zipD
            rw [List.length_map, List.length_range, List.length_zipWith, lu, ← l, Nat.min_self]
          · have hi : i < us.length := by
              have := (List.getElem?_eq_some_iff.mp hv).1
              rwa [List.length_map, List.length_range] at this
            rw [List.getElem?_map, List.getElem?_range hi] at hv
            cases hv
            have hd1 : ds[i]? = some ds[i] := List.getElem?_eq_getElem (by omega)
            have hd2 : es[i]? = some es[i] := List.getElem?_eq_getElem (by omega)
            obtain ⟨u, hu, ru⟩ := r1.at hd1
            obtain ⟨y, hy, ry⟩ := r2.at hd2
            unfold zipD at hd
            rw [List.getElem?_zipWith, hd1, hd2] at hd
            cases hd
            refine .tup (a := B + i) (vs := [u, y]) ?_ (.cons (ru.mono sF) (.cons (ry.mono sF) .nil))
            unfold Zp.zipH Zp.zipAt
            rw [if_neg (Nat.ne_of_gt (Nat.lt_of_lt_of_le lt (Nat.le_add_right B i))), if_pos ⟨Nat.le_add_right B i, Nat.add_lt_add_left hi B⟩]
            have e0 : B + i - B = i := Nat.add_sub_cancel_left B i
            rw [e0, List.getD_eq_getElem?_getD, List.getD_eq_getElem?_getD, hu, hy]
            rfl⟩
end
end Tr
namespace Pm
open PySem PySem.Spec PyProof.Rows L2 SX Tr
/-! the common signs -/
def com (z y : List Nat) : List Nat := z.filter fun c => decide (c ∈ y)
def comT (T U : Tab) : Tab := List.zipWith (List.zipWith com) T U
theorem com_ok {z y : List Nat} (h : okW z) (ne : com z y ≠ []) : okW (com z y) := by
  obtain ⟨h1, h2, h3, h4, h5⟩ := h
  have sub : (com z y).Sublist z := List.filter_sublist
  refine ⟨ne, Nat.le_trans sub.length_le h2, fun c m => h3 c (sub.subset m), sub.nodup h4, ?_⟩
  have := asc_le z
  rw [h5] at this
  exact asc_uniq (List.Perm.refl _) (this.sublist sub)
theorem join_single : ∀ z : List Nat, TL.joinL [] (z.map fun c => [c]) = z
  | [] => rfl
  | [c] => rfl
  | c :: d :: z => by
    show [c] ++ ([] ++ TL.joinL [] ((d :: z).map fun c => [c])) = c :: d :: z
    rw [join_single (d :: z)]
    rfl
def firstC : Nat → List (List Nat) → Option Nat
  | _, [] => none
  | i, w :: r => if w = [] then some i else firstC (i + 1) r
def firstE : Nat → Tab → Option (Nat × Nat)
  | _, [] => none
  | j, r :: T => match firstC 0 r with
    | some i => some (i, j)
    | none => firstE (j + 1) T
section
variable {P : Program} {w : World} {K : PySem.W.Frag} {mg : Str → Option Value} {base : Heap}
def gCom (ds : List D) (d : D) : Prop := ∃ z y, z.length ≤ 1000 ∧ y.length ≤ 1000 ∧ ds = [.tx z, .tx y] ∧ d = .tx (com z y)
abbrev nCom : List Str := ["signs", "others", "sign"]
theorem scCom : FnScope nCom ["signs", "others"] (defScope gCommonSigns) := ⟨rfl, rfl, rfl, by decide +kernel, rfl, by decide +kernel, by decide +kernel⟩
theorem ok_com {f : Addr} {fd : FuncData} (F : Fun K "_common_signs" "_common_signs" gCommonSigns f fd) : FnOk P w K mg base CX0 1 f fd ["signs", "others"] (spG K gCom) := by
  refine F.ok scCom (spG_len fun ds d ⟨_, _, _, _, e, _⟩ => by rw [e]; rfl) (fun cdv A outer s H vs Q E hr h => ?_)
  obtain ⟨ds, d, ⟨z, y, lz, ly, rfl, rfl⟩, h⟩ := h
  obtain ⟨B, tw⟩ := tree_wish (N := nCom) h (by show 2 ≤ 3; decide)
  refine ⟨_, (show OkSs _ B _ [.d (.tx z), .d (.tx y), .no] (.rt (.tx (com z y))) from ?_), tw⟩
  have e1 : D.lst ((z.filter fun c => decide (c ∈ y)).map fun c => D.tx [c]) = .lst (((com z y).map fun c => [c]).map D.tx) := by
    rw [List.map_map]
    rfl
  have lc : (com z y).length ≤ 1000 := Nat.le_trans List.filter_sublist.length_le lz
  exact s_one (s_ret (ok_as (t_bm (fun h g => pe_bm PySem.F.plainAttrs_str PySem.F.slot_str_join PySem.F.type_str_join mt_join h g) (ok_tx (z := []) (by decide +kernel)) (a_cons (ok_as (t_lcIf (vs := [2]) (tt := tElT K z (fun c => [.d (.tx z), .d (.tx y), .d (.tx [c])]) (fun c => decide (c ∈ y))) z (fun c => D.tx [c]) (fun c => [.d (.tx z), .d (.tx y), .d (.tx [c])]) (fun c => decide (c ∈ y)) (fun c => D.tx [c]) (fun h => by exact pe_lc (own := [("sign", 2)]) (g := (gName 2)) rfl scCom.nd h (blkOk_by (own := [("sign", 2)]) (N := nCom) (sc := defScope gCommonSigns) (by decide +kernel)) (fun _ _ _ _ _ => (pg_name (i := 2) scCom.nd rfl (.inl rfl))) (fun _ _ _ _ _ => (pts_one (pt_el fun B c m => (o_op (fun p q => pt_cmpR op_in_sign p q (by rfl)) (ok_var (pv 2) rfl) (ok_var (pv 1) rfl) r2_inS)))) (fun _ _ _ _ _ => (pe_el fun B c m => (ok_var (pv 2) rfl)))) (i_str (ok_var (pv 0) rfl)) (fun B k σ H Q m q => ⟨B, k, m, q⟩) (fun _ _ _ => (b_name (i := 2) (by decide))) (by omega)) e1) a_nil) ty_str (rm_join 1 (fun w mw => by
      obtain ⟨c, _, rfl⟩ := List.mem_map.mp mw
      exact Nat.le_refl 1) (by rw [List.length_map]; show _ * (1 + 0) ≤ _; omega))) (congrArg D.tx (join_single _))))
end
end Pm
/-! ### _check_sizes, first & second -/
namespace Tr
open PySem PySem.Spec PyProof.Rows L2 SX
theorem s_as {X : Cx} {B : Hp × Hp} {s : Stmt} {Γ Γ1 Γ2 : Env} (h : OkS X B s Γ (.nx Γ1)) (e : Γ1 = Γ2) : OkS X B s Γ (.nx Γ2) := e ▸ h
end Tr
namespace Pm
open PySem PySem.Spec PyProof.Rows L2 SX Tr
/-- a class of errors without fields -/
structure Er0 (K : PySem.W.Frag) (mg : Str → Option Value) (CU : Addr) : Prop where
  xU : PySem.W.excIn K CU [.type "ValueError", .type "Exception", .type "BaseException", .type "object"] "ValueError.__new__" = true
  gU : mg "UnequalSize" = some (.ref CU)
  kU : PySem.W.keepIn K (.ref CU) = true
  s1 : PySem.W.subIn K (.ref CU) (.type "BaseException") = some true
  s2 : PySem.W.typeIn K (.ref CU) = some (.type "type")
section
variable {P : Program} {w : World} {K : PySem.W.Frag} {mg : Str → Option Value} {base : Heap} {CS CP CE CU : Addr}
def spSizes (CS CU : Addr) : Sp := fun vs H Q E => ∃ x a R T m n x2 a2 R2 T2 m2 n2, vs = [.ref x, .ref x2] ∧ SkAt CS H x a R T m n ∧ SkAt CS H x2 a2 R2 T2 m2 n2 ∧ (¬ (m = m2 ∧ n = n2) → E (.ref CU) none H) ∧ (m = m2 → n = n2 → Q .non H)
theorem scSizes : FnScope ["sketch", "other"] ["sketch", "other"] (defScope gCheckSizes) := ⟨rfl, rfl, rfl, by decide +kernel, rfl, by decide +kernel, by decide +kernel⟩
theorem ok_sizes {f : Addr} {fd : FuncData} (F : Fun K "_check_sizes" "_check_sizes" gCheckSizes f fd) (T : Kls K mg CS) (U : Er0 K mg CU) : FnOk P w K mg base (L2.CX P w) 1 f fd ["sketch", "other"] (spSizes CS CU) := by
  refine F.okX scSizes (fun vs H Q E h => ?_) (fun cdv A outer s H vs Q E hr h => ?_)
  · obtain ⟨x, a, R, T0, m, n, x2, a2, R2, T2, m2, n2, rfl, _⟩ := h
    rfl
  · obtain ⟨x, a, R, T0, m, n, x2, a2, R2, T2, m2, n2, rfl, hs, hs2, bad, good⟩ := h
    refine ⟨_, pss_one (ps_if (PW.pt (pw_or (pt_cmpR op_ne (pe_fld (pv 0) rfl) (pe_fld (pv 1) rfl) (nomark _)) (pw_or1 (pt_cmpR op_ne (pe_fld (pv 0) rfl) (pe_fld (pv 1) rfl) (nomark _))))) (pss_one (ps_raise rfl (takes_of rfl rfl rfl rfl) (pmk_own0 PySem.F.excBase_ValueError U.xU U.gU U.kU (raises_own U.s1 U.s2) (by rfl)))) pss_nil), ?_⟩
    obtain ⟨dx, h1⟩ := hs.o
    obtain ⟨dy, h3⟩ := hs2.o
    refine ⟨_, rfl, x, CS, dx, _, _, rfl, h1, T.cl, T.nW, rfl, _, rfl, x2, CS, dy, _, _, rfl, h3, T.cl, T.nW, rfl, rfl, _, rfl, ?_⟩
    by_cases en : m = m2
    · refine iteFe (by rw [en]; simp) ?_
      refine ⟨_, rfl, x, CS, dx, _, _, rfl, h1, T.cl, T.nH, rfl, _, rfl, x2, CS, dy, _, _, rfl, h3, T.cl, T.nH, rfl, rfl, _, rfl, ?_⟩
      by_cases el : n = n2
      · exact iteFe (by rw [el]; simp) (good en el)
      · exact iteTe (by simp only [V.int.injEq]; rw [decide_eq_false (by omega)]; rfl) (bad fun z => el z.2)
    · exact iteTe (by simp only [V.int.injEq]; rw [decide_eq_false (by omega)]; rfl) (bad fun z => en z.1)
/-! first & second -/
def spAnd (CS CE CU : Addr) : Sp := fun vs H Q E => ∃ x a R T m n x2 a2 R2 T2 m2 n2, vs = [.ref x, .ref x2] ∧ SkAt CS H x a R T m n ∧ SkAt CS H x2 a2 R2 T2 m2 n2 ∧ TabOk T m n ∧ TabOk T2 m2 n2 ∧ (¬ (m = m2 ∧ n = n2) → E (.ref CU) none H) ∧
  (m = m2 → n = n2 → (∀ i j, firstE 0 (comT T T2) = some (i, j) → ∀ H', Same H H' → Lets E CE [("y", .int (j : Nat)), ("x", .int (i : Nat))] H') ∧ (firstE 0 (comT T T2) = none → ∀ H' y a' R', Same H H' → SkAt CS H' y a' R' (comT T T2) m n → NewSk H y a' R' → Q (.ref y) H'))
abbrev nAnd : List Str := ["self", "other", "pairs", "rows", "y", "row", "x", "signs", "beside", "others"]
theorem scAnd : FnScope nAnd ["self", "other"] (defScope cSketchAnd) := ⟨rfl, rfl, rfl, by decide +kernel, rfl, by decide +kernel, by decide +kernel⟩
theorem ten {σ : L2.St} (h : σ.length = 10) : ∃ y0 y1 y2 y3 y4 y5 y6 y7 y8 y9, σ = [y0, y1, y2, y3, y4, y5, y6, y7, y8, y9] := by
  match σ, h with
  | [y0, y1, y2, y3, y4, y5, y6, y7, y8, y9], _ => exact ⟨y0, y1, y2, y3, y4, y5, y6, y7, y8, y9, rfl⟩
/-- a list of pairs of texts -/
def PrsAt (H : Hp) (r : Addr) (ps : List (List Nat × List Nat)) : Prop := ∃ us : List V, H r = some (.lst us) ∧ us.length = ps.length ∧ ∀ (k : Nat) (z y : List Nat), ps[k]? = some (z, y) → ∃ q : Addr, us[k]? = some (V.ref q) ∧ H q = some (.tup [.str (S z), .str (S y)])
theorem PrsAt.up {H H' : Hp} {r : Addr} {ps : List (List Nat × List Nat)} (h : PrsAt H r ps) (s : Same H H') : PrsAt H' r ps := by
  obtain ⟨us, h1, h2, h3⟩ := h
  exact ⟨us, s _ _ h1, h2, fun k z y e => by
    obtain ⟨q, e1, e2⟩ := h3 k z y e
    exact ⟨q, e1, s _ _ e2⟩⟩
theorem rep_prs {K : PySem.W.Frag} {F : Hp} {v : V} {r s : List (List Nat)} (h : Rep K F v (.lst (zipD (r.map D.tx) (s.map D.tx)))) : ∃ p, v = .ref p ∧ PrsAt F p (r.zip s) := by
  cases h with
  | @lst a us _ h rr =>
    refine ⟨a, rfl, us, h, by rw [rr.length]; unfold zipD; simp, fun k z y e => ?_⟩
    have e2 : (zipD (r.map D.tx) (s.map D.tx))[k]? = some (.tup [.tx z, .tx y]) := by
      unfold zipD
      rw [List.getElem?_zip_eq_some] at e
      rw [List.getElem?_zipWith, List.getElem?_map, List.getElem?_map, e.1, e.2]
      rfl
    obtain ⟨u, eu, ru⟩ := rr.at e2
    cases ru with
    | @tup q vs _ hq r2 =>
      cases r2 with
      | cons r3 r4 =>
        cases r3
        cases r4 with
        | cons r5 r6 =>
          cases r5
          cases r6
          exact ⟨q, eu, hq⟩
theorem rep_all {K : PySem.W.Frag} {F : Hp} {v : V} {ps : List (List (List Nat) × List (List Nat))} (h : Rep K F v (.lst (ps.map fun p => .lst (zipD (p.1.map D.tx) (p.2.map D.tx))))) : ∃ (a : Addr) (us : List V), v = .ref a ∧ F a = some (.lst us) ∧ us.length = ps.length ∧ ∀ (k : Nat) p, ps[k]? = some p → ∃ r, us[k]? = some (V.ref r) ∧ PrsAt F r (p.1.zip p.2) := by
  cases h with
  | @lst a us _ h rr =>
    refine ⟨a, us, rfl, h, by rw [rr.length, List.length_map], fun k p e => ?_⟩
    obtain ⟨u, eu, ru⟩ := rr.at (i := k) (by rw [List.getElem?_map, e]; rfl)
    obtain ⟨r, rfl, hr⟩ := rep_prs ru
    exact ⟨r, eu, hr⟩
theorem rep_sk {K : PySem.W.Frag} {F : Hp} {v : V} {CS : Addr} {T : Tab} {m n : Nat} (h : Rep K F v (skD CS T m n)) : ∃ x dx vr, v = .ref x ∧ F x = some (.ins CS dx [("width", .int m), ("height", .int n), ("_rows", vr)]) := by
  cases h with
  | obj e r =>
    cases r with
    | cons r1 r =>
      cases r1
      cases r with
      | cons r2 r =>
        cases r2
        cases r with
        | cons r3 r =>
          cases r
          exact ⟨_, _, _, rfl, e⟩
def tComRow (i : Nat) : TE := fun σ H Q => ∃ r ps, σ[i]? = some (some (.ref r)) ∧ PrsAt H r ps ∧ ps.length ≤ 8 ∧ (∀ p ∈ ps, p.1.length ≤ 1000 ∧ p.2.length ≤ 1000) ∧ σ.length = 10 ∧ ∀ H' p, Same H H' → H p = none → H' p = some (.lst (rowsV (ps.map fun q => com q.1 q.2))) → Q (.ref p) H'
theorem comT_len {T U : Tab} {m n : Nat} (g : TabOk T m n) (g2 : TabOk U m n) : (comT T U).length = n ∧ ∀ r ∈ comT T U, r.length = m := by
  refine ⟨by unfold comT; rw [List.length_zipWith, g.h, g2.h, Nat.min_self], fun r mr => ?_⟩
  unfold comT at mr
  obtain ⟨k, hk, e⟩ := List.getElem_of_mem mr
  rw [List.getElem_zipWith] at e
  rw [← e, List.length_zipWith, g.w _ (List.getElem_mem _), g2.w _ (List.getElem_mem _), Nat.min_self]
theorem ok_and {f fI a1 a2 ee : Addr} {fd dI b1 b2 de : FuncData} {ds : List Value} (F : Fun K "__and__" "Sketch.__and__" cSketchAnd f fd) (L : LTxt K mg) (hz : mg "zip" = none) (he : mg "enumerate" = none) (T : Kls K mg CS) (M : MkS P w K mg base CS fI dI ds)
    (cZ : Cl P w K mg base (L2.CX P w) 1 "_check_sizes" ["sketch", "other"] (spSizes CS CU) a1 b1) (cC : Cl P w K mg base CX0 1 "_common_signs" ["signs", "others"] (spG K gCom) a2 b2) (xe : EMk P w K mg base CE "EmptyCell" ["self", "x", "y"] (spE2 CE) ee de) : FnOk P w K mg base (L2.CX P w) 3 f fd ["self", "other"] (spAnd CS CE CU) := by
  refine F.okX scAnd (fun vs H Q E h => ?_) (fun cdv A outer s H vs Q E hr h => ?_)
  · obtain ⟨x, a, R, T0, m, n, x2, a2, R2, T2, m2, n2, rfl, _⟩ := h
    rfl
  obtain ⟨x, a, R, T0, m, n, x2, a2, R2, T2, m2, n2, rfl, hs, hs2, g, g2, bad, good⟩ := h
  have hr1 : Room 1 _ := hr.mono (by decide)
  have hr2 : Room 2 _ := hr.mono (by decide)
  refine ⟨_, pss_cons (ps_expr (pe_callS (E := fun _ => E) cZ.ok hr1 (by rfl) cZ.gl cZ.kp cZ.bd (fun σ pins H s e s' I c => passes_call (takes_of rfl rfl rfl rfl) (fun _ _ _ _ z => z) pins σ H s e s' I c) (pa_cons (pv 0) (pa_cons (pv 1) pa_nil))))
    (PSs.when (p := m = m2 ∧ n = n2) fun en => (s_consTo (B := (H, H)) (Γ := [.d (skD CS T0 m n), .d (skD CS T2 m2 n2), .no, .no, .no, .no, .no, .no, .no, .no]) (Γ1 := [.d (skD CS T0 m n), .d (skD CS T2 m2 n2), .d (.lst ((T0.zip T2).map fun p => .lst (zipD (p.1.map D.tx) (p.2.map D.tx)))), .no, .no, .no, .no, .no, .no, .no])
      (s_setLc (i := 2) (vs := [5, 8]) (T0.zip T2) (fun p => .tup [.lst (p.1.map D.tx), .lst (p.2.map D.tx)]) (fun p => [.d (skD CS T0 m n), .d (skD CS T2 m2 n2), .no, .no, .no, .d (.lst (p.1.map D.tx)), .no, .no, .d (.lst (p.2.map D.tx)), .no]) (fun p => .lst (zipD (p.1.map D.tx) (p.2.map D.tx))) (fun h => by exact ps_setLc (i := 2) (own := [("row", 5), ("beside", 8)]) (g := gTup K 2 (gCons (gName 5) (gCons (gName 8) gNil))) (tt := tYes) rfl scAnd.nd rfl rfl (sw_true rfl rfl rfl (by decide +kernel)) h (blkOk_by (own := [("row", 5), ("beside", 8)]) (N := nAnd) (sc := defScope cSketchAnd) (by decide +kernel)) (fun _ _ _ _ _ => (pg_tup rfl (pgs_cons (pg_name (i := 5) scAnd.nd rfl (.inl rfl)) (pgs_cons (pg_name (i := 8) scAnd.nd rfl (.inl rfl)) pgs_nil)))) (fun _ _ _ _ _ => pts_nil) (fun _ _ _ _ _ => (pe_el fun B p mp => (t_listZip (fun h => Zp.pe_listZip (by rfl) L.lst (by rfl) hz h) (a_cons (ok_var (pv 5) rfl) (a_cons (ok_var (pv 8) rfl) a_nil)) (by
          have q := List.of_mem_zip mp
          rw [List.length_map, List.length_map, g.w _ q.1, g2.w _ q.2, en.1]) (by
          have q := List.of_mem_zip mp
          have := g.m8
          rw [List.length_map, g.w _ q.1]
          omega)))))
        (i_as (i_zip (fun h => pi_zip (by rfl) hz h) (a_cons (t_fld (ok_var (pv 0) rfl) T.cl T.nR rfl rfl) (a_cons (t_fld (ok_var (pv 1) rfl) T.cl T.nR rfl rfl) a_nil))) (by
          unfold zipD
          rw [List.zipWith_map, List.zip, List.map_zipWith])) (fun _ _ _ => (b_tup (b_cons (b_name (i := 5) (by decide)) (b_cons (b_name (i := 8) (by decide)) b_nil)))) (by
          have := g.n8
          have := g.h
          rw [List.length_zip]
          omega))
    (pss_cons (ps_setLc (i := 3) (own := [("row", 5)]) (g := (gName 5)) (tt := tYes) (te := tComRow 5) rfl scAnd.nd rfl rfl (sw_true rfl rfl rfl (by decide +kernel)) (pi_list (pv 2)) (blkOk_by (own := [("row", 5)]) (N := nAnd) (sc := defScope cSketchAnd) (by decide +kernel)) (fun _ _ _ _ _ => (pg_name (i := 5) scAnd.nd rfl (.inl rfl))) (fun _ _ _ _ _ => pts_nil) (fun _ _ _ _ _ => ?_))
    (pss_cons (ps_for (passes_of rfl) rfl (pi_enum (by rfl) he (pa_cons (pv 3) pa_nil)) (pg_tup rfl (pgs_cons (pg_name (i := 4) scAnd.nd rfl (.inl rfl)) (pgs_cons (pg_name (i := 5) scAnd.nd rfl (.inl rfl)) pgs_nil)))
      (pss_one (ps_for (passes_of rfl) rfl (pi_enum (by rfl) he (pa_cons (pv 5) pa_nil)) (pg_tup rfl (pgs_cons (pg_name (i := 6) scAnd.nd rfl (.inl rfl)) (pgs_cons (pg_name (i := 7) scAnd.nd rfl (.inl rfl)) pgs_nil)))
        (pss_one (ps_if (pt_cmpR op_eq (pv 7) pe_str (nomark _)) (pss_one (ps_raise rfl (takes_of rfl rfl rfl rfl) (pmk_oex xe.T xe.at_ xe.ty xe.ok hr2 xe.bd .nil pass0 (by rfl) xe.gl (pa_cons (pv 6) (pa_cons (pv 4) pa_nil))))) pss_nil)))))
    (pss_one (ps_ret (pe_makeN (n := 2) M.mkk M.OI hr2 (by rfl) T.gS M.kb pass0 (pa_cons (pe_fld (pv 0) rfl) (pa_cons (pe_fld (pv 0) rfl) pa_nil)) (pk_cons (pv 3) pk_nil)))))))), ?_⟩
  · refine PE.weak (pe_lc (own := [("signs", 7), ("others", 9)]) (g := gTup K 2 (gCons (gName 7) (gCons (gName 9) gNil))) (tt := tYes) rfl scAnd.nd (pi_list (pv 5)) (blkOk_by (own := [("signs", 7), ("others", 9)]) (N := nAnd) (sc := cutScope [(".0", .local), ("row", .local)]) (by decide +kernel)) (fun _ _ _ _ _ => (pg_tup rfl (pgs_cons (pg_name (i := 7) scAnd.nd rfl (.inl rfl)) (pgs_cons (pg_name (i := 9) scAnd.nd rfl (.inl rfl)) pgs_nil)))) (fun _ _ _ _ _ => pts_nil) (fun _ _ _ _ _ => pe_call cC.ok hr1 (by rfl) cC.gl cC.kp cC.bd .nil pass0 (pa_cons (pv 7) (pa_cons (pv 9) pa_nil)))) (fun σ H Q ⟨r, ps, e, hp, l8, small, l10, q⟩ => ?_)
    obtain ⟨y0, y1, y2, y3, y4, y5, y6, y7, y8, y9, rfl⟩ := ten l10
    obtain ⟨us, hu, lu, each⟩ := id hp
    refine ⟨_, e, r, rfl, ⟨_, SqL.of hu⟩, fun D nD => ?_⟩
    refine lc_list (xs := us) (fun i G => Same H G ∧ G D = some (.lst (rowsV ((ps.take i).map fun q => com q.1 q.2)))) ⟨sup nD, upd_same⟩ (fun i G hi pv => SqL.of (pv.1 _ _ hu)) (fun i v G hv pv => ?_) (fun G pv => ?_)
    · have li : i < ps.length := by
        have := (List.getElem?_eq_some_iff.mp hv).1
        omega
      obtain ⟨t, et, ht⟩ := each i ps[i].1 ps[i].2 (List.getElem?_eq_getElem li)
      rw [hv] at et
      cases et
      obtain ⟨s1, s2⟩ := small _ (List.getElem_mem li)
      refine ⟨t, [.str (S ps[i].1), .str (S ps[i].2)], rfl, SqT.of (pv.1 _ _ ht), rfl, _, _, rfl, _, _, rfl, rfl, rfl, tyes (iteT ?_)⟩
      refine ⟨_, rfl, _, rfl, [.tx ps[i].1, .tx ps[i].2], .tx (com ps[i].1 ps[i].2), ⟨_, _, s1, s2, rfl, rfl⟩, G, Same.refl G, .cons (.str _) (.cons (.str _) .nil), fun v F1 G1 g1 f1 r1 => ?_⟩
      cases r1
      refine ⟨_, g1.h _ _ pv.2, ?_, fun b o eb => ?_, ?_⟩
      · rw [rowsV_len, List.length_map, List.length_take]
        exact Nat.lt_of_le_of_lt (Nat.min_le_left _ _) (Nat.lt_of_lt_of_le (Nat.lt_of_lt_of_le li l8) (by decide))
      · rw [upd_ne (ne_of_none eb nD)]
        exact g1.h _ _ (pv.1 _ _ eb)
      · rw [upd_same, List.take_succ_eq_append_getElem li, List.map_append]
        unfold rowsV
        rw [List.map_append]
        rfl
    · refine q _ D pv.1 nD ?_
      rw [pv.2, lu, List.take_length]
  · obtain ⟨dx, ho⟩ := hs.o
    refine ⟨_, rfl, _, rfl, x, a, R, T0, m, n, x2, a2, R2, T2, m2, n2, rfl, hs, hs2, bad, fun e1 e2 => ⟨⟨e1, e2⟩, ?_⟩⟩
    obtain ⟨goodE, goodN⟩ := good e1 e2
    subst e1 e2
    refine ⟨H, wd_start (Same.refl H) (.cons hs.rep (.cons hs2.rep .nil)) (by show 2 ≤ 10; decide), fun σ2 F2 H2 w2 => ?_⟩
    obtain ⟨v0, z0, r0⟩ := w2.slot (i := 0) rfl
    obtain ⟨v1, z1, r1⟩ := w2.slot (i := 1) rfl
    obtain ⟨v2, z2, r2⟩ := w2.slot (i := 2) rfl
    obtain ⟨pa, us, rfl, hpa, lus, each⟩ := rep_all r2
    obtain ⟨y0, y1, y2, y3, y4, y5, y6, y7, y8, y9, rfl⟩ := ten w2.len
    cases z0
    cases z1
    cases z2
    obtain ⟨x0, dx0, vr, rfl, hx0⟩ := rep_sk r0
    have hx2 := w2.fh _ _ hx0
    have hpa2 := w2.fh _ _ hpa
    have sH2 : Same H H2 := w2.hh
    clear r1 r0 r2 hx0 hpa hs hs2 ho
    obtain ⟨lCT, wCT⟩ := comT_len g g2
    refine ⟨_, rfl, pa, rfl, ⟨_, SqL.of hpa2⟩, fun D nD => ?_⟩
    have gh := g.h
    have n8 := g.n8
    refine lc_list (xs := us) (PvT H2 D (comT T0 T2)) (pvT0 nD) (fun i G hi pv => SqL.of (pv.choose_spec.2.1 _ _ hpa2)) (fun i v G hv pv => ?_) (fun G pv => ?_)
    · have li0 : i < (T0.zip T2).length := by
        have := (List.getElem?_eq_some_iff.mp hv).1
        omega
      have li1 : i < T0.length := by rw [List.length_zip] at li0; omega
      have li2 : i < T2.length := by rw [List.length_zip] at li0; omega
      have hzp : (T0.zip T2)[i]? = some (T0[i], T2[i]) := by
        rw [List.getElem?_zip_eq_some]
        exact ⟨List.getElem?_eq_getElem li1, List.getElem?_eq_getElem li2⟩
      obtain ⟨r, er, hr⟩ := each i _ hzp
      rw [hv] at er
      cases er
      have hct : (comT T0 T2)[i]? = some (List.zipWith com T0[i] T2[i]) := by
        unfold comT
        rw [List.getElem?_zipWith, List.getElem?_eq_getElem li1, List.getElem?_eq_getElem li2]
      have sG : Same H2 G := pv.choose_spec.2.1
      have w0 := g.w _ (List.getElem_mem li1)
      have w2' := g2.w _ (List.getElem_mem li2)
      have m8 := g.m8
      refine ⟨rfl, tyes (iteT ⟨r, T0[i].zip T2[i], rfl, (hr.up w2.fh).up sG, by rw [List.length_zip]; omega, fun p mp => ?_, rfl, fun G' p sG np hp => ?_⟩)⟩
      · obtain ⟨m1, m2⟩ := List.of_mem_zip mp
        have q1 := (g.ok _ (List.getElem_mem li1) _ m1).2.1
        have q2 := (g2.ok _ (List.getElem_mem li2) _ m2).2.1
        omega
      · refine pvTS pv (by omega) hct sG np ?_
        rw [hp]
        unfold rowsV
        rw [List.zip, List.map_zipWith]
    · have lus2 : us.length = (comT T0 T2).length := by
        rw [lus, List.length_zip, lCT, g.h, g2.h, Nat.min_self]
      rw [lus2] at pv
      obtain ⟨R', tT, nw, s0⟩ := pvTD pv
      clear pv each
      generalize hCT : comT T0 T2 = CT at *
      refine ⟨_, rfl, D, _, rfl, SqL.of tT.1, for_it (walk_enum (xs := R'.map V.ref)) (fun j σ G1 => ∃ y4 y5 y6 y7, σ = [some (.ref x0), some v1, some (.ref pa), some (.ref D), y4, y5, y6, y7, y8, y9] ∧ Same G G1 ∧ firstE 0 CT = firstE j (CT.drop j)) ⟨_, _, _, _, rfl, Same.refl G, rfl⟩ (fun j σ G1 hj ⟨_, _, _, _, _, sG, _⟩ => SqL.of (sG _ _ tT.1)) ?_ ?_⟩
      · rintro j v σ G1 G2 hj ⟨y4', y5', y6', y7', rfl, sG, ef⟩ ⟨q, u1, u2, rfl, nq, rfl, e1, e2⟩
        cases e1
        have lj : j < CT.length := by
          rw [List.length_map, tT.2.1] at hj
          exact hj
        have ljR : j < R'.length := by rw [tT.2.1]; exact lj
        have hrow : CT[j]? = some CT[j] := List.getElem?_eq_getElem lj
        have hrj : R'[j]? = some R'[j] := List.getElem?_eq_getElem ljR
        have e2 : (R'.map V.ref)[j]? = some u2 := e2
        rw [List.getElem?_map, hrj] at e2
        cases e2
        have sG2 : Same G (upd G1 q (.tup [.int (j : Nat), .ref R'[j]])) := sG.trans (same_upd nq)
        have hRow := tT.2.2 j _ _ hrj hrow
        refine ⟨q, [.int (j : Nat), .ref R'[j]], rfl, SqT.of upd_same, rfl, _, _, rfl, _, _, rfl, rfl, ?_⟩
        refine ⟨_, rfl, R'[j], _, rfl, SqL.of (sG2 _ _ hRow), for_it (walk_enum (xs := rowsV CT[j])) (fun i σ G3 => ∃ y6 y7, σ = [some (.ref x0), some v1, some (.ref pa), some (.ref D), some (.int (j : Nat)), some (.ref R'[j]), y6, y7, y8, y9] ∧ Same G G3 ∧ firstC 0 CT[j] = firstC i (CT[j].drop i)) ⟨_, _, rfl, sG2, rfl⟩ (fun i σ G3 hi ⟨_, _, _, sG3, _⟩ => SqL.of (sG3 _ _ hRow)) ?_ ?_⟩
        · rintro i v σ G3 G4 hi ⟨y6', y7', rfl, sG3, ec⟩ ⟨q2, u1, u2, rfl, nq2, rfl, e1, e2⟩
          cases e1
          rw [rowsV_len] at hi
          have e2 : (rowsV CT[j])[i]? = some u2 := e2
          unfold rowsV at e2
          rw [List.getElem?_map, List.getElem?_eq_getElem hi] at e2
          cases e2
          have sG4 : Same G (upd G3 q2 (.tup [.int (i : Nat), .str (S CT[j][i])])) := sG3.trans (same_upd nq2)
          refine ⟨q2, [.int (i : Nat), .str (S CT[j][i])], rfl, SqT.of upd_same, rfl, _, _, rfl, _, _, rfl, rfl, ?_⟩
          refine ⟨_, rfl, rfl, _, rfl, ?_⟩
          rw [List.drop_eq_getElem_cons hi] at ec
          have emp : ("" : Str) = S [] := by decide +kernel
          by_cases ew : CT[j][i] = []
          · rw [ew] at ec
            have fc : firstC 0 CT[j] = some i := ec
            have fe : firstE 0 CT = some (i, j) := by
              rw [ef, List.drop_eq_getElem_cons lj]
              unfold firstE
              rw [fc]
            refine iteTe (decide_eq_true (by rw [ew, emp])) ⟨_, rfl, _, rfl, by show 2 ≤ 1000; decide, fun b nb => ⟨b, _, _, rfl, upd_same, fun H5 d h3 h4 nd ne sb => ⟨rfl, d, _, h3, h4, ?_, ?_⟩⟩⟩
            · rwa [upd_ne ne] at nd
            · exact goodE i j fe _ ((sH2.trans s0).trans sG4) d _ (by rwa [upd_ne ne] at nd) upd_same (on_way nb nd ne sb)
          · refine iteFe (decide_eq_false fun q => ew ?_) ⟨_, _, rfl, sG4, ?_⟩
            · rw [emp] at q
              exact S_inj (V.str.inj q)
            · rw [ec]
              show (if CT[j][i] = [] then _ else _) = _
              rw [if_neg ew]
        · rintro σ G3 ⟨y6', y7', rfl, sG3, ec⟩
          refine ⟨_, _, _, _, rfl, sG3, ?_⟩
          rw [rowsV_len, List.drop_length] at ec
          have fc : firstC 0 CT[j] = none := ec
          rw [ef, List.drop_eq_getElem_cons lj]
          show (match firstC 0 CT[j] with | some i => some (i, j) | none => firstE (j + 1) (CT.drop (j + 1))) = _
          rw [fc]
      · rintro σ G1 ⟨y4', y5', y6', y7', rfl, sG, ef⟩
        have fe : firstE 0 CT = none := by
          rw [ef, List.length_map, tT.2.1, List.drop_length]
          rfl
        have hx3 := sG _ _ (s0 _ _ hx2)
        refine ⟨_, rfl, x0, CS, dx0, _, _, rfl, hx3, T.cl, T.nW, rfl, _, rfl, x0, CS, dx0, _, _, rfl, hx3, T.cl, T.nH, rfl, _, rfl, rfl, rfl, fun y dy ny ndy ne => ⟨y, dy, m, n, _, rfl, upd_same, g.m1, g.m8, g.n1, g.n8, .inr ⟨D, rfl, fun H' s' hx' => ⟨rfl, ?_⟩⟩⟩⟩
        obtain ⟨q1, q2, q3⟩ := made_new (s0.trans sG) (tT.up sG) nw ny ndy ne s' hx'
        exact goodN fe _ y D R' (sH2.trans q1) q2 ⟨q3.1, fun b mb => sH2.free (q3.2 b mb)⟩
end
end Pm
/-! ### _law_met, _law_due -/
namespace Tr
open PySem PySem.Spec PyProof.Rows L2 SX
section
variable {X : Cx} {B : Hp × Hp} {Γ : Env} {s : Stmt} {i : Nat}
/-- name = [.. if ..] -/
theorem s_setLcIf {α : Type} {g : TG} {vs : List Nat} {tt : TT} {it tg : Expr} (ks : List α) (enc : α → D) (bound : α → Env) (p : α → Bool) (f : α → D)
    (ho : ∀ {wi : TI}, PI X tg it wi → PS X s (tAsg (tLc wi g tt (tEl X.K (ks.filter p) bound f) vs) (gName i))) (hi : OkI X B tg it Γ (ks.map enc))
    (ht : ∀ (B : Hp × Hp) k σ H Q, k ∈ ks → tEvT X.K B (bound k) (p k) σ H Q → tt σ H Q)
    (hg : ∀ (B : Hp × Hp) k, k ∈ ks → BindG X.K B vs g (wiped Γ vs) (enc k) (bound k)) (few : ks.length ≤ 90000) : OkS X B s Γ (.nx (Γ.set i (.d (.lst ((ks.filter p).map f))))) :=
  PS.weak (ho hi) fun D σ H ⟨F, w, k⟩ => lc_read (K := X.K) (B := B) (Γ := Γ) (g := g) (vs := vs) (tt := tt) ks enc bound p f ht hg few σ H (fun x H1 => gName i x σ H1 D.nx) ⟨F, w, fun v F' H' w' g r => k _ F' H' (w'.set r)⟩
end
end Tr
namespace Pm
open PySem PySem.Spec PyProof.Rows L2 SX Tr
def emptyL : List Nat := [101, 109, 112, 116, 121]
def sizeL : List Nat := [115, 105, 122, 101]
theorem emptyw_S : ("empty" : Str) = S emptyL := by decide +kernel
theorem sizew_S : ("size" : Str) = S sizeL := by decide +kernel
def emptyD (i j : Nat) : D := .tup [.tx emptyL, .int (i : Nat), .int (j : Nat), .bl true]
def sizeD : D := .tup [.tx sizeL, .bl true]
def dueC (T U : Tab) : D := match firstE 0 (comT T U) with
  | some (i, j) => emptyD i j
  | none => .tx (tabT (starT (comT T U)))
def dueD (m n m2 n2 : Nat) (T U : Tab) : D := if m = m2 ∧ n = n2 then dueC T U else sizeD
theorem firstC_none : ∀ (r : List (List Nat)) (i : Nat), firstC i r = none → ∀ w ∈ r, w ≠ []
  | [], _, _, _, m => nomatch m
  | w :: r, i, h, v, m => by
    unfold firstC at h
    by_cases e : w = []
    · rw [if_pos e] at h; cases h
    · rw [if_neg e] at h
      rcases List.mem_cons.mp m with rfl | m
      · exact e
      · exact firstC_none r (i + 1) h v m
theorem firstE_none : ∀ (T : Tab) (j : Nat), firstE j T = none → ∀ r ∈ T, ∀ w ∈ r, w ≠ []
  | [], _, _, _, m => nomatch m
  | r :: T, j, h, q, m => by
    unfold firstE at h
    cases e : firstC 0 r with
    | some i => rw [e] at h; cases h
    | none =>
      rw [e] at h
      rcases List.mem_cons.mp m with rfl | m
      · exact firstC_none _ 0 e
      · exact firstE_none T (j + 1) h q m
theorem comT_mem {T U : Tab} {r : List (List Nat)} {w : List Nat} (mr : r ∈ comT T U) (mw : w ∈ r) : ∃ q ∈ T, ∃ p ∈ U, ∃ z ∈ q, ∃ y ∈ p, w = com z y := by
  unfold comT at mr
  obtain ⟨k, hk, e⟩ := List.getElem_of_mem mr
  rw [List.getElem_zipWith] at e
  rw [← e] at mw
  obtain ⟨l, hl, e2⟩ := List.getElem_of_mem mw
  rw [List.getElem_zipWith] at e2
  exact ⟨_, List.getElem_mem _, _, List.getElem_mem _, _, List.getElem_mem _, _, List.getElem_mem _, e2.symm⟩
theorem comT_ok {T U : Tab} {m n : Nat} (g : TabOk T m n) (g2 : TabOk U m n) (h : firstE 0 (comT T U) = none) : TabOk (comT T U) m n := by
  obtain ⟨l1, l2⟩ := comT_len g g2
  refine ⟨l1, l2, g.m1, g.m8, g.n1, g.n8, fun r mr w mw => ?_⟩
  have ne := firstE_none _ 0 h r mr w mw
  obtain ⟨q, mq, p, mp, z, mz, y, my, rfl⟩ := comT_mem mr mw
  exact com_ok (g.ok q mq z mz) ne
/-- the classes of the errors -/
structure CTm (K : PySem.W.Frag) (mg : Str → Option Value) (CY CU CE : Addr) : Prop where
  gY : mg "EmptyCell" = some (.ref CY)
  gU : mg "UnequalSize" = some (.ref CU)
  gE : mg "SmaltiError" = some (.ref CE)
  erY : ErrC K CY
  erU : ErrC K CU
  nX : PySem.W.findIn K (.ref CY) "x" = some none
  nY : PySem.W.findIn K (.ref CY) "y" = some none
  teY : PySem.W.exmOne K (.ref CY) (.ref CY) = some true
  teU : PySem.W.exmOne K (.ref CU) (.ref CU) = some true
  teUY : PySem.W.exmOne K (.ref CU) (.ref CY) = some false
  kY : PySem.W.kitOne K (.ref CY) (.ref CE) = some true
  kU : PySem.W.kitOne K (.ref CU) (.ref CE) = some true
section
variable {P : Program} {w : World} {K : PySem.W.Frag} {mg : Str → Option Value} {base : Heap} {CS CY CU CE : Addr}
def spMet (K : PySem.W.Frag) (CS : Addr) : Sp := fun vs H Q _ => ∃ x a R T m n x2 a2 R2 T2 m2 n2, vs = [.ref x, .ref x2] ∧ SkAt CS H x a R T m n ∧ SkAt CS H x2 a2 R2 T2 m2 n2 ∧ TabOk T m n ∧ TabOk T2 m2 n2 ∧ ∀ v H', Same H H' → Rep K H' v (dueD m n m2 n2 T T2) → Q v H'
abbrev nMet : List Str := ["_law_first", "_law_second", "e"]
theorem scMet : FnScope nMet ["_law_first", "_law_second"] (defScope lMet) := ⟨rfl, rfl, rfl, by decide +kernel, rfl, by decide +kernel, by decide +kernel⟩
def tsEmp (K : PySem.W.Frag) (CE : Addr) : Addr → Value → Option Addr → TS := fun a cls d => tRet (tTup (tCons (tC (.str "empty")) (tCons (tErrX K a cls d "x" (tVar 2)) (tCons (tErrX K a cls d "y" (tVar 2)) (tCons (tCB (rIsX K a cls d) (tCons (tVar 2) (tCons (tC (.ref CE)) tNil))) tNil)))))
def tsSiz (K : PySem.W.Frag) (CE : Addr) : Addr → Value → Option Addr → TS := fun a cls d => tRet (tTup (tCons (tC (.str "size")) (tCons (tCB (rIsX0 K a cls d) (tCons (tVar 2) (tCons (tC (.ref CE)) tNil))) tNil)))
theorem ok_met {f fA fT : Addr} {fd dA dT : FuncData} (F : Fun K "_law_met" "_law_met" lMet f fd) (L : LTxt K mg) (T : Kls K mg CS) (C : CTm K mg CY CU CE) (OA : FnOk P w K mg base (L2.CX P w) 3 fA dA ["self", "other"] (spAnd CS CY CU)) (mA : OwnM K CS "__and__" fA) (bA : Binds K dA ["self", "other"] []) (sf : PySem.W.selfFirst K CS = true)
    (OT : FnOk P w K mg base CX0 1 fT dT ["self"] (spG K (gSkText CS))) (mT : Meth K CS "text" fT) (bT : Binds K dT ["self"] []) : FnOk P w K mg base CX0 5 f fd ["_law_first", "_law_second"] (spMet K CS) := by
  refine F.ok scMet (fun vs H Q E h => ?_) (fun cdv A outer s H vs Q E hr h => ?_)
  · obtain ⟨x, a, R, T0, m, n, x2, a2, R2, T2, m2, n2, rfl, _⟩ := h
    rfl
  obtain ⟨x, a, R, T0, m, n, x2, a2, R2, T2, m2, n2, rfl, hs, hs2, g, g2, k⟩ := h
  have hr1 : Room 1 _ := hr.mono (by decide)
  have hr3 : Room 3 _ := hr.mono (by decide)
  refine ⟨_, pss_one (ps_try_clauses (i := 2) (n := "e") (l := [(.ref CY, tsEmp K CE), (.ref CU, tsSiz K CE)]) (tb := fun W => tRet (tMeth CS "text" (spG K (gSkText CS)) [] E0 (tBand CS (spAnd CS CY CU) (WE W) (tVar 0) (tVar 1)) tNil)) (Wout := fun _ _ _ _ => False) rfl rfl scMet.nd rfl rfl takes0
      (fun W pn xe tk _ => pss_one (ps_ret (by exact pe_meth0 (by exact pe_band (E := WE W) OA hr3 bA (fun σ => passAt tk σ) sf mA (pv 0) (pv 1)) T.cl mT OT hr1 bT .nil pass0)))
      (.cons ⟨rfl, by decide, .inl C.gY⟩ (fun a oe cls d pn hz hf => pss_one (ps_ret (by exact pe_tup (pa_cons pe_str (pa_cons (pe_errX hz hf (pv 2)) (pa_cons (pe_errX hz hf (pv 2)) (pa_cons (pe_callB (call_isX hz hf) (by rfl) L.isi (by decide +kernel) (pa_cons (pv 2) (pa_cons (pe_glob (v := .ref CE) (by rfl) C.gE rfl) pa_nil))) pa_nil)))))))
        (.cons ⟨rfl, by decide, .inl C.gU⟩ (fun a oe cls d pn hz hf => pss_one (ps_ret (by exact pe_tup (pa_cons pe_str (pa_cons (by exact pe_callB (call_isX0 hz hf) (by rfl) L.isi (by decide +kernel) (by exact pa_cons (pv 2) (pa_cons (pe_glob (v := .ref CE) (by rfl) C.gE rfl) pa_nil))) pa_nil))))) .nil))), ?_⟩
  obtain ⟨dx, ho⟩ := hs.o
  obtain ⟨dy, ho2⟩ := hs2.o
  refine ⟨_, rfl, _, rfl, x, x2, dx, dy, _, _, rfl, rfl, ho, ho2, x, a, R, T0, m, n, x2, a2, R2, T2, m2, n2, rfl, hs, hs2, g, g2, fun ne => ?_, fun e1 e2 => ⟨fun i j fe G sG d G2 nd hd s2 => ?_, fun fe G y a' R' sG sk nk => ?_⟩⟩
  · have eD : dueD m n m2 n2 T0 T2 = sizeD := by unfold dueD; rw [if_neg ne]
    rw [eD] at k
    refine ⟨false, C.teUY, (fun q => nomatch q), fun _ => ⟨true, C.teU, fun _ e na => ?_, fun q => nomatch q⟩⟩
    refine ⟨_, rfl, CU, .ref CE, .ref CE, true, rfl, rfl, rfl, C.erU, fun u z => z, C.kU, small_line (by show 2 ≤ 1000; decide), fun p np => ?_⟩
    rw [sizew_S]
    exact k _ _ (same_upd np) (.tup upd_same (.cons (.str _) (.cons (.bl _) .nil)))
  · have eD : dueD m n m2 n2 T0 T2 = emptyD i j := by unfold dueD dueC; rw [if_pos ⟨e1, e2⟩, fe]
    rw [eD] at k
    refine ⟨true, C.teY, fun _ e na => ?_, fun q => nomatch q⟩
    refine ⟨_, rfl, CY, d, _, .int (i : Nat), rfl, rfl, rfl, C.erY, C.nX, hd, rfl, _, rfl, CY, d, _, .int (j : Nat), rfl, rfl, rfl, C.erY, C.nY, hd, rfl, _, rfl, CY, d, _, .ref CE, .ref CE, true, rfl, rfl, rfl, C.erY, hd, fun u z => z, C.kY, small_line (by show 4 ≤ 1000; decide), fun p np => ?_⟩
    rw [emptyw_S]
    exact k _ _ ((sG.trans s2).trans (same_upd np)) (.tup upd_same (.cons (.str _) (.cons (.int _) (.cons (.int _) (.cons (.bl _) .nil)))))
  · have eD : dueD m n m2 n2 T0 T2 = .tx (tabT (starT (comT T0 T2))) := by unfold dueD dueC; rw [if_pos ⟨e1, e2⟩, fe]
    rw [eD] at k
    subst e1 e2
    obtain ⟨dy, hy⟩ := sk.o
    refine ⟨y, rfl, y, dy, _, rfl, hy, rfl, [skD CS (comT T0 T2) m n], .tx (tabT (starT (comT T0 T2))), ⟨_, m, n, comT_ok g g2 fe, rfl, rfl⟩, G, Same.refl G, .cons sk.rep .nil, fun v F1 G1 g1 f1 r1 => ?_⟩
    cases r1
    exact k _ _ (sG.trans g1.h) (.str _)
end
end Pm
/-! ### _law_due (written by gen_a4.py) -/
namespace Pm
open PySem PySem.Spec PyProof.Rows L2 SX Tr
abbrev rowD (r : List (List Nat)) : D := .lst (r.map D.tx)
theorem s_outD {X : Cx} {B : Hp × Hp} {s : Stmt} {Γ : Tr.Env} {o o2 : Out} (h : OkS X B s Γ o) (e : o = o2) : OkS X B s Γ o2 := e ▸ h
theorem run_in (k : Nat) : ∀ (r : List (List Nat)) (i : Nat) (s : List (List Nat)), runF (fun (s : List (List Nat)) (p : List Nat × Nat) => if p.1 = [] then .inl (emptyD p.2 k) else .inr (s ++ [p.1])) s (r.zipIdx i) = match firstC i r with
    | some j => .inl (emptyD j k)
    | none => .inr (s ++ r)
  | [], i, s => by rw [List.append_nil]; rfl
  | w :: r, i, s => by
    rw [List.zipIdx_cons]
    unfold runF firstC
    by_cases e : w = []
    · dsimp only; rw [if_pos e, if_pos e]
    · dsimp only
      rw [if_neg e, if_neg e]
      dsimp only
      rw [run_in k r (i + 1), List.append_assoc]
      rfl
theorem run_out : ∀ (T : Tab) (j : Nat) (s : Tab), runF (fun (s : Tab) (p : List (List Nat) × Nat) => match firstC 0 p.1 with | some i => .inl (emptyD i p.2) | none => .inr (s ++ [p.1])) s (T.zipIdx j) = match firstE j T with
    | some (i, l) => .inl (emptyD i l)
    | none => .inr (s ++ T)
  | [], j, s => by rw [List.append_nil]; rfl
  | r :: T, j, s => by
    rw [List.zipIdx_cons]
    unfold runF firstE
    dsimp only
    cases e : firstC 0 r with
    | some i => rfl
    | none =>
      dsimp only
      rw [run_out T (j + 1), List.append_assoc]
      rfl
theorem run_inS {k : Nat} : ∀ {r : List (List Nat)} {i : Nat} {s s' : List (List Nat)}, runF (fun (s : List (List Nat)) (p : List Nat × Nat) => if p.1 = [] then .inl (emptyD p.2 k) else .inr (s ++ [p.1])) s (r.zipIdx i) = .inr s' → s'.length = s.length + r.length := fun {r i s s'} h => by
  rw [run_in] at h
  cases e : firstC i r with
  | some j => rw [e] at h; cases h
  | none => rw [e] at h; cases h; rw [List.length_append]
theorem run_outS : ∀ {T : Tab} {i : Nat} {s s' : Tab}, runF (fun (s : Tab) (p : List (List Nat) × Nat) => match firstC 0 p.1 with | some i => .inl (emptyD i p.2) | none => .inr (s ++ [p.1])) s (T.zipIdx i) = .inr s' → s'.length = s.length + T.length := fun {T i s s'} h => by
  rw [run_out] at h
  cases e : firstE i T with
  | some j => rw [e] at h; cases h
  | none => rw [e] at h; cases h; rw [List.length_append]
theorem zip_take {α : Type} (l : List α) (i : Nat) : l.zipIdx.take i = (l.take i).zipIdx := by
  refine List.ext_getElem? fun j => ?_
  rw [List.getElem?_take, List.getElem?_zipIdx, List.getElem?_zipIdx, List.getElem?_take]
  split <;> rfl
theorem zip_get {α : Type} {l : List α} {i : Nat} {q : α × Nat} (h : l.zipIdx[i]? = some q) : l[i]? = some q.1 ∧ q.2 = i := by
  rw [List.getElem?_zipIdx] at h
  cases e : l[i]? with
  | none => rw [e] at h; cases h
  | some c =>
    rw [e] at h
    cases h
    exact ⟨rfl, by simp⟩
theorem r2_eqNil {K : PySem.W.Frag} {z : List Nat} (low : ∀ c ∈ z, c < 256) : R2T K (rEqD K) (.lst ((z.map fun c => [c]).map D.tx)) (.lst []) (.bl (decide (z = []))) := r2_val fun F H fh v w rv rw' Q q => by
  cases rv with
  | @lst a us _ ha r =>
    have e := rows_of r
    subst e
    cases rw' with
    | @lst b us2 _ hb r2 =>
      cases r2
      have lo : Low (z.map fun c => [c]) ∨ True := .inr trivial
      have lay : ∀ (M : Rows), (∀ r ∈ M, ∀ c ∈ r, c < 256) → PyData.canLayAll0 (M.map dR) = true := fun M => by
        induction M with
        | nil => intro _; rfl
        | cons r M ih =>
          intro h
          have e2 : PyData.strOk (S r) = true := strOk_S (h r List.mem_cons_self)
          show (PyData.canLay0 (dR r) && PyData.canLayAll0 (M.map dR)) = true
          rw [ih fun q m => h q (List.mem_cons_of_mem _ m), Bool.and_true]
          exact e2
      have sh : SeqAt.shaped (.list ((z.map fun c => [c]).map dR)) = true := by
        have d := dRs_depth (z.map fun c => [c])
        have y := lay (z.map fun c => [c]) (fun r mr c mc => by
          obtain ⟨d, md, rfl⟩ := List.mem_map.mp mr
          rw [List.mem_singleton.mp mc]
          exact low d md)
        simp only [SeqAt.shaped, PyData.canLay0, PyData.depth, y, d]
        first
          | rfl
          | simp [d]
      refine ⟨.list ((z.map fun c => [c]).map dR), .list [], dp_list (fh _ _ ha), .lst (SqL.of (fh _ _ hb)) .nil, sh, by decide, ?_⟩
      have e : PyData.eqv (.list ((z.map fun c => [c]).map dR)) (.list []) = decide (z = []) := by
        cases z with
        | nil => simp [PyData.eqv, PyData.eqvAll]
        | cons a b => simp [PyData.eqv, PyData.eqvAll]
      rw [e]
      exact q _ fun _ => .bl _
section
variable {P : Program} {w : World} {K : PySem.W.Frag} {mg : Str → Option Value} {base : Heap}
def gDueM (ds : List D) (d : D) : Prop := ∃ T U m n m2 n2, TabOk T m n ∧ TabOk U m2 n2 ∧ ds = [tabD T, tabD U] ∧ d = dueD m n m2 n2 T U
abbrev nDueM : List Str := ["_law_ones", "_law_twos", "_law_table_here", "_law_cy", "_law_line", "_law_cx", "_law_signs", "_law_sign"]
theorem scDueM : FnScope nDueM ["_law_ones", "_law_twos"] (defScope lDue) := ⟨rfl, rfl, rfl, by decide +kernel, rfl, by decide +kernel, by decide +kernel⟩
theorem ok_dueM {f a1 : Addr} {fd b1 : FuncData} (F : Fun K "_law_due" "_law_due" lDue f fd) (L : LTxt K mg) (cX : Cl P w K mg base CX0 1 "_law_sketch_text" ["_law_table_here"] (spG K gLText) a1 b1) : FnOk P w K mg base CX0 2 f fd ["_law_ones", "_law_twos"] (spG K gDueM) := by
  refine F.ok scDueM (spG_len fun ds d ⟨_, _, _, _, _, _, _, _, e, _⟩ => by rw [e]; rfl) (fun cdv A outer s H vs Q E hr h => ?_)
  obtain ⟨ds, d, ⟨T, U, m, n, m2, n2, g, g2, rfl, rfl⟩, h⟩ := h
  obtain ⟨B, tw⟩ := tree_wish (N := nDueM) h (by show 2 ≤ 8; decide)
  refine ⟨_, (show OkSs _ B _ [.d (tabD T), .d (tabD U), .no, .no, .no, .no, .no, .no] (.rt (dueD m n m2 n2 T U)) from ?_), tw⟩
  have lT : (T.map fun r => D.lst (r.map D.tx)).length = n := by rw [List.length_map, g.h]
  have lU : (U.map fun r => D.lst (r.map D.tx)).length = n2 := by rw [List.length_map, g2.h]
  obtain ⟨r0, _, l0, a0⟩ := g.row0
  obtain ⟨r2, _, l2, b0⟩ := g2.row0
  have l0 : (r0.map D.tx).length = m := by rw [List.length_map, l0]
  have l2 : (r2.map D.tx).length = m2 := by rw [List.length_map, l2]
  cases e : (!decide (n = n2) || !decide (m = m2)) with
  | true =>
    have ne : ¬ (m = m2 ∧ n = n2) := fun ⟨q1, q2⟩ => by rw [decide_eq_true q1, decide_eq_true q2] at e; cases e
    rw [show dueD m n m2 n2 T U = sizeD by unfold dueD; rw [if_neg ne]]
    exact s_ifYes (o_as (o_w (w_or (p := !decide (n = n2)) (o_as (o_op (fun p q => pt_cmpR op_ne p q (nomark _)) (t_cb (fun h => pe_callB call_len_seq (by rfl) L.len PySem.boot_len h) (a_cons (ok_var (pv 0) rfl) a_nil) rc_len) (t_cb (fun h => pe_callB call_len_seq (by rfl) L.len PySem.boot_len h) (a_cons (ok_var (pv 1) rfl) a_nil) rc_len) r2_neI) (by rw [lT, lU]; congr 1; exact decide_eq_decide.mpr (by omega))) (fun _ => w_or1 (o_as (o_op (fun p q => pt_cmpR op_ne p q (nomark _)) (t_cb (fun h => pe_callB call_len_seq (by rfl) L.len PySem.boot_len h) (a_cons (t_ixL (ok_var (pv 0) rfl) ok_int a0 (fun _ _ => rfl)) a_nil) rc_len) (t_cb (fun h => pe_callB call_len_seq (by rfl) L.len PySem.boot_len h) (a_cons (t_ixL (ok_var (pv 1) rfl) ok_int b0 (fun _ _ => rfl)) a_nil) rc_len) r2_neI) (show (!decide (((r0.map D.tx).length : Int) = ((r2.map D.tx).length : Int))) = !decide (m = m2) by rw [l0, l2]; congr 1; exact decide_eq_decide.mpr (by omega)))))) e) (s_one (s_ret (t_tup (a_cons (ok_tx sizew_S) (a_cons ok_bl a_nil)) (by show 2 ≤ 100000; decide))))
  | false =>
    have eq : m = m2 ∧ n = n2 := by
      by_cases q1 : m = m2
      · by_cases q2 : n = n2
        · exact ⟨q1, q2⟩
        · rw [decide_eq_false q2] at e; cases e
      · rw [decide_eq_false q1, Bool.not_false, Bool.or_true] at e; cases e
    rw [show dueD m n m2 n2 T U = dueC T U by unfold dueD; rw [if_pos eq]]
    refine s_ifNo (o_as (o_w (w_or (p := !decide (n = n2)) (o_as (o_op (fun p q => pt_cmpR op_ne p q (nomark _)) (t_cb (fun h => pe_callB call_len_seq (by rfl) L.len PySem.boot_len h) (a_cons (ok_var (pv 0) rfl) a_nil) rc_len) (t_cb (fun h => pe_callB call_len_seq (by rfl) L.len PySem.boot_len h) (a_cons (ok_var (pv 1) rfl) a_nil) rc_len) r2_neI) (by rw [lT, lU]; congr 1; exact decide_eq_decide.mpr (by omega))) (fun _ => w_or1 (o_as (o_op (fun p q => pt_cmpR op_ne p q (nomark _)) (t_cb (fun h => pe_callB call_len_seq (by rfl) L.len PySem.boot_len h) (a_cons (t_ixL (ok_var (pv 0) rfl) ok_int a0 (fun _ _ => rfl)) a_nil) rc_len) (t_cb (fun h => pe_callB call_len_seq (by rfl) L.len PySem.boot_len h) (a_cons (t_ixL (ok_var (pv 1) rfl) ok_int b0 (fun _ _ => rfl)) a_nil) rc_len) r2_neI) (show (!decide (((r0.map D.tx).length : Int) = ((r2.map D.tx).length : Int))) = !decide (m = m2) by rw [l0, l2]; congr 1; exact decide_eq_decide.mpr (by omega)))))) e) ?_
    clear e
    obtain ⟨rfl, rfl⟩ := eq
    obtain ⟨lC, wC⟩ := comT_len g g2
    have ro := run_out (comT T U) 0 []
    have n8 := g.n8
    have m8 := g.m8
    have eK : ((comT T U).zipIdx.map fun p : List (List Nat) × Nat => D.int (p.2 : Int)) = (List.range n).map fun k : Nat => D.int (k : Int) := by
      have e := congrArg (List.map fun k : Nat => D.int (k : Int)) (List.zipIdx_map_snd 0 (comT T U))
      rw [List.map_map] at e
      rw [List.range_eq_range', ← lC]
      exact e
    refine s_cons (Γ1 := [.d (tabD T), .d (tabD U), .own (.l []), .no, .no, .no, .no, .no]) (s_setOwn (i := 2) (fun h => ps_set (i := 2) scDueM.nd rfl (.inl rfl) (pe_lst h)) a_nil (by show 0 ≤ 100000; decide)) ?_
    refine s_forRR (vs := [3]) (fun s : Tab => ([.d (tabD T), .d (tabD U), .own (.l (s.map rowD)), .no, .no, .no, .no, .no] : Tr.Env)) (fun (s : Tab) (p : List (List Nat) × Nat) => match firstC 0 p.1 with | some i => .inl (emptyD i p.2) | none => .inr (s ++ [p.1])) (comT T U).zipIdx (fun p => D.int (p.2 : Int)) [] (fun s k => _) (fun h g => ps_for PassesOwn.never rfl h (pg_name (i := 3) scDueM.nd rfl (.inr rfl)) g)
      (by
        rw [eK]
        exact i_range1 (fun h => pi_range1 (by rfl) L.rng h) (a_cons (t_cb (fun h => pe_callB call_len_seq (by rfl) L.len PySem.boot_len h) (a_cons (ok_var (pv 0) rfl) a_nil) rc_len) a_nil) (by rw [lT]; rfl) (by rw [lT]; omega)) (fun _ _ _ _ => (b_name (i := 3) (by decide))) (fun B k q s h1 h2 => ?_) (fun x h1 => ?_) (fun s h1 => ?_)
    · obtain ⟨r, k'⟩ := q
      obtain ⟨hr0, hk⟩ := zip_get h1
      dsimp only at hr0 hk
      subst hk
      have lk : k' < n := by
        have := (List.getElem?_eq_some_iff.mp hr0).1
        omega
      have ls : s.length ≤ 8 := by
        rw [zip_take] at h2
        have := run_outS h2
        rw [List.length_take] at this
        simp at this
        omega
      have lkT : k' < T.length := by rw [g.h]; exact lk
      have lkU : k' < U.length := by rw [g2.h]; exact lk
      have er : r = List.zipWith com T[k'] U[k'] := by
        unfold comT at hr0
        rw [List.getElem?_zipWith, List.getElem?_eq_getElem lkT, List.getElem?_eq_getElem lkU] at hr0
        exact (Option.some.inj hr0).symm
      have lr : r.length = m := wC r (List.mem_of_getElem? hr0)
      have a0r : atI (T.map fun r => D.lst (r.map D.tx)) (k' : Int) = some (.lst (T[k'].map D.tx)) := atI_nat (by rw [List.getElem?_map, List.getElem?_eq_getElem lkT]; rfl)
      have a1r : atI (U.map fun r => D.lst (r.map D.tx)) (k' : Int) = some (.lst (U[k'].map D.tx)) := atI_nat (by rw [List.getElem?_map, List.getElem?_eq_getElem lkU]; rfl)
      have ri := run_in k' r 0 []
      have eK2 : (r.zipIdx.map fun p : List Nat × Nat => D.int (p.2 : Int)) = (List.range m).map fun k : Nat => D.int (k : Int) := by
        have e := congrArg (List.map fun k : Nat => D.int (k : Int)) (List.zipIdx_map_snd 0 r)
        rw [List.map_map] at e
        rw [List.range_eq_range', ← lr]
        exact e
      dsimp only
      refine s_cons (Γ1 := [.d (tabD T), .d (tabD U), .own (.l (s.map rowD)), .d (.int (k' : Int)), .own (.l []), .no, .no, .no]) (s_setOwn (i := 4) (fun h => ps_set (i := 4) scDueM.nd rfl (.inl rfl) (pe_lst h)) a_nil (by show 0 ≤ 100000; decide)) ?_
      cases fc : firstC 0 r with
      | some i0 =>
        refine s_retHere (s_outD (s_forR (vs := [5]) (fun t : List (List Nat) => ([.d (tabD T), .d (tabD U), .own (.l (s.map rowD)), .d (.int (k' : Int)), .own (.l (t.map D.tx)), .no, .no, .no] : Tr.Env)) (fun (s : List (List Nat)) (p : List Nat × Nat) => if p.1 = [] then .inl (emptyD p.2 k') else .inr (s ++ [p.1])) r.zipIdx (fun p => D.int (p.2 : Int)) [] (fun s k => _) (fun h g => ps_for PassesOwn.never rfl h (pg_name (i := 5) scDueM.nd rfl (.inr rfl)) g)
        (by
          rw [eK2]
          exact i_range1 (fun h => pi_range1 (by rfl) L.rng h) (a_cons (t_cb (fun h => pe_callB call_len_seq (by rfl) L.len PySem.boot_len h) (a_cons (t_ixL (ok_var (pv 0) rfl) ok_int a0 (fun _ _ => rfl)) a_nil) rc_len) a_nil) (by rw [l0]; rfl) (by rw [l0]; omega)) (fun _ _ _ _ => (b_name (i := 5) (by decide))) (fun B i q t h3 h4 => by
          obtain ⟨wd, i'⟩ := q
          obtain ⟨hw0, hi⟩ := zip_get h3
          dsimp only at hw0 hi
          subst hi
          have lt : t.length ≤ 8 := by
            rw [zip_take] at h4
            have := run_inS h4
            rw [List.length_take] at this
            simp at this
            omega
          have li : i' < m := by
            have := (List.getElem?_eq_some_iff.mp hw0).1
            omega
          have liT : i' < T[k'].length := by rw [g.w _ (List.getElem_mem lkT)]; exact li
          have liU : i' < U[k'].length := by rw [g2.w _ (List.getElem_mem lkU)]; exact li
          have ew : wd = com T[k'][i'] U[k'][i'] := by
            rw [er, List.getElem?_zipWith, List.getElem?_eq_getElem liT, List.getElem?_eq_getElem liU] at hw0
            exact (Option.some.inj hw0).symm
          have a0c : atI (T[k'].map D.tx) (i' : Int) = some (.tx T[k'][i']) := atI_nat (by rw [List.getElem?_map, List.getElem?_eq_getElem liT]; rfl)
          have a1c : atI (U[k'].map D.tx) (i' : Int) = some (.tx U[k'][i']) := atI_nat (by rw [List.getElem?_map, List.getElem?_eq_getElem liU]; rfl)
          have okz := g.ok _ (List.getElem_mem lkT) _ (List.getElem_mem liT)
          have lz : T[k'][i'].length ≤ 27 := okz.2.1
          have lwd : wd.length ≤ 27 := by rw [ew]; exact Nat.le_trans List.filter_sublist.length_le lz
          have loww : ∀ c ∈ wd, c < 256 := fun c mc => by
            rw [ew] at mc
            have := okz.2.2.1 c ((List.mem_filter.mp mc).1)
            omega
          generalize T[k'][i'] = z at *
          generalize U[k'][i'] = y at *
          have eS : D.lst ((z.filter fun c => decide (c ∈ y)).map fun c => D.tx [c]) = .lst ((wd.map fun c => [c]).map D.tx) := by
            rw [List.map_map, ew]
            rfl
          refine s_cons (Γ1 := [.d (tabD T), .d (tabD U), .own (.l (s.map rowD)), .d (.int (k' : Int)), .own (.l (t.map D.tx)), .d (.int (i' : Int)), .d (.lst ((wd.map fun c => [c]).map D.tx)), .no]) (s_as (s_setLcIf (i := 6) (vs := [7]) (tt := tElT K z (fun c => [.d (tabD T), .d (tabD U), .own (.l (s.map rowD)), .d (.int (k' : Int)), .own (.l (t.map D.tx)), .d (.int (i' : Int)), .no, .d (.tx [c])]) (fun c => decide (c ∈ y))) z (fun c => D.tx [c]) (fun c => [.d (tabD T), .d (tabD U), .own (.l (s.map rowD)), .d (.int (k' : Int)), .own (.l (t.map D.tx)), .d (.int (i' : Int)), .no, .d (.tx [c])]) (fun c => decide (c ∈ y)) (fun c => D.tx [c])
            (fun h => by exact ps_setLc (i := 6) (own := [("_law_sign", 7)]) (g := (gName 7)) rfl scDueM.nd rfl rfl (sw_true rfl rfl rfl (by decide +kernel)) h (blkOk_by (own := [("_law_sign", 7)]) (N := nDueM) (sc := defScope lDue) (by decide +kernel)) (fun _ _ _ _ _ => (pg_name (i := 7) scDueM.nd rfl (.inl rfl))) (fun _ _ _ _ _ => (pts_one (pt_el fun B c m => (o_op (fun p q => pt_cmpR op_in_sign p q (by rfl)) (ok_var (pv 7) rfl) (t_ixL (t_ixL (ok_var (pv 1) rfl) (ok_var (pv 3) rfl) a1r (fun _ _ => rfl)) (ok_var (pv 5) rfl) a1c (fun _ _ => rfl)) r2_inS)))) (fun _ _ _ _ _ => (pe_el fun B c m => (ok_var (pv 7) rfl)))) (i_str (t_ixL (t_ixL (ok_var (pv 0) rfl) (ok_var (pv 3) rfl) a0r (fun _ _ => rfl)) (ok_var (pv 5) rfl) a0c (fun _ _ => rfl))) (fun B k σ H Q m q => ⟨B, k, m, q⟩) (fun _ _ _ => (b_name (i := 7) (by decide))) (by omega))
            (congrArg (fun d => ([.d (tabD T), .d (tabD U), .own (.l (s.map rowD)), .d (.int (k' : Int)), .own (.l (t.map D.tx)), .d (.int (i' : Int)), .d d, .no] : Tr.Env)) eS)) ?_
          by_cases e0 : wd = []
          · dsimp only
            rw [if_pos e0]
            exact s_ifYes (o_as (o_op (fun p q => pt_cmpR (op_eqD hr.units) p q (nomark _)) (ok_var (pv 6) rfl) (t_lst a_nil (Nat.zero_le _)) (r2_eqNil loww)) (decide_eq_true e0)) (s_one (s_ret (t_tup (a_cons (ok_tx emptyw_S) (a_cons (ok_var (pv 5) rfl) (a_cons (ok_var (pv 3) rfl) (a_cons ok_bl a_nil)))) (by show 4 ≤ 100000; decide))))
          · dsimp only
            rw [if_neg e0]
            refine s_ifNo (o_as (o_op (fun p q => pt_cmpR (op_eqD hr.units) p q (nomark _)) (ok_var (pv 6) rfl) (t_lst a_nil (Nat.zero_le _)) (r2_eqNil loww)) (decide_eq_false e0)) (s_leO (Γ2 := [.d (tabD T), .d (tabD U), .own (.l (s.map rowD)), .d (.int (k' : Int)), .own (.l ((t ++ [wd]).map D.tx)), .d (.int (i' : Int)), .d (.lst ((wd.map fun c => [c]).map D.tx)), .no]) (s_one (s_appendM (i := 4) D.tx t wd (fun h => ps_expr (pe_bm PySem.F.plainAttrs_list PySem.F.slot_list_append PySem.F.type_list_append mt_append (pv 4) h)) rfl (a_cons (ok_as (t_bm (fun h g => pe_bm PySem.F.plainAttrs_str PySem.F.slot_str_join PySem.F.type_str_join mt_join h g) (ok_tx (z := []) (by decide +kernel)) (a_cons (ok_var (pv 6) rfl) a_nil) ty_str (rm_join 1 (fun w mw => by
                obtain ⟨c, _, rfl⟩ := List.mem_map.mp mw
                exact Nat.le_refl 1) (by rw [List.length_map]; show _ * (1 + 0) ≤ _; omega))) (congrArg D.tx (join_single _))) a_nil) (by omega))) (.cons (.cons (.cons (.cons (.cons (.cons (.cons (.cons .refl (.inr rfl)) (.inl rfl)) (.inl rfl)) (.inr rfl)) (.inr rfl)) (.inr rfl)) (.inr rfl)) (.inr rfl))))) ?_)
        rw [ri, fc]
        rfl
      | none =>
        refine s_cons (Γ1 := [.d (tabD T), .d (tabD U), .own (.l (s.map rowD)), .d (.int (k' : Int)), .own (.l (r.map D.tx)), .no, .no, .no]) (s_outD (s_forR (vs := [5]) (fun t : List (List Nat) => ([.d (tabD T), .d (tabD U), .own (.l (s.map rowD)), .d (.int (k' : Int)), .own (.l (t.map D.tx)), .no, .no, .no] : Tr.Env)) (fun (s : List (List Nat)) (p : List Nat × Nat) => if p.1 = [] then .inl (emptyD p.2 k') else .inr (s ++ [p.1])) r.zipIdx (fun p => D.int (p.2 : Int)) [] (fun s k => _) (fun h g => ps_for PassesOwn.never rfl h (pg_name (i := 5) scDueM.nd rfl (.inr rfl)) g)
        (by
          rw [eK2]
          exact i_range1 (fun h => pi_range1 (by rfl) L.rng h) (a_cons (t_cb (fun h => pe_callB call_len_seq (by rfl) L.len PySem.boot_len h) (a_cons (t_ixL (ok_var (pv 0) rfl) ok_int a0 (fun _ _ => rfl)) a_nil) rc_len) a_nil) (by rw [l0]; rfl) (by rw [l0]; omega)) (fun _ _ _ _ => (b_name (i := 5) (by decide))) (fun B i q t h3 h4 => by
          obtain ⟨wd, i'⟩ := q
          obtain ⟨hw0, hi⟩ := zip_get h3
          dsimp only at hw0 hi
          subst hi
          have lt : t.length ≤ 8 := by
            rw [zip_take] at h4
            have := run_inS h4
            rw [List.length_take] at this
            simp at this
            omega
          have li : i' < m := by
            have := (List.getElem?_eq_some_iff.mp hw0).1
            omega
          have liT : i' < T[k'].length := by rw [g.w _ (List.getElem_mem lkT)]; exact li
          have liU : i' < U[k'].length := by rw [g2.w _ (List.getElem_mem lkU)]; exact li
          have ew : wd = com T[k'][i'] U[k'][i'] := by
            rw [er, List.getElem?_zipWith, List.getElem?_eq_getElem liT, List.getElem?_eq_getElem liU] at hw0
            exact (Option.some.inj hw0).symm
          have a0c : atI (T[k'].map D.tx) (i' : Int) = some (.tx T[k'][i']) := atI_nat (by rw [List.getElem?_map, List.getElem?_eq_getElem liT]; rfl)
          have a1c : atI (U[k'].map D.tx) (i' : Int) = some (.tx U[k'][i']) := atI_nat (by rw [List.getElem?_map, List.getElem?_eq_getElem liU]; rfl)
          have okz := g.ok _ (List.getElem_mem lkT) _ (List.getElem_mem liT)
          have lz : T[k'][i'].length ≤ 27 := okz.2.1
          have lwd : wd.length ≤ 27 := by rw [ew]; exact Nat.le_trans List.filter_sublist.length_le lz
          have loww : ∀ c ∈ wd, c < 256 := fun c mc => by
            rw [ew] at mc
            have := okz.2.2.1 c ((List.mem_filter.mp mc).1)
            omega
          generalize T[k'][i'] = z at *
          generalize U[k'][i'] = y at *
          have eS : D.lst ((z.filter fun c => decide (c ∈ y)).map fun c => D.tx [c]) = .lst ((wd.map fun c => [c]).map D.tx) := by
            rw [List.map_map, ew]
            rfl
          refine s_cons (Γ1 := [.d (tabD T), .d (tabD U), .own (.l (s.map rowD)), .d (.int (k' : Int)), .own (.l (t.map D.tx)), .d (.int (i' : Int)), .d (.lst ((wd.map fun c => [c]).map D.tx)), .no]) (s_as (s_setLcIf (i := 6) (vs := [7]) (tt := tElT K z (fun c => [.d (tabD T), .d (tabD U), .own (.l (s.map rowD)), .d (.int (k' : Int)), .own (.l (t.map D.tx)), .d (.int (i' : Int)), .no, .d (.tx [c])]) (fun c => decide (c ∈ y))) z (fun c => D.tx [c]) (fun c => [.d (tabD T), .d (tabD U), .own (.l (s.map rowD)), .d (.int (k' : Int)), .own (.l (t.map D.tx)), .d (.int (i' : Int)), .no, .d (.tx [c])]) (fun c => decide (c ∈ y)) (fun c => D.tx [c])
            (fun h => by exact ps_setLc (i := 6) (own := [("_law_sign", 7)]) (g := (gName 7)) rfl scDueM.nd rfl rfl (sw_true rfl rfl rfl (by decide +kernel)) h (blkOk_by (own := [("_law_sign", 7)]) (N := nDueM) (sc := defScope lDue) (by decide +kernel)) (fun _ _ _ _ _ => (pg_name (i := 7) scDueM.nd rfl (.inl rfl))) (fun _ _ _ _ _ => (pts_one (pt_el fun B c m => (o_op (fun p q => pt_cmpR op_in_sign p q (by rfl)) (ok_var (pv 7) rfl) (t_ixL (t_ixL (ok_var (pv 1) rfl) (ok_var (pv 3) rfl) a1r (fun _ _ => rfl)) (ok_var (pv 5) rfl) a1c (fun _ _ => rfl)) r2_inS)))) (fun _ _ _ _ _ => (pe_el fun B c m => (ok_var (pv 7) rfl)))) (i_str (t_ixL (t_ixL (ok_var (pv 0) rfl) (ok_var (pv 3) rfl) a0r (fun _ _ => rfl)) (ok_var (pv 5) rfl) a0c (fun _ _ => rfl))) (fun B k σ H Q m q => ⟨B, k, m, q⟩) (fun _ _ _ => (b_name (i := 7) (by decide))) (by omega))
            (congrArg (fun d => ([.d (tabD T), .d (tabD U), .own (.l (s.map rowD)), .d (.int (k' : Int)), .own (.l (t.map D.tx)), .d (.int (i' : Int)), .d d, .no] : Tr.Env)) eS)) ?_
          by_cases e0 : wd = []
          · dsimp only
            rw [if_pos e0]
            exact s_ifYes (o_as (o_op (fun p q => pt_cmpR (op_eqD hr.units) p q (nomark _)) (ok_var (pv 6) rfl) (t_lst a_nil (Nat.zero_le _)) (r2_eqNil loww)) (decide_eq_true e0)) (s_one (s_ret (t_tup (a_cons (ok_tx emptyw_S) (a_cons (ok_var (pv 5) rfl) (a_cons (ok_var (pv 3) rfl) (a_cons ok_bl a_nil)))) (by show 4 ≤ 100000; decide))))
          · dsimp only
            rw [if_neg e0]
            refine s_ifNo (o_as (o_op (fun p q => pt_cmpR (op_eqD hr.units) p q (nomark _)) (ok_var (pv 6) rfl) (t_lst a_nil (Nat.zero_le _)) (r2_eqNil loww)) (decide_eq_false e0)) (s_leO (Γ2 := [.d (tabD T), .d (tabD U), .own (.l (s.map rowD)), .d (.int (k' : Int)), .own (.l ((t ++ [wd]).map D.tx)), .d (.int (i' : Int)), .d (.lst ((wd.map fun c => [c]).map D.tx)), .no]) (s_one (s_appendM (i := 4) D.tx t wd (fun h => ps_expr (pe_bm PySem.F.plainAttrs_list PySem.F.slot_list_append PySem.F.type_list_append mt_append (pv 4) h)) rfl (a_cons (ok_as (t_bm (fun h g => pe_bm PySem.F.plainAttrs_str PySem.F.slot_str_join PySem.F.type_str_join mt_join h g) (ok_tx (z := []) (by decide +kernel)) (a_cons (ok_var (pv 6) rfl) a_nil) ty_str (rm_join 1 (fun w mw => by
                obtain ⟨c, _, rfl⟩ := List.mem_map.mp mw
                exact Nat.le_refl 1) (by rw [List.length_map]; show _ * (1 + 0) ≤ _; omega))) (congrArg D.tx (join_single _))) a_nil) (by omega))) (.cons (.cons (.cons (.cons (.cons (.cons (.cons (.cons .refl (.inr rfl)) (.inl rfl)) (.inl rfl)) (.inr rfl)) (.inr rfl)) (.inr rfl)) (.inr rfl)) (.inr rfl))))) ?_) ?_
        · rw [ri, fc]
          rfl
        · refine s_freeze 4 rfl (s_leO (Γ2 := [.d (tabD T), .d (tabD U), .own (.l ((s ++ [r]).map rowD)), .d (.int (k' : Int)), .d (.lst (r.map D.tx)), .no, .no, .no]) (s_one (s_appendM (i := 2) rowD s r (fun h => ps_expr (pe_bm PySem.F.plainAttrs_list PySem.F.slot_list_append PySem.F.type_list_append mt_append (pv 2) h)) rfl (a_cons (ok_var (pv 4) rfl) a_nil) (by omega))) (.cons (.cons (.cons (.cons (.cons (.cons (.cons (.cons .refl (.inr rfl)) (.inr rfl)) (.inr rfl)) (.inl rfl)) (.inl rfl)) (.inr rfl)) (.inr rfl)) (.inr rfl)))
    · rw [ro] at h1
      cases fe : firstE 0 (comT T U) with
      | some p =>
        obtain ⟨i, j⟩ := p
        rw [fe] at h1
        unfold dueC
        rw [fe]
        exact (Sum.inl.inj h1).symm
      | none => rw [fe] at h1; cases h1
    · rw [ro] at h1
      cases fe : firstE 0 (comT T U) with
      | some p => rw [fe] at h1; cases h1
      | none =>
        rw [fe] at h1
        cases h1
        unfold dueC
        rw [fe]
        exact s_freeze 2 rfl (s_one (s_ret (t_callG (fun h => pe_call cX.ok hr (by rfl) cX.gl cX.kp cX.bd .nil pass0 h) (a_cons (ok_var (pv 2) rfl) a_nil) ⟨comT T U, m, n, comT_ok g g2 fe, rfl, rfl⟩)))
end
end Pm
/-! ### rows and grids (written by gen_k76.py) -/
namespace Pm
open PySem PySem.Spec PyProof.Rows L2 SX
section
variable {P : Program} {w : World} {K : PySem.W.Frag} {mg : Str → Option Value} {base : Heap}
theorem joinW {tA tR : TS} {D : Ends} {σ : L2.St} {H : Hp} (I : L2.St → Hp → Prop) (hA : ∀ nx : L2.St → Hp → Prop, (∀ σ' H', I σ' H' → nx σ' H') → tA { D with nx := nx } σ H) (hR : ∀ σ' H', I σ' H' → tR D σ' H') : tSeq tA tR D σ H := hA _ hR
theorem ifN {c : TT} {a : TS} {D : Ends} {σ : L2.St} {G : Hp} {b : Bool} (hc : ∀ Q' : Bool → Hp → Prop, Q' b G → c σ G Q') (hT : b = true → a D σ G) (hF : b = false → D.nx σ G) : tIfS c a tNext D σ G := by
  refine hc _ ?_
  cases b
  · exact iteF (hF rfl)
  · exact iteT (hT rfl)
theorem setG {i : Nat} {x : V} {σ : L2.St} {H : Hp} {Q : L2.St → Hp → Prop} (h : Q (σ.set i (some x)) H) : gName i x σ H Q := h
theorem tNotW {t : TT} {σ : L2.St} {G : Hp} {Q : Bool → Hp → Prop} {b : Bool} (ht : ∀ Q' : Bool → Hp → Prop, Q' b G → t σ G Q') (h : Q (!b) G) : tNot t σ G Q := ht _ h
def spRow : Sp := fun vs H Q _ => ∃ b l z w, vs = [.ref b, .str (S z), .int w] ∧ BagL H b l ∧ Pal z ∧ 0 ≤ w ∧ w ≤ 8 ∧
  ∀ r H', (r.length : Int) = w → (∀ c ∈ r, Good c) → But b H H' → BagL H' b l → Q (.str (S r)) H'
theorem scRow : FnScope ["_law_bag_here", "_law_palette_here", "_law_wide", "_law_row_here", "_law_k"] ["_law_bag_here", "_law_palette_here", "_law_wide"] (defScope lRow) := ⟨rfl, rfl, rfl, by decide +kernel, rfl, by decide +kernel, by decide +kernel⟩
theorem ok_row {f t : Addr} {fd td : FuncData} (F : Fun K "_law_row" "_law_row" lRow f fd) (T : Cl P w K mg base CX0 1 "_law_take" tkNames spTake t td) (L : LTxt K mg) : FnOk P w K mg base CX0 2 f fd ["_law_bag_here", "_law_palette_here", "_law_wide"] spRow := by
  refine F.ok scRow (fun vs H Q E h => ?_) (fun cdv A outer s H vs Q E hr h => ?_)
  · obtain ⟨b, l, z, w, rfl, _⟩ := h
    rfl
  · obtain ⟨b, l, z, w, rfl, hb, hz, w0, w8, k⟩ := h
    refine ⟨_, pss_cons (ps_set (i := 3) scRow.nd rfl (.inl rfl) pe_str)
      (pss_cons (ps_for PassesOwn.never rfl (pi_range1 (by rfl) L.rng (pa_cons (pv 2) pa_nil)) (pg_name (i := 4) scRow.nd rfl (.inl rfl))
        (pss_one (ps_set (i := 3) scRow.nd rfl (.inl rfl) (pe_op op_add_str (pv 3) (pe_ix ix_str (pe_op op_add_str (pe_op op_add_str pe_str (pv 1)) (pv 1)) (pe_call T.ok hr (by rfl) T.gl T.kp T.bd .nil pass0 (pa_cons (pv 0) (pa_cons pe_int pa_nil))) (fun _ _ => rfl))))))
      (pss_one (ps_ret (pv 3)))), ?_⟩
    have lz := hz.len
    refine ⟨_, rfl, w, rfl, by omega, by omega, for_range (lo := 0) (n := w.toNat) (fun i σ G => ∃ y r, σ = [some (.ref b), some (.str (S z)), some (.int w), some (.str (S r)), y] ∧ r.length = i ∧ (∀ c ∈ r, Good c) ∧ But b H G ∧ BagL G b l)
      ⟨_, [], rfl, rfl, (fun c m => nomatch m), But.refl b H, hb⟩ ?_ ?_⟩
    · rintro i σ G hi ⟨y, r, rfl, lr, gr, bu, bG⟩
      have e1 : ("." : Str) ++ S z ++ S z = S ([46] ++ z ++ z) := by rw [dot_S, S_cat, S_cat]
      refine ⟨_, rfl, _, rfl, _, _, rfl, rfl, by rw [dot_S, len_S, len_S, lz]; decide, _, rfl, _, _, rfl, rfl, by rw [dot_S, S_cat, len_S, len_S]; simp [lz]; decide, _, rfl, b, l, 7, rfl, bG, by decide, by decide, fun n G1 n0 n1 u1 b1 => ?_⟩
      obtain ⟨c, ec, gc⟩ := draw_at hz n0 n1
      refine ⟨_, n, c, rfl, rfl, by rw [e1, len_S]; simp [lz]; exact small_line (by decide), by rw [e1]; exact ec, _, _, rfl, rfl, ?_, some (.int (0 + (i : Int))), r ++ [c], ?_, ?_, ?_, bu.trans u1, b1⟩
      · rw [len_S]
        show r.length + 1 ≤ sizeLine
        exact small_line (by omega)
      · exact congrArg (fun x => [some (V.ref b), some (V.str (S z)), some (V.int w), some (V.str x), some (V.int (0 + (i : Int)))]) (S_cat r [c])
      · rw [List.length_append, lr]
        rfl
      · intro d hd
        rcases List.mem_append.mp hd with m | m
        · exact gr d m
        · rw [List.mem_singleton.mp m]
          exact gc
    · rintro σ G ⟨y, r, rfl, lr, gr, bu, bG⟩
      exact ⟨_, rfl, k r G (by omega) gr bu bG⟩
end
section
variable {P : Program} {w : World} {K : PySem.W.Frag} {mg : Str → Option Value} {base : Heap}
def spGrid : Sp := fun vs H Q _ => ∃ b l z, vs = [.ref b, .str (S z)] ∧ BagL H b l ∧ Pal z ∧
  ∀ p R w H', Grid R w → SameBut b H H' → BagL H' b l → H p = none → H' p = some (.lst (rowsV R)) → Q (.ref p) H'
abbrev nGrid : List Str := ["_law_bag_here", "_law_palette_here", "_law_wide", "_law_high", "_law_shape", "_law_k"]
theorem scGrid : FnScope nGrid ["_law_bag_here", "_law_palette_here"] (defScope lGrid) := ⟨rfl, rfl, rfl, by decide +kernel, rfl, by decide +kernel, by decide +kernel⟩
theorem ok_grid {f t g : Addr} {fd td gd : FuncData} (F : Fun K "_law_grid" "_law_grid" lGrid f fd) (T : Cl P w K mg base CX0 1 "_law_take" tkNames spTake t td) (R : Cl P w K mg base CX0 2 "_law_row" ["_law_bag_here", "_law_palette_here", "_law_wide"] spRow g gd) (L : LTxt K mg) :
    FnOk P w K mg base CX0 3 f fd ["_law_bag_here", "_law_palette_here"] spGrid := by
  refine F.ok scGrid (fun vs H Q E h => ?_) (fun cdv A outer s H vs Q E hr h => ?_)
  · obtain ⟨b, l, z, rfl, _⟩ := h
    rfl
  · obtain ⟨b, l, z, rfl, hb, hz, k⟩ := h
    have hr1 : Room 1 _ := hr.mono (by decide)
    refine ⟨_, (pss_cons (ps_set (i := 2) scGrid.nd rfl (.inr rfl) (pe_op op_add pe_int (pe_call T.ok hr1 (by rfl) T.gl T.kp T.bd .nil pass0 (pa_cons (pv 0) (pa_cons pe_int pa_nil)))))
      (pss_cons (ps_set (i := 3) scGrid.nd rfl (.inl rfl) (pe_op op_add pe_int (pe_call T.ok hr1 (by rfl) T.gl T.kp T.bd .nil pass0 (pa_cons (pv 0) (pa_cons pe_int pa_nil)))))
      (pss_cons (ps_set (i := 4) scGrid.nd rfl (.inl rfl) (pe_call T.ok hr1 (by rfl) T.gl T.kp T.bd .nil pass0 (pa_cons (pv 0) (pa_cons pe_int pa_nil))))
      (pss_cons (ps_if (pt_cmpR op_eq (pv 4) pe_int (nomark _)) (pss_cons (ps_set (i := 2) scGrid.nd rfl (.inr rfl) (pe_op op_add (pe_op op_add (pv 2) (pv 3)) pe_int))
        (pss_one (ps_set (i := 3) scGrid.nd rfl (.inl rfl) pe_int))) pss_nil)
      (pss_cons (ps_if (pt_cmpR op_eq (pv 4) pe_int (nomark _)) (pss_cons (ps_set (i := 3) scGrid.nd rfl (.inl rfl) (pe_op op_add (pe_op op_add (pv 2) (pv 3)) pe_int))
        (pss_one (ps_set (i := 2) scGrid.nd rfl (.inr rfl) pe_int))) pss_nil)
      (pss_one (ps_ret (pe_lc (own := [("_law_k", 5)]) (g := (gName 5)) (tt := tYes) rfl scGrid.nd (pi_range1 (by rfl) L.rng (pa_cons (pv 3) pa_nil)) (blkOk_by (own := [("_law_k", 5)]) (N := nGrid) (sc := defScope lGrid) (by decide +kernel)) (fun _ _ _ _ _ => (pg_name (i := 5) scGrid.nd rfl (.inl rfl))) (fun _ _ _ _ _ => pts_nil) (fun _ _ _ _ _ => (pe_call R.ok hr (by rfl) R.gl R.kp R.bd .nil pass0 (pa_cons (pv 0) (pa_cons (pv 1) (pa_cons (pv 2) pa_nil))))))))))))), ?_⟩
    refine ⟨_, rfl, b, l, 4, rfl, hb, by decide, by decide, fun n H1 n0 n1 u1 b1 => ⟨_, _, rfl, rfl, ?_⟩⟩
    refine ⟨_, rfl, b, l, 3, rfl, b1, by decide, by decide, fun m H2 m0 m1 u2 b2 => ⟨_, _, rfl, rfl, ?_⟩⟩
    refine ⟨_, rfl, b, l, 5, rfl, b2, by decide, by decide, fun sh H3 s0 s1 u3 b3 => ?_⟩
    have sb : SameBut b H H3 := but_same ((u1.trans u2).trans u3)
    refine setG ?_
    dsimp only
    refine joinW (fun σ G => ∃ w h, σ = [some (.ref b), some (.str (S z)), some (.int w), some (.int h), some (.int sh), none] ∧ G = H3 ∧ 1 ≤ w ∧ w ≤ 8 ∧ 1 ≤ h ∧ h ≤ 8 ∧ (sh ≠ 0 → w ≤ 4 ∧ h ≤ 3)) (fun nx hnx => ?_) ?_
    · refine ifN (fun _ q => ⟨_, rfl, rfl, _, rfl, q⟩) (fun e => ?_) (fun e => ?_)
      · simp at e
        exact ⟨_, rfl, _, rfl, _, _, rfl, rfl, _, _, rfl, rfl, hnx _ _ ⟨(1 + n + (1 + m) + 1 : Int), 1, rfl, rfl, by omega, by omega, by omega, by omega, by omega⟩⟩
      · simp at e
        exact hnx _ _ ⟨1 + n, 1 + m, rfl, rfl, by omega, by omega, by omega, by omega, by omega⟩
    rintro σ G ⟨w1, h1, rfl, rfl, wa, wb, ha, hb', w4⟩
    refine joinW (fun σ G' => ∃ w h, σ = [some (.ref b), some (.str (S z)), some (.int w), some (.int h), some (.int sh), none] ∧ G' = G ∧ 1 ≤ w ∧ w ≤ 8 ∧ 1 ≤ h ∧ h ≤ 8) (fun nx hnx => ?_) ?_
    · refine ifN (fun _ q => ⟨_, rfl, rfl, _, rfl, q⟩) (fun e => ?_) (fun e => ?_)
      · simp at e
        have := w4 (by omega)
        exact ⟨_, rfl, _, rfl, _, _, rfl, rfl, _, _, rfl, rfl, hnx _ _ ⟨1, w1 + h1 + 1, rfl, rfl, by omega, by omega, by omega, by omega⟩⟩
      · exact hnx _ _ ⟨w1, h1, rfl, rfl, wa, wb, ha, hb'⟩
    clear wa wb ha hb' w4
    rintro σ G' ⟨w2, h2, rfl, rfl, wa, wb, ha, hb'⟩
    refine ⟨_, rfl, h2, rfl, by omega, by omega, fun D nD => ?_⟩
    have nDb : D ≠ b := fun e => by
      obtain ⟨xs, e2⟩ := bag_b b3
      rw [e, e2] at nD
      cases nD
    have nDl : D ≠ l := fun e => by
      obtain ⟨xs, e2⟩ := bag_l b3
      rw [e, e2] at nD
      cases nD
    have nD0 : H D = none := by
      cases e : H D with
      | none => rfl
      | some o =>
        have := sb D o nDb e
        rw [this] at nD
        cases nD
    refine lc_range (lo := 0) (n := h2.toNat) (fun i G => ∃ R : Rows, R.length = i ∧ (∀ r ∈ R, (r.length : Int) = w2 ∧ ∀ c ∈ r, Good c) ∧ SameBut b H G ∧ BagL G b l ∧ G D = some (.lst (rowsV R))) ⟨[], rfl, (fun r hr => nomatch hr), fun a o ha e => ?_, bag_upd b3 nD, upd_same⟩ ?_ ?_
    · rw [upd_ne (ne_of_none (sb a o ha e) nD)]
      exact sb a o ha e
    · rintro i G hi ⟨R, lR, gR, sG, bG, hD⟩
      refine ⟨rfl, tyes (iteT ⟨_, rfl, _, rfl, _, rfl, b, l, z, w2, rfl, bG, hz, by omega, by omega, fun r G1 lr gr u3 b3 => ⟨rowsV R, (u3 D nDb).trans hD, ?_, R ++ [r], ?_, ?_, fun a o ha e => ?_, ?_, ?_⟩⟩)⟩
      · rw [rowsV_len]
        exact small1000 (by omega)
      · rw [List.length_append, lR]
        rfl
      · intro q hq
        rcases List.mem_append.mp hq with y | y
        · exact gR q y
        · rw [List.mem_singleton.mp y]
          exact ⟨lr, gr⟩
      · rw [upd_ne (ne_of_none e nD0)]
        exact (u3 a ha).trans (sG a o ha e)
      · exact bag_ne b3 nDb nDl
      · rw [upd_same]
        unfold rowsV
        rw [List.map_append]
        rfl
    · rintro G ⟨R, lR, gR, sG, bG, hD⟩
      refine k D R w2.toNat G ⟨by omega, by omega, by omega, by omega, fun r hr => by have := (gR r hr).1; omega, fun r hr => (gR r hr).2⟩ sG bG nD0 hD
end
end Pm
/-! ### _law_table -/
namespace Pm
open PySem PySem.Spec PyProof.Rows L2 SX Tr
/-- a table that grows while the bag is drawn from -/
structure TabB (H1 G : Hp) (b l D : Addr) (R : List Addr) (T : Tab) : Prop where
  bag : BagL G b l
  tb : TabAt G D R T
  nw : NewT H1 D R
  sb : SameBut b H1 G
theorem bag_not {H : Hp} {b l D : Addr} (hb : BagL H b l) (n : H D = none) : D ≠ b ∧ D ≠ l := by
  constructor
  · intro e
    obtain ⟨xs, e2⟩ := bag_b hb
    rw [e, e2] at n
    cases n
  · intro e
    obtain ⟨xs, e2⟩ := bag_l hb
    rw [e, e2] at n
    cases n
theorem TabB.zero {H1 : Hp} {b l D : Addr} (b0 : BagL H1 b l) (n : H1 D = none) : TabB H1 (upd H1 D (.lst [])) b l D [] [] :=
  ⟨bag_upd b0 n, ⟨upd_same, rfl, fun j r z e => nomatch e⟩, ⟨List.nodup_cons.mpr ⟨by simp, List.nodup_nil⟩, fun c m => by rw [List.mem_singleton.mp m]; exact n⟩, sb_of (same_upd n)⟩
theorem TabB.add {H1 G G' : Hp} {b l D p : Addr} {R : List Addr} {T : Tab} {z : List (List Nat)} (h : TabB H1 G b l D R T) (b0 : BagL H1 b l) (s : SameBut b G G') (hb : BagL G' b l) (np : G p = none) (hp : G' p = some (.lst (rowsV z))) :
    TabB H1 (upd G' D (.lst (R.map V.ref ++ [.ref p]))) b l D (R ++ [p]) (T ++ [z]) := by
  obtain ⟨Db, Dl⟩ := bag_not b0 (h.nw.2 D List.mem_cons_self)
  have pD : p ≠ D := fun y => by rw [y, h.tb.1] at np; cases np
  have pR : p ∉ R := fun m => by
    obtain ⟨o, ho⟩ := tab_some h.tb p (List.mem_cons_of_mem _ m)
    rw [np] at ho
    cases ho
  have pb : p ≠ b := (bag_not h.bag np).1
  have n1 := List.nodup_cons.mp h.nw.1
  refine ⟨bag_ne hb Db Dl, ⟨?_, by rw [List.length_append, List.length_append, h.tb.2.1]; rfl, fun j r y e1 e2 => ?_⟩, ⟨List.nodup_cons.mpr ⟨fun m => ?_, ?_⟩, fun c m => ?_⟩, fun c o nc e => ?_⟩
  · rw [upd_same, List.map_append]
    rfl
  · by_cases lj : j < R.length
    · rw [List.getElem?_append_left lj] at e1
      rw [List.getElem?_append_left (by rw [← h.tb.2.1]; exact lj)] at e2
      have mr : r ∈ R := List.mem_of_getElem? e1
      rw [upd_ne (show r ≠ D from fun q => n1.1 (q ▸ mr))]
      exact s _ _ (bag_not b0 (h.nw.2 r (List.mem_cons_of_mem _ mr))).1 (h.tb.2.2 j r y e1 e2)
    · rw [List.getElem?_append_right (by omega)] at e1
      rw [List.getElem?_append_right (by rw [← h.tb.2.1]; omega)] at e2
      have ej : j - R.length = 0 := by
        have := (List.getElem?_eq_some_iff.mp e1).1
        simp at this
        omega
      rw [ej] at e1
      rw [← h.tb.2.1, ej] at e2
      cases e1
      cases e2
      rw [upd_ne pD]
      exact hp
  · rcases List.mem_append.mp m with m | m
    · exact n1.1 m
    · exact pD (List.mem_singleton.mp m).symm
  · rw [List.nodup_append]
    exact ⟨n1.2, by simp, fun a ma c mc y => by rw [List.mem_singleton.mp mc] at y; exact pR (y ▸ ma)⟩
  · rcases List.mem_cons.mp m with y | m
    · rw [y]; exact h.nw.2 D List.mem_cons_self
    · rcases List.mem_append.mp m with m | m
      · exact h.nw.2 c (List.mem_cons_of_mem _ m)
      · rw [List.mem_singleton.mp m]
        obtain ⟨xs, e2⟩ := bag_b b0
        exact but_back e2 h.sb pb np
  · rw [upd_ne (fun y => by rw [y, h.nw.2 D List.mem_cons_self] at e; cases e)]
    exact s _ _ nc (h.sb _ _ nc e)
section
variable {P : Program} {w : World} {K : PySem.W.Frag} {mg : Str → Option Value} {base : Heap}
def spTable : Sp := fun vs H Q _ => ∃ b l z rr R m, vs = [.ref b, .str (S z), .ref rr] ∧ BagL H b l ∧ Pal z ∧ Grid R m ∧ H rr = some (.lst (rowsV R)) ∧ ∀ t R2 T H', TabOk T m R.length → TabB H H' b l t R2 T → Q (.ref t) H'
abbrev nTable : List Str := ["_law_bag_here", "_law_palette_here", "_law_rows", "_law_table_here", "_law_row_here", "_law_sign"]
theorem scTable : FnScope nTable ["_law_bag_here", "_law_palette_here", "_law_rows"] (defScope lTable) := ⟨rfl, rfl, rfl, by decide +kernel, rfl, by decide +kernel, by decide +kernel⟩
theorem ok_table {f a1 : Addr} {fd b1 : FuncData} (F : Fun K "_law_table" "_law_table" lTable f fd) (cA : Cl P w K mg base CX0 2 "_law_allowed" ["_law_bag_here", "_law_palette_here", "_law_sign"] spAlwd a1 b1) :
    FnOk P w K mg base CX0 3 f fd ["_law_bag_here", "_law_palette_here", "_law_rows"] spTable := by
  refine F.ok scTable (fun vs H Q E h => ?_) (fun cdv A outer s H vs Q E hr h => ?_)
  · obtain ⟨b, l, z, rr, R, m, rfl, _⟩ := h
    rfl
  obtain ⟨b, l, z, rr, R, m, rfl, hb, hz, g, hR, k⟩ := h
  have rrb : rr ≠ b := (row_bag hb hR (fun e => by have := g.h1; rw [e] at this; simp at this)).1
  refine ⟨_, pss_cons (ps_set (i := 3) scTable.nd rfl (.inl rfl) (pe_lst pa_nil))
    (pss_cons (ps_for PassesOwn.never rfl (pi_list (pv 2)) (pg_name (i := 4) scTable.nd rfl (.inl rfl)) (pss_one (ps_expr (pe_bm PySem.F.plainAttrs_list PySem.F.slot_list_append PySem.F.type_list_append mt_append (pv 3) (pa_cons (pe_lc (own := [("_law_sign", 5)]) (g := gName 5) (tt := tYes) rfl scTable.nd (pi_str (pv 4)) (blkOk_by (own := [("_law_sign", 5)]) (N := nTable) (sc := defScope lTable) (by decide +kernel)) (fun _ _ _ _ _ => pg_name (i := 5) scTable.nd rfl (.inl rfl)) (fun _ _ _ _ _ => pts_nil) (fun _ _ _ _ _ => pe_call cA.ok hr (by rfl) cA.gl cA.kp cA.bd .nil pass0 (pa_cons (pv 0) (pa_cons (pv 1) (pa_cons (pv 5) pa_nil))))) pa_nil)))))
    (pss_one (ps_ret (pv 3)))), ?_⟩
  refine ⟨Nat.zero_le _, fun t nt => ?_⟩
  have rrt : rr ≠ t := fun e => by rw [e, nt] at hR; cases hR
  refine ⟨_, rfl, rr, rfl, ⟨_, SqL.of (by rw [upd_ne rrt]; exact hR)⟩, for_list (K := K) (a := rr) (xs := rowsV R) (fun i σ G => ∃ y4 R2 T, σ = [some (.ref b), some (.str (S z)), some (.ref rr), some (.ref t), y4, none] ∧ TabB H G b l t R2 T ∧ T.length = i ∧ (∀ r ∈ T, r.length = m ∧ ∀ w ∈ r, okW w)) ⟨_, [], [], rfl, TabB.zero hb nt, rfl, fun r mr => nomatch mr⟩ (fun i σ G _ ⟨_, _, _, _, tB, _⟩ => SqL.of (tB.sb _ _ rrb hR)) ?_ ?_⟩
  · rintro i x σ G hx ⟨y4, R2, T, rfl, tB, lT, okT⟩
    obtain ⟨r, hr0, rfl⟩ := rowsV_at hx
    have mr : r ∈ R := List.mem_of_getElem? hr0
    have lr : r.length = m := g.row r mr
    have li : i < R.length := (List.getElem?_eq_some_iff.mp hr0).1
    have h8 := g.h8
    have w8 := g.w8
    refine ⟨_, rfl, .inl ⟨rfl, _, SqL.of tB.tb.1⟩, _, rfl, _, rfl, fun D nD => ?_⟩
    obtain ⟨Db, Dl⟩ := bag_not tB.bag nD
    refine lc_it walk_str (fun i2 G2 => ∃ zs : List (List Nat), zs.length = i2 ∧ (∀ w ∈ zs, okW w) ∧ SameBut b G G2 ∧ BagL G2 b l ∧ G2 D = some (.lst (rowsV zs))) ⟨[], rfl, (fun w mw => nomatch mw), sb_of (same_upd nD), bag_upd tB.bag nD, upd_same⟩ (fun _ _ _ _ => trivial) ?_ ?_
    · rintro i2 x2 G2 G3 hi2 ⟨zs, lz, okz, s2, b2, hD⟩ ⟨rfl, d, gd, rfl⟩
      have gd2 : r[i2]? = some d := by
        have y : r.toArray[i2]? = some d := gd
        rwa [List.getElem?_toArray] at y
      have li2 : i2 < r.length := (List.getElem?_eq_some_iff.mp gd2).1
      have md : d ∈ r := List.mem_of_getElem? gd2
      refine ⟨rfl, tyes (iteT ⟨_, rfl, _, rfl, _, rfl, b, l, z, d, rfl, b2, hz, g.sgn r mr d md, fun y G4 wy s4 b4 => ⟨_, s4 _ _ Db hD, by rw [rowsV_len, lz]; exact small1000 (by omega), zs ++ [y], by rw [List.length_append, lz]; rfl, fun w mw => ?_, fun c o nc e => ?_, bag_ne b4 Db Dl, ?_⟩⟩)⟩
      · rcases List.mem_append.mp mw with mw | mw
        · exact okz w mw
        · rw [List.mem_singleton.mp mw]; exact wy
      · rw [upd_ne (ne_of_none e nD)]
        exact s4 _ _ nc (s2 _ _ nc e)
      · rw [upd_same]
        unfold rowsV
        rw [List.map_append]
        rfl
    · rintro G2 ⟨zs, lz, okz, s2, b2, hD⟩
      have lz2 : zs.length = m := by
        rw [lz, ← lr]
        simp
      have tb2 := tB.tb.keep (H' := G2) fun c o mc e => s2 c o (bag_not hb (tB.nw.2 c mc)).1 e
      refine ⟨t, _, _, rfl, rfl, tb2.1, by rw [List.length_map, tB.tb.2.1, lT]; exact small1000 (by omega), _, R2 ++ [D], T ++ [zs], rfl, tB.add hb s2 b2 nD hD, by rw [List.length_append, lT]; rfl, fun q mq => ?_⟩
      rcases List.mem_append.mp mq with mq | mq
      · exact okT q mq
      · rw [List.mem_singleton.mp mq]; exact ⟨lz2, okz⟩
  · rintro σ G ⟨y4, R2, T, rfl, tB, lT, okT⟩
    rw [rowsV_len] at lT
    exact ⟨_, rfl, k t R2 T G ⟨lT, fun r mr => (okT r mr).1, g.w1, g.w8, g.h1, g.h8, fun r mr => (okT r mr).2⟩ tB⟩
end
end Pm
/-! ### _law_common_apart -/
namespace Pm
open PySem PySem.Spec PyProof.Rows L2 SX Tr
theorem strict_uniq : ∀ {a b : List Nat}, a.Pairwise (· < ·) → b.Pairwise (· < ·) → (∀ c, c ∈ a ↔ c ∈ b) → a = b
  | [], [], _, _, _ => rfl
  | [], y :: b, _, _, h => nomatch (h y).mpr List.mem_cons_self
  | x :: a, [], _, _, h => nomatch (h x).mp List.mem_cons_self
  | x :: a, y :: b, ha, hb, h => by
    obtain ⟨a1, a2⟩ := List.pairwise_cons.mp ha
    obtain ⟨b1, b2⟩ := List.pairwise_cons.mp hb
    have e : x = y := by
      have h1 := (h x).mp List.mem_cons_self
      have h2 := (h y).mpr List.mem_cons_self
      rcases List.mem_cons.mp h1 with e | m1
      · exact e
      · rcases List.mem_cons.mp h2 with e | m2
        · exact e.symm
        · have := a1 y m2
          have := b1 x m1
          omega
    subst e
    rw [strict_uniq a2 b2 fun c => ?_]
    constructor
    · intro m
      have := a1 c m
      rcases List.mem_cons.mp ((h c).mp (List.mem_cons_of_mem _ m)) with e | m2
      · omega
      · exact m2
    · intro m
      have := b1 c m
      rcases List.mem_cons.mp ((h c).mpr (List.mem_cons_of_mem _ m)) with e | m2
      · omega
      · exact m2
theorem okW.strict {z : List Nat} (h : okW z) : z.Pairwise (· < ·) := by
  obtain ⟨_, _, _, nd, e⟩ := h
  have le := asc_le z
  rw [e] at le
  rw [List.pairwise_iff_getElem] at le ⊢
  rw [List.nodup_iff_pairwise_ne, List.pairwise_iff_getElem] at nd
  intro i j hi hj ij
  have := le i j hi hj ij
  have := nd i j hi hj ij
  omega
theorem okW.any {z : List Nat} (h : okW z) : ∀ c ∈ z, c ∈ anyL := fun c m => by
  rcases h.2.2.1 c m with rfl | ⟨a, b⟩
  · decide
  · have : c ∈ (List.range 26).map (97 + ·) := List.mem_map.mpr ⟨c - 97, List.mem_range.mpr (by omega), by omega⟩
    have e : (List.range 26).map (97 + ·) = anyL.tail := by decide
    rw [e] at this
    exact List.mem_of_mem_tail this
theorem com_self {z : List Nat} : com z z = z := List.filter_eq_self.mpr fun c m => decide_eq_true m
theorem com_anyR {z : List Nat} (h : okW z) : com z anyL = z := List.filter_eq_self.mpr fun c m => decide_eq_true (h.any c m)
theorem com_anyL {z : List Nat} (h : okW z) : com anyL z = z := by
  refine strict_uniq ((any_ok.strict).sublist List.filter_sublist) h.strict fun c => ?_
  unfold com
  rw [List.mem_filter, decide_eq_true_eq]
  exact ⟨fun m => m.2, fun m => ⟨h.any c m, m⟩⟩
theorem comT_eq {T U W : Tab} {m n : Nat} (g : TabOk T m n) (g2 : TabOk U m n) (g3 : TabOk W m n) (h : ∀ (j i : Nat) r s q z y w, T[j]? = some r → U[j]? = some s → W[j]? = some q → r[i]? = some z → s[i]? = some y → q[i]? = some w → com z y = w) : comT T U = W := by
  obtain ⟨l1, l2⟩ := comT_len g g2
  refine List.ext_getElem (by rw [l1, g3.h]) fun j h1 h2 => ?_
  have jT : j < T.length := by rw [g.h, ← g3.h]; exact h2
  have jU : j < U.length := by rw [g2.h, ← g3.h]; exact h2
  have e1 : (comT T U)[j] = List.zipWith com T[j] U[j] := by
    have q : (comT T U)[j]? = some (List.zipWith com T[j] U[j]) := by
      unfold comT
      rw [List.getElem?_zipWith, List.getElem?_eq_getElem jT, List.getElem?_eq_getElem jU]
    rw [List.getElem?_eq_getElem h1] at q
    exact Option.some.inj q
  have w1 := g.w _ (List.getElem_mem jT)
  have w2 := g2.w _ (List.getElem_mem jU)
  have w3 := g3.w _ (List.getElem_mem h2)
  rw [e1]
  refine List.ext_getElem (by rw [List.length_zipWith, w1, w2, w3, Nat.min_self]) fun i i1 i2 => ?_
  have iT : i < T[j].length := by omega
  have iU : i < U[j].length := by omega
  rw [List.getElem_zipWith]
  exact h j i _ _ _ _ _ _ (List.getElem?_eq_getElem jT) (List.getElem?_eq_getElem jU) (List.getElem?_eq_getElem h2) (List.getElem?_eq_getElem iT) (List.getElem?_eq_getElem iU) (List.getElem?_eq_getElem i2)
theorem full_at {m n j i : Nat} {r : List (List Nat)} {z : List Nat} (h1 : (fullT m n)[j]? = some r) (h2 : r[i]? = some z) : z = anyL := by
  have e := List.eq_of_mem_replicate (List.mem_of_getElem? h1)
  subst e
  exact List.eq_of_mem_replicate (List.mem_of_getElem? h2)
theorem com_fullL {T : Tab} {m n : Nat} (g : TabOk T m n) : comT (fullT m n) T = T := comT_eq (full_ok g.m1 g.m8 g.n1 g.n8) g g fun j i r s q z y w h1 h2 h3 h4 h5 h6 => by
  rw [full_at h1 h4]
  rw [h2] at h3
  cases h3
  rw [h5] at h6
  cases h6
  exact com_anyL (g.ok _ (List.mem_of_getElem? h2) _ (List.mem_of_getElem? h5))
theorem com_fullR {T : Tab} {m n : Nat} (g : TabOk T m n) : comT T (fullT m n) = T := comT_eq g (full_ok g.m1 g.m8 g.n1 g.n8) g fun j i r s q z y w h1 h2 h3 h4 h5 h6 => by
  rw [full_at h2 h5]
  rw [h1] at h3
  cases h3
  rw [h4] at h6
  cases h6
  exact com_anyR (g.ok _ (List.mem_of_getElem? h1) _ (List.mem_of_getElem? h4))
theorem com_same {T : Tab} {m n : Nat} (g : TabOk T m n) : comT T T = T := comT_eq g g g fun j i r s q z y w h1 h2 h3 h4 h5 h6 => by
  rw [h1] at h2 h3
  cases h2
  cases h3
  rw [h4] at h5 h6
  cases h5
  cases h6
  exact com_self
theorem firstC_ne : ∀ (r : List (List Nat)) (i : Nat), (∀ w ∈ r, w ≠ []) → firstC i r = none
  | [], _, _ => rfl
  | w :: r, i, h => by
    unfold firstC
    rw [if_neg (h w List.mem_cons_self)]
    exact firstC_ne r (i + 1) fun v m => h v (List.mem_cons_of_mem _ m)
theorem firstE_ne : ∀ (T : Tab) (j : Nat), (∀ r ∈ T, ∀ w ∈ r, w ≠ []) → firstE j T = none
  | [], _, _ => rfl
  | r :: T, j, h => by
    unfold firstE
    rw [firstC_ne r 0 (h r List.mem_cons_self)]
    exact firstE_ne T (j + 1) fun q m => h q (List.mem_cons_of_mem _ m)
theorem TabOk.none {T : Tab} {m n : Nat} (g : TabOk T m n) : firstE 0 T = none := firstE_ne T 0 fun r mr w mw => (g.ok r mr w mw).1
theorem sk_put {CS : Addr} {G G' : Hp} {x a r : Addr} {R : List Addr} {T : Tab} {m n i j : Nat} {row : List (List Nat)} {y : List Nat} (h : SkAt CS G x a R T m n) (nd : (x :: a :: R).Nodup) (hr : R[j]? = some r) (s : SameBut r G G') (e : G' r = some (.lst (rowsV (row.set i y)))) : SkAt CS G' x a R (T.set j (row.set i y)) m n := by
  have mr : r ∈ a :: R := List.mem_cons_of_mem _ (List.mem_of_getElem? hr)
  obtain ⟨dx, ho⟩ := h.o
  exact ⟨⟨dx, s _ _ (fun q => (List.nodup_cons.mp nd).1 (q ▸ mr)) ho⟩, h.t.put (List.nodup_cons.mp nd).2 hr s e⟩
/-- a new sketch may be changed: what stood before stays -/
theorem same_put {H0 G G' : Hp} {x a r : Addr} {R : List Addr} {j : Nat} (nk : NewSk H0 x a R) (hr : R[j]? = some r) (s0 : Same H0 G) (s : SameBut r G G') : Same H0 G' := fun b o e => s b o (fun q => by
  rw [q, nk.2 r (List.mem_cons_of_mem _ (List.mem_cons_of_mem _ (List.mem_of_getElem? hr)))] at e
  cases e) (s0 _ _ e)
theorem ok_dz : okZ [46, 122] := ⟨by decide, by decide, by decide, by decide⟩
theorem ok_z : okZ [122] := ⟨by decide, by decide, by decide, by decide⟩
section
variable {P : Program} {w : World} {K : PySem.W.Frag} {mg : Str → Option Value} {base : Heap} {CS CY CU : Addr}
def spApart (CS : Addr) : Sp := fun vs H Q _ => ∃ x1 a1 R1 T1 x2 a2 R2 T2 t1 U1 t2 U2 m n, vs = [.ref x1, .ref x2, .ref t1, .ref t2] ∧ SkAt CS H x1 a1 R1 T1 m n ∧ SkAt CS H x2 a2 R2 T2 m n ∧ TabAt H t1 U1 T1 ∧ TabAt H t2 U2 T2 ∧ TabOk T1 m n ∧ TabOk T2 m n ∧ ∀ H', Same H H' → Q (.bl true) H'
abbrev nApart : List Str := ["_law_first", "_law_second", "_law_ones", "_law_twos", "_law_whole", "_law_trio", "_law_common"]
abbrev pApart : List Str := ["_law_first", "_law_second", "_law_ones", "_law_twos"]
theorem scApart : FnScope nApart pApart (defScope lCommonApart) := ⟨rfl, rfl, rfl, by decide +kernel, rfl, by decide +kernel, by decide +kernel⟩
theorem ok_apart {f fI fA fT fG fL a1 a2 : Addr} {fd dI dA dT dG dL b1 b2 : FuncData} {ds : List Value} (F : Fun K "_law_common_apart" "_law_common_apart" lCommonApart f fd) (L : LTxt K mg) (O : SkT P w K mg base CS fT fG dT dG) (M : MkS P w K mg base CS fI dI ds)
    (OA : FnOk P w K mg base (L2.CX P w) 3 fA dA ["self", "other"] (spAnd CS CY CU)) (mA : OwnM K CS "__and__" fA) (bA : Binds K dA ["self", "other"] []) (sf : PySem.W.selfFirst K CS = true) (OL : FnOk P w K mg base CX0 4 fL dL nAllow (spAllow CS)) (mL : Meth K CS "allow" fL) (bL : Binds K dL nAllow [])
    (cX : Cl P w K mg base CX0 1 "_law_sketch_text" ["_law_table_here"] (spG K gLText) a1 b1) (cAny : Cl P w K mg base CX0 1 "_law_any" [] spAny a2 b2) : FnOk P w K mg base CX0 5 f fd pApart (spApart CS) := by
  refine F.ok scApart (fun vs H Q E h => ?_) (fun cdv A outer s H vs Q E hr h => ?_)
  · obtain ⟨x1, a1, R1, T1, x2, a2, R2, T2, t1, U1, t2, U2, m, n, rfl, _⟩ := h
    rfl
  obtain ⟨x1, a1, R1, T1, x2, a2, R2, T2, t1, U1, t2, U2, m, n, rfl, hs1, hs2, ht1, ht2, g1, g2, k⟩ := h
  have hr1 : Room 1 _ := hr.mono (by decide)
  have hr2 : Room 2 _ := hr.mono (by decide)
  have hr3 : Room 3 _ := hr.mono (by decide)
  refine ⟨_, pss_cons (ps_set (i := 4) scApart.nd rfl (.inl rfl) (pe_make M.mkk M.OI hr2 (by rfl) O.T.gS M.bd M.dv pass0 (pa_cons (pe_callB call_len_seq (by rfl) L.len PySem.boot_len (pa_cons (pe_ix ix_list (pv 2) pe_int (fun _ _ => rfl)) pa_nil)) (pa_cons (pe_callB call_len_seq (by rfl) L.len PySem.boot_len (pa_cons (pv 2) pa_nil)) pa_nil))))
    (pss_cons (ps_for PassesOwn.never rfl (pi_list (pe_lst (pa_cons (pe_lst (pa_cons (pv 4) (pa_cons (pv 0) (pa_cons (pv 2) pa_nil)))) (pa_cons (pe_lst (pa_cons (pv 0) (pa_cons (pv 4) (pa_cons (pv 2) pa_nil)))) (pa_cons (pe_lst (pa_cons (pv 4) (pa_cons (pv 1) (pa_cons (pv 3) pa_nil)))) pa_nil))))) (pg_name (i := 5) scApart.nd rfl (.inl rfl))
      (pss_cons (ps_set (i := 6) scApart.nd rfl (.inl rfl) (pe_band (E := fun _ => E0) OA hr3 bA (fun σ pins H s e s' I c => passF pins σ H s e s' I c) sf mA (pe_ix ix_list (pv 5) pe_int (fun _ _ => rfl)) (pe_ix ix_list (pv 5) pe_int (fun _ _ => rfl))))
      (pss_cons (ps_if (pt_cmpR op_ne (pe_meth0 (pv 6) O.T.cl O.mT O.OT hr1 O.bT .nil pass0) (pe_call cX.ok hr1 (by rfl) cX.gl cX.kp cX.bd .nil pass0 (pa_cons (pe_ix ix_list (pv 5) pe_int (fun _ _ => rfl)) pa_nil)) (nomark _)) (pss_one (ps_ret pe_bl)) pss_nil)
      (pss_cons (ps_expr (pe_meth (pv 6) O.T.cl mL OL hr bL .nil pass0 (pa_cons pe_int (pa_cons pe_int (pa_cons pe_str pa_nil)))))
      (pss_one (ps_expr (pe_meth (pv 6) O.T.cl mL OL hr bL .nil pass0 (pa_cons pe_int (pa_cons pe_int (pa_cons pe_str pa_nil)))))))))) 
    (pss_one (ps_ret (pe_cmpR op_eq (pe_item O.OI hr3 O.bI O.mI O.fi (pv 4) (pe_tup (pa_cons pe_int (pa_cons pe_int pa_nil)))) (pe_call0 cAny.ok hr1 (by rfl) cAny.gl cAny.kp cAny.bd .nil pass0) (nomark _))))), ?_⟩
  have l1 : 0 < U1.length := by rw [ht1.2.1, g1.h]; exact g1.n1
  have lT1 : 0 < T1.length := by rw [g1.h]; exact g1.n1
  have hr0 : U1[0]? = some U1[0] := List.getElem?_eq_getElem l1
  have hT0 : T1[0]? = some T1[0] := List.getElem?_eq_getElem lT1
  have hrow := ht1.2.2 0 _ _ hr0 hT0
  have lm : (rowsV T1[0]).length = m := by rw [rowsV_len]; exact g1.w _ (List.getElem_mem lT1)
  have ln : (U1.map V.ref).length = n := by rw [List.length_map, ht1.2.1, g1.h]
  refine ⟨_, rfl, t1, _, 0, _, rfl, rfl, SqL.of ht1.1, atI_nat (j := 0) (by rw [List.getElem?_map, hr0]; rfl), U1[0], _, rfl, .inl (SqL.of hrow), ?_⟩
  refine ⟨_, rfl, t1, _, rfl, .inl (SqL.of ht1.1), fun x dx nx ndx ne => ⟨x, dx, m, n, .non, by rw [lm, ln]; rfl, upd_same, g1.m1, g1.m8, g1.n1, g1.n8, .inl ⟨rfl, fun H5 a5 R s5 hx5 tT nw => ⟨rfl, ?_⟩⟩⟩⟩
  obtain ⟨up5, sk5, nk5⟩ := made_full nx ndx ne s5 hx5 tT nw
  have gF := full_ok g1.m1 g1.m8 g1.n1 g1.n8
  have hs1 := hs1.up up5
  have hs2 := hs2.up up5
  have ht1 := ht1.up up5
  have ht2 := ht2.up up5
  clear nk5 nw tT hx5 s5 hrow hr0 hT0
  refine setG ?_
  dsimp only
  refine ⟨_, rfl, _, rfl, _, rfl, by show 3 ≤ sizeLine; decide, fun q1 nq1 => ⟨_, rfl, _, rfl, _, rfl, by show 3 ≤ sizeLine; decide, fun q2 nq2 => ⟨_, rfl, _, rfl, _, rfl, by show 3 ≤ sizeLine; decide, fun q3 nq3 => ⟨by show 3 ≤ sizeLine; decide, fun p np => ?_⟩⟩⟩⟩
  have c1 := same_upd (o := .lst [.ref x, .ref x1, .ref t1]) nq1
  have c2 := same_upd (o := .lst [.ref x1, .ref x, .ref t1]) nq2
  have c3 := same_upd (o := .lst [.ref x, .ref x2, .ref t2]) nq3
  have c4 := same_upd (o := .lst [.ref q1, .ref q2, .ref q3]) np
  have b1 : upd (upd (upd (upd H5 q1 (.lst [.ref x, .ref x1, .ref t1])) q2 (.lst [.ref x1, .ref x, .ref t1])) q3 (.lst [.ref x, .ref x2, .ref t2])) p (.lst [.ref q1, .ref q2, .ref q3]) q1 = some (.lst [.ref x, .ref x1, .ref t1]) := c4 _ _ (c3 _ _ (c2 _ _ upd_same))
  have b2 : upd (upd (upd (upd H5 q1 (.lst [.ref x, .ref x1, .ref t1])) q2 (.lst [.ref x1, .ref x, .ref t1])) q3 (.lst [.ref x, .ref x2, .ref t2])) p (.lst [.ref q1, .ref q2, .ref q3]) q2 = some (.lst [.ref x1, .ref x, .ref t1]) := c4 _ _ (c3 _ _ upd_same)
  have b3 : upd (upd (upd (upd H5 q1 (.lst [.ref x, .ref x1, .ref t1])) q2 (.lst [.ref x1, .ref x, .ref t1])) q3 (.lst [.ref x, .ref x2, .ref t2])) p (.lst [.ref q1, .ref q2, .ref q3]) q3 = some (.lst [.ref x, .ref x2, .ref t2]) := c4 _ _ upd_same
  have b4 : upd (upd (upd (upd H5 q1 (.lst [.ref x, .ref x1, .ref t1])) q2 (.lst [.ref x1, .ref x, .ref t1])) q3 (.lst [.ref x, .ref x2, .ref t2])) p (.lst [.ref q1, .ref q2, .ref q3]) p = some (.lst [.ref q1, .ref q2, .ref q3]) := upd_same
  have up6 : Same H5 (upd (upd (upd (upd H5 q1 (.lst [.ref x, .ref x1, .ref t1])) q2 (.lst [.ref x1, .ref x, .ref t1])) q3 (.lst [.ref x, .ref x2, .ref t2])) p (.lst [.ref q1, .ref q2, .ref q3])) := ((c1.trans c2).trans c3).trans c4
  revert b1 b2 b3 b4 up6
  generalize upd (upd (upd (upd H5 q1 (.lst [.ref x, .ref x1, .ref t1])) q2 (.lst [.ref x1, .ref x, .ref t1])) q3 (.lst [.ref x, .ref x2, .ref t2])) p (.lst [.ref q1, .ref q2, .ref q3]) = H6
  intro b1 b2 b3 b4 up6
  clear c1 c2 c3 c4 nq1 nq2 nq3 np
  have sk6 := sk5.up up6
  have hs1 := hs1.up up6
  have hs2 := hs2.up up6
  have ht1 := ht1.up up6
  have ht2 := ht2.up up6
  have upH : Same H H6 := up5.trans up6
  clear up5 up6 sk5
  refine ⟨p, rfl, ⟨_, SqL.of b4⟩, for_list (K := K) (a := p) (xs := [.ref q1, .ref q2, .ref q3]) (fun i σ G => ∃ y5 y6, σ = [some (.ref x1), some (.ref x2), some (.ref t1), some (.ref t2), some (.ref x), y5, y6] ∧ Same H6 G) ⟨_, _, rfl, Same.refl H6⟩ (fun i σ G _ ⟨_, _, _, sG⟩ => SqL.of (sG _ _ b4)) ?_ ?_⟩
  · rintro i v σ G hv ⟨y5, y6, rfl, sG⟩
    have data : ∃ q xa aa Ra TA xb ab Rb TB tc Rc TC, v = .ref q ∧ H6 q = some (.lst [.ref xa, .ref xb, .ref tc]) ∧ SkAt CS H6 xa aa Ra TA m n ∧ TabOk TA m n ∧ SkAt CS H6 xb ab Rb TB m n ∧ TabOk TB m n ∧ comT TA TB = TC ∧ TabAt H6 tc Rc TC ∧ TabOk TC m n := by
      match i, hv with
      | 0, hv => cases hv; exact ⟨q1, x, a5, R, _, x1, a1, R1, T1, t1, U1, T1, rfl, b1, sk6, gF, hs1, g1, com_fullL g1, ht1, g1⟩
      | 1, hv => cases hv; exact ⟨q2, x1, a1, R1, T1, x, a5, R, _, t1, U1, T1, rfl, b2, hs1, g1, sk6, gF, com_fullR g1, ht1, g1⟩
      | 2, hv => cases hv; exact ⟨q3, x, a5, R, _, x2, a2, R2, T2, t2, U2, T2, rfl, b3, sk6, gF, hs2, g2, com_fullL g2, ht2, g2⟩
      | i + 3, hv => cases hv
    obtain ⟨q, xa, aa, Ra, TA, xb, ab, Rb, TB, tc, Rc, TC, rfl, hq, sa, ga, sb, gb, eC, tC, gC⟩ := data
    have hqG := sG _ _ hq
    have saG := sa.up sG
    have sbG := sb.up sG
    obtain ⟨dxa, hoa⟩ := saG.o
    obtain ⟨dxb, hob⟩ := sbG.o
    have noE : firstE 0 (comT TA TB) = none := by rw [eC]; exact gC.none
    refine ⟨_, rfl, q, _, 0, _, rfl, rfl, SqL.of hqG, rfl, _, rfl, q, _, 1, _, rfl, rfl, SqL.of hqG, rfl, xa, xb, dxa, dxb, _, _, rfl, rfl, hoa, hob, xa, aa, Ra, TA, m, n, xb, ab, Rb, TB, m, n, rfl, saG, sbG, ga, gb, fun ne => absurd ⟨rfl, rfl⟩ ne, fun _ _ => ⟨(fun i j fe => by rw [noE] at fe; cases fe), fun _ G1 y ay Ry sG1 sk nk => ⟨y, rfl, ?_⟩⟩⟩
    rw [eC] at sk
    obtain ⟨dy, hy⟩ := sk.o
    have tcG := (tC.up sG).up sG1
    have hq1 := sG1 _ _ hqG
    refine ⟨_, rfl, y, dy, _, rfl, hy, rfl, [skD CS TC m n], .tx (tabT (starT TC)), ⟨TC, m, n, gC, rfl, rfl⟩, G1, Same.refl G1, .cons sk.rep .nil, fun v F1 G2 g2' f2 r2 => ?_⟩
    cases r2
    have sk2 := sk.up g2'.h
    refine ⟨_, rfl, q, _, 2, _, rfl, rfl, SqL.of (g2'.h _ _ hq1), rfl, [tabD TC], .tx (tabT (starT TC)), ⟨TC, m, n, gC, rfl, rfl⟩, G2, Same.refl G2, .cons (tcG.up g2'.h).rep .nil, fun v F1 G3 g3 f3 r3 => ?_⟩
    cases r3
    refine ⟨rfl, _, rfl, iteFe (by simp) ?_⟩
    have sk3 := sk2.up g3.h
    have sAll : Same H6 G3 := ((sG.trans sG1).trans g2'.h).trans g3.h
    have nkH : NewSk H6 y ay Ry := ⟨nk.1, fun c mc => sG.free (nk.2 c mc)⟩
    have l0 : 0 < TC.length := by rw [gC.h]; exact gC.n1
    have lR : 0 < Ry.length := by rw [sk3.t.2.1]; exact l0
    have hr0 : Ry[0]? = some Ry[0] := List.getElem?_eq_getElem lR
    have hw0 : TC[0]? = some TC[0] := List.getElem?_eq_getElem l0
    obtain ⟨dy3, hy3⟩ := sk3.o
    refine ⟨_, rfl, y, dy3, _, rfl, hy3, rfl, y, ay, Ry, TC, m, n, 0, 0, [46, 122], TC[0], Ry[0], by rw [show (S [46, 122] : Str) = ".z" from by decide +kernel]; rfl, sk3, gC, gC.m1, ok_dz, hr0, hw0, fun G4 s4 e4 => ?_⟩
    have sk4 := sk_put sk3 nk.1 hr0 s4 e4
    have gC4 := gC.put (i := 0) hw0 ok_dz.asc
    have sAll4 := same_put nkH hr0 sAll s4
    obtain ⟨dy4, hy4⟩ := sk4.o
    have hw4 : (TC.set 0 (TC[0].set 0 (asc [46, 122])))[0]? = some (TC[0].set 0 (asc [46, 122])) := by rw [List.getElem?_set_self (by exact l0)]
    refine ⟨_, rfl, y, dy4, _, rfl, hy4, rfl, y, ay, Ry, _, m, n, 0, 0, [122], _, Ry[0], by rw [show (S [122] : Str) = "z" from by decide +kernel]; rfl, sk4, gC4, gC.m1, ok_z, hr0, hw4, fun G5 s5 e5 => ?_⟩
    exact ⟨_, _, rfl, same_put nkH hr0 sAll4 s5⟩
  · rintro σ G ⟨y5, y6, rfl, sG⟩
    have skG := sk6.up sG
    obtain ⟨dxx, hxx⟩ := skG.o
    refine ⟨_, rfl, by show 2 ≤ sizeLine; decide, fun q nq => ?_⟩
    have sq := same_upd (o := .tup [.int 0, .int 0]) nq
    refine ⟨x, dxx, _, rfl, sq _ _ hxx, [skD CS (fullT m n) m n, cellD (0, 0)], .tx anyL, ⟨fullT m n, m, n, 0, 0, anyL, gF, ⟨List.replicate m anyL, ?_, ?_⟩, rfl, rfl⟩, _, Same.refl _, .cons (skG.up sq).rep (.cons (.tup upd_same (.cons (.int _) (.cons (.int _) .nil))) .nil), fun v F1 G1 g1' f1 r1 => ?_⟩
    · exact List.getElem?_replicate_of_lt gF.n1
    · exact List.getElem?_replicate_of_lt gF.m1
    cases r1
    refine ⟨rfl, rfl, ?_⟩
    have := k G1 ((upH.trans sG).trans (sq.trans g1'.h))
    simpa using this
end
end Pm
/-! ### the law (written by gen_l21.py) -/
namespace Pm
open PySem PySem.Spec PyProof.Rows L2 SX Tr
theorem eqN {d : PyData} (h : SeqAt.shaped d = true) : (!PyData.eqv d d) = false := by rw [SeqAt.eqv_refl d (SeqAt.canLay_of_shaped h)]; rfl
theorem join_low2 {s : Nat} (hs : s < 256) : ∀ {V : Rows}, (∀ w ∈ V, ∀ c ∈ w, c < 256) → ∀ c ∈ TL.joinL [s] V, c < 256
  | [], _, c, m => nomatch m
  | [z], h, c, m => h z List.mem_cons_self c m
  | z :: y :: r, h, c, m => by
    rcases List.mem_append.mp (show c ∈ z ++ ([s] ++ TL.joinL [s] (y :: r)) from m) with m | m
    · exact h z List.mem_cons_self c m
    · rcases List.mem_append.mp m with m | m
      · rw [List.mem_singleton.mp m]
        exact hs
      · exact join_low2 hs (fun w m => h w (List.mem_cons_of_mem _ m)) c m
theorem text_low {T : Tab} {m n : Nat} (g : TabOk T m n) : ∀ c ∈ tabT (starT T), c < 256 := by
  unfold tabT
  refine join_low2 (by decide) fun w mw => ?_
  obtain ⟨r, mr, rfl⟩ := List.mem_map.mp mw
  obtain ⟨q, mq, rfl⟩ := List.mem_map.mp mr
  refine join_low2 (by decide) fun w mw => ?_
  obtain ⟨v, mv, rfl⟩ := List.mem_map.mp mw
  unfold starW
  split
  · decide
  · intro c mc
    have := (g.ok q mq v mv).2.2.1 c mc
    omega
theorem tx_shaped {z : List Nat} (h : ∀ c ∈ z, c < 256) : SeqAt.shaped (toPy (.tx z)) = true := by
  have e : PyData.strOk (S z) = true := strOk_S h
  show SeqAt.shaped (.str (S z)) = true
  simp [SeqAt.shaped, PyData.canLay0, PyData.depth, e]
theorem due_plain {m n m2 n2 : Nat} {T U : Tab} : plain (dueD m n m2 n2 T U) = true := by
  unfold dueD dueC
  split
  · split <;> rfl
  · rfl
theorem due_shaped {m n m2 n2 : Nat} {T U : Tab} (g : TabOk T m n) (g2 : TabOk U m2 n2) : SeqAt.shaped (toPy (dueD m n m2 n2 T U)) = true := by
  have e1 : PyData.strOk (S emptyL) = true := strOk_S (by decide)
  have e2 : PyData.strOk (S sizeL) = true := strOk_S (by decide)
  unfold dueD
  split
  · rename_i h
    obtain ⟨rfl, rfl⟩ := h
    unfold dueC
    cases fe : firstE 0 (comT T U) with
    | some p =>
      show SeqAt.shaped (.tuple [.str (S emptyL), .int (p.1 : Nat), .int (p.2 : Nat), .bool true]) = true
      simp [SeqAt.shaped, PyData.canLayAll0, PyData.canLay0, PyData.depth, PyData.depthAll, e1]
    | none => exact tx_shaped (text_low (comT_ok g g2 fe))
  · show SeqAt.shaped (.tuple [.str (S sizeL), .bool true]) = true
    simp [SeqAt.shaped, PyData.canLayAll0, PyData.canLay0, PyData.depth, PyData.depthAll, e2]
/-- three sketches and their tables -/
structure St21 (CS : Addr) (G : Hp) (x1 a1 : Addr) (R1 : List Addr) (T1 : Tab) (x2 a2 : Addr) (R2 : List Addr) (T2 : Tab) (m n : Nat) (x3 a3 : Addr) (R3 : List Addr) (T3 : Tab) (m3 n3 : Nat) (t1 : Addr) (U1 : List Addr) (t2 : Addr) (U2 : List Addr) (t3 : Addr) (U3 : List Addr) : Prop where
  s1 : SkAt CS G x1 a1 R1 T1 m n
  s2 : SkAt CS G x2 a2 R2 T2 m n
  s3 : SkAt CS G x3 a3 R3 T3 m3 n3
  b1 : TabAt G t1 U1 T1
  b2 : TabAt G t2 U2 T2
  b3 : TabAt G t3 U3 T3
theorem St21.up {CS : Addr} {G G' : Hp} {x1 a1 : Addr} {R1 : List Addr} {T1 : Tab} {x2 a2 : Addr} {R2 : List Addr} {T2 : Tab} {m n : Nat} {x3 a3 : Addr} {R3 : List Addr} {T3 : Tab} {m3 n3 : Nat} {t1 : Addr} {U1 : List Addr} {t2 : Addr} {U2 : List Addr} {t3 : Addr} {U3 : List Addr}
    (h : St21 CS G x1 a1 R1 T1 x2 a2 R2 T2 m n x3 a3 R3 T3 m3 n3 t1 U1 t2 U2 t3 U3) (s : Same G G') : St21 CS G' x1 a1 R1 T1 x2 a2 R2 T2 m n x3 a3 R3 T3 m3 n3 t1 U1 t2 U2 t3 U3 := ⟨h.s1.up s, h.s2.up s, h.s3.up s, h.b1.up s, h.b2.up s, h.b3.up s⟩
section
variable {P : Program} {w : World} {K : PySem.W.Frag} {mg : Str → Option Value} {base : Heap} {CS CY CU : Addr}
def spLaw (K : PySem.W.Frag) : Sp := fun vs H Q _ => ∃ (a : Addr) (ns : List Int), vs = [.ref a] ∧ SqL K H a (ns.map V.int) ∧ ns.length ≤ 63 ∧ ∀ H', Q (.bl true) H'
abbrev nLaw : List Str := ["_law_script", "_law_bag_here", "_law_palette_here", "_law_rows", "_law_ones", "_law_twos", "_law_line", "_law_fresh", "_law_signs", "_law_one", "_law_third", "_law_first", "_law_second", "_law_other", "_law_common"]
theorem scLaw : FnScope nLaw ["_law_script"] (defScope lLaw) := ⟨rfl, rfl, rfl, by decide +kernel, rfl, by decide +kernel, by decide +kernel⟩
theorem ok_law {f fE fR fA fL a1 a2 a3 a4 a5 a6 a7 a8 a9 aA aB : Addr} {fd dE dR dA dL b1 b2 b3 b4 b5 b6 b7 b8 b9 bA' bB : FuncData} {mc : Value} {pR : Addr} (F : Fun K "law" "law" lLaw f fd) (L : LTxt K mg) (T : Kls K mg CS) (Y : SKit K CS)
    (cBag : Cl P w K mg base CX0 1 "_law_bag" ["_law_script"] (spBag K) a1 b1) (cPal : Cl P w K mg base CX0 2 "_law_palette" ["_law_bag_here"] spPal a2 b2) (cTake : Cl P w K mg base CX0 1 "_law_take" tkNames spTake a3 b3)
    (cIs : Cl P w K mg base CX0 5 "_law_sketch_is" ["_law_sketch", "_law_table_here"] (spG K (gSkIs CS)) a4 b4) (cGrid : Cl P w K mg base CX0 3 "_law_grid" ["_law_bag_here", "_law_palette_here"] spGrid a5 b5)
    (cTab : Cl P w K mg base CX0 3 "_law_table" ["_law_bag_here", "_law_palette_here", "_law_rows"] spTable a6 b6) (cTx : Cl P w K mg base CX0 1 "_law_sketch_text" ["_law_table_here"] (spG K gLText) a7 b7)
    (cAd : Cl P w K mg base CX0 2 "_law_allowed" ["_law_bag_here", "_law_palette_here", "_law_sign"] spAlwd a8 b8) (cMet : Cl P w K mg base CX0 5 "_law_met" ["_law_first", "_law_second"] (spMet K CS) a9 b9) (cDue : Cl P w K mg base CX0 2 "_law_due" ["_law_ones", "_law_twos"] (spG K gDueM) aA bA') (cAp : Cl P w K mg base CX0 5 "_law_common_apart" pApart (spApart CS) aB bB)
    (OA : FnOk P w K mg base (L2.CX P w) 3 fA dA ["self", "other"] (spAnd CS CY CU)) (mA : OwnM K CS "__and__" fA) (bA : Binds K dA ["self", "other"] []) (sf : PySem.W.selfFirst K CS = true) (OL : FnOk P w K mg base CX0 4 fL dL nAllow (spAllow CS)) (mL : Meth K CS "allow" fL) (bL : Binds K dL nAllow [])
    (crd : ClX.CRead K CS mc) (OE : FnOk P w K mg base CX0 1 fE dE ["self", "other"] (spSkEq CS)) (mE : OwnM K CS "__eq__" fE) (bE : Binds K dE ["self", "other"] [])
    (OR : FnOk P w K mg base CX0 6 fR dR ["cls", "text"] (spRead CS)) (cm : ClX.CMet K CS mc "read" pR fR) (bR : Binds K dR ["cls", "text"] []) :
    FnOk P w K mg base CX0 8 f fd ["_law_script"] (spLaw K) := by
  refine F.ok scLaw (fun vs H Q E h => ?_) (fun cdv A outer s H vs Q E hr h => ?_)
  · obtain ⟨a, ns, rfl, _⟩ := h
    rfl
  obtain ⟨sa, ns, rfl, ha, few, k⟩ := h
  have hr1 : Room 1 _ := hr.mono (by decide)
  have hr2 : Room 2 _ := hr.mono (by decide)
  have hr3 : Room 3 _ := hr.mono (by decide)
  have hr4 : Room 4 _ := hr.mono (by decide)
  have hr5 : Room 5 _ := hr.mono (by decide)
  have hr6 : Room 6 _ := hr.mono (by decide)
  refine ⟨_, (pss_cons (ps_set (i := 1) scLaw.nd rfl (.inl rfl) (pe_call cBag.ok hr1 (by rfl) cBag.gl cBag.kp cBag.bd .nil pass0 (pa_cons (pv 0) pa_nil)))
    (pss_cons (ps_set (i := 2) scLaw.nd rfl (.inl rfl) (pe_call cPal.ok hr2 (by rfl) cPal.gl cPal.kp cPal.bd .nil pass0 (pa_cons (pv 1) pa_nil)))
    (pss_cons (ps_set (i := 3) scLaw.nd rfl (.inl rfl) (pe_call cGrid.ok hr3 (by rfl) cGrid.gl cGrid.kp cGrid.bd .nil pass0 (pa_cons (pv 1) (pa_cons (pv 2) pa_nil))))
    (pss_cons (ps_set (i := 4) scLaw.nd rfl (.inl rfl) (pe_call cTab.ok hr3 (by rfl) cTab.gl cTab.kp cTab.bd .nil pass0 (pa_cons (pv 1) (pa_cons (pv 2) (pa_cons (pv 3) pa_nil)))))
    (pss_cons (ps_set (i := 5) scLaw.nd rfl (.inl rfl) (pe_lst pa_nil))
    (pss_cons (ps_for PassesOwn.never rfl (pi_list (pv 4)) (pg_name (i := 6) scLaw.nd rfl (.inl rfl)) (pss_cons (ps_set (i := 7) scLaw.nd rfl (.inl rfl) (pe_lst pa_nil)) (pss_cons (ps_for PassesOwn.never rfl (pi_list (pv 6)) (pg_name (i := 8) scLaw.nd rfl (.inl rfl)) (pss_cons (ps_set (i := 9) scLaw.nd rfl (.inl rfl) (pe_ix ix_str (pv 8) (pe_call cTake.ok hr1 (by rfl) cTake.gl cTake.kp cTake.bd .nil pass0 (pa_cons (pv 1) (pa_cons (pe_callB call_len_str (by rfl) L.len PySem.boot_len (pa_cons (pv 8) pa_nil)) pa_nil))) (fun _ _ => rfl))) (pss_one (ps_expr (pe_bm PySem.F.plainAttrs_list PySem.F.slot_list_append PySem.F.type_list_append mt_append (pv 7) (pa_cons (pe_call cAd.ok hr2 (by rfl) cAd.gl cAd.kp cAd.bd .nil pass0 (pa_cons (pv 1) (pa_cons (pv 2) (pa_cons (pv 9) pa_nil)))) pa_nil)))))) (pss_one (ps_expr (pe_bm PySem.F.plainAttrs_list PySem.F.slot_list_append PySem.F.type_list_append mt_append (pv 5) (pa_cons (pv 7) pa_nil)))))))
    (pss_cons (ps_set (i := 10) scLaw.nd rfl (.inl rfl) (pe_call cTab.ok hr3 (by rfl) cTab.gl cTab.kp cTab.bd .nil pass0 (pa_cons (pv 1) (pa_cons (pv 2) (pa_cons (pe_call cGrid.ok hr3 (by rfl) cGrid.gl cGrid.kp cGrid.bd .nil pass0 (pa_cons (pv 1) (pa_cons (pv 2) pa_nil))) pa_nil)))))
    (pss_cons (ps_set (i := 11) scLaw.nd rfl (.inl rfl) (ClX.pe_cmeth (pe_glob (v := .ref CS) (by rfl) T.gS rfl) crd cm (raw0 OR bR) hr6 pass0 (pa_cons (pe_call cTx.ok hr1 (by rfl) cTx.gl cTx.kp cTx.bd .nil pass0 (pa_cons (pv 4) pa_nil)) pa_nil)))
    (pss_cons (ps_set (i := 12) scLaw.nd rfl (.inl rfl) (ClX.pe_cmeth (pe_glob (v := .ref CS) (by rfl) T.gS rfl) crd cm (raw0 OR bR) hr6 pass0 (pa_cons (pe_call cTx.ok hr1 (by rfl) cTx.gl cTx.kp cTx.bd .nil pass0 (pa_cons (pv 5) pa_nil)) pa_nil)))
    (pss_cons (ps_set (i := 13) scLaw.nd rfl (.inl rfl) (ClX.pe_cmeth (pe_glob (v := .ref CS) (by rfl) T.gS rfl) crd cm (raw0 OR bR) hr6 pass0 (pa_cons (pe_call cTx.ok hr1 (by rfl) cTx.gl cTx.kp cTx.bd .nil pass0 (pa_cons (pv 10) pa_nil)) pa_nil)))
    (pss_cons (ps_if (PW.pt (pw_or (pt_cmpR (op_neD hr.units) (pe_call cMet.ok hr5 (by rfl) cMet.gl cMet.kp cMet.bd .nil pass0 (pa_cons (pv 11) (pa_cons (pv 12) pa_nil))) (pe_call cDue.ok hr2 (by rfl) cDue.gl cDue.kp cDue.bd .nil pass0 (pa_cons (pv 4) (pa_cons (pv 5) pa_nil))) (nomark _)) (pw_or1 (pt_cmpR (op_neD hr.units) (pe_call cMet.ok hr5 (by rfl) cMet.gl cMet.kp cMet.bd .nil pass0 (pa_cons (pv 12) (pa_cons (pv 11) pa_nil))) (pe_call cDue.ok hr2 (by rfl) cDue.gl cDue.kp cDue.bd .nil pass0 (pa_cons (pv 5) (pa_cons (pv 4) pa_nil))) (nomark _))))) (pss_one (ps_ret pe_bl)) pss_nil)
    (pss_cons (ps_if (PW.pt (pw_or (pt_cmpR (op_neD hr.units) (pe_call cMet.ok hr5 (by rfl) cMet.gl cMet.kp cMet.bd .nil pass0 (pa_cons (pv 11) (pa_cons (pv 11) pa_nil))) (pe_call cTx.ok hr1 (by rfl) cTx.gl cTx.kp cTx.bd .nil pass0 (pa_cons (pv 4) pa_nil)) (nomark _)) (pw_or1 (pt_cmpR (op_neD hr.units) (pe_call cMet.ok hr5 (by rfl) cMet.gl cMet.kp cMet.bd .nil pass0 (pa_cons (pv 11) (pa_cons (pv 13) pa_nil))) (pe_call cDue.ok hr2 (by rfl) cDue.gl cDue.kp cDue.bd .nil pass0 (pa_cons (pv 4) (pa_cons (pv 10) pa_nil))) (nomark _))))) (pss_one (ps_ret pe_bl)) pss_nil)
    (pss_cons (ps_if (pt_cmpR (op_neD hr.units) (pe_call cMet.ok hr5 (by rfl) cMet.gl cMet.kp cMet.bd .nil pass0 (pa_cons (pv 13) (pa_cons (pv 12) pa_nil))) (pe_call cDue.ok hr2 (by rfl) cDue.gl cDue.kp cDue.bd .nil pass0 (pa_cons (pv 10) (pa_cons (pv 5) pa_nil))) (nomark _)) (pss_one (ps_ret pe_bl)) pss_nil)
    (pss_cons (ps_if (PW.pt (pw_or (pt_cmpR op_ne (pe_cmpR (op_skEq OE hr1 bE mE Y) (pv 11) (pv 13) (nomark _)) (pe_cmpR (op_eqD hr.units) (pv 4) (pv 10) (nomark _)) (nomark _)) (pw_or1 (pt_cmpR op_ne (pe_cmpR (op_skEq OE hr1 bE mE Y) (pv 13) (pv 12) (nomark _)) (pe_cmpR (op_eqD hr.units) (pv 10) (pv 5) (nomark _)) (nomark _))))) (pss_one (ps_ret pe_bl)) pss_nil)
    (pss_cons (ps_if (pt_not (pt_val (pe_call cAp.ok hr5 (by rfl) cAp.gl cAp.kp cAp.bd .nil pass0 (pa_cons (pv 11) (pa_cons (pv 12) (pa_cons (pv 4) (pa_cons (pv 5) pa_nil))))))) (pss_one (ps_ret pe_bl)) pss_nil)
    (pss_cons (ps_set (i := 14) scLaw.nd rfl (.inl rfl) (pe_band (E := fun _ => E0) OA hr3 bA (fun σ pins H s e s' I c => passF pins σ H s e s' I c) sf mA (pv 11) (pv 11)))
    (pss_cons (ps_expr (pe_meth (pv 14) T.cl mL OL hr4 bL .nil pass0 (pa_cons pe_int (pa_cons pe_int (pa_cons pe_str pa_nil)))))
    (pss_cons (ps_expr (pe_meth (pv 14) T.cl mL OL hr4 bL .nil pass0 (pa_cons pe_int (pa_cons pe_int (pa_cons pe_str pa_nil)))))
    (pss_one (ps_ret (pe_and (pe_call cIs.ok hr5 (by rfl) cIs.gl cIs.kp cIs.bd .nil pass0 (pa_cons (pv 11) (pa_cons (pv 4) pa_nil))) (pe_and (pe_call cIs.ok hr5 (by rfl) cIs.gl cIs.kp cIs.bd .nil pass0 (pa_cons (pv 12) (pa_cons (pv 5) pa_nil))) (pe_one (pe_call cIs.ok hr5 (by rfl) cIs.gl cIs.kp cIs.bd .nil pass0 (pa_cons (pv 13) (pa_cons (pv 10) pa_nil)))))))))))))))))))))))))), ?_⟩
  refine ⟨_, rfl, sa, ns, rfl, ha, few, fun b l H1 s1 nb hb => ?_⟩
  refine ⟨_, rfl, b, l, rfl, hb, fun z H2 hz u2 b2 => ?_⟩
  refine ⟨_, rfl, _, rfl, b, l, z, rfl, b2, hz, fun rr Rw m H3 g s3 b3 nrr hrr => ?_⟩
  refine ⟨_, rfl, _, rfl, _, rfl, b, l, z, rr, Rw, m, rfl, b3, hz, g, hrr, fun t1 U1 T1 H4 ok1 tB1 => ?_⟩
  obtain ⟨n, en⟩ : ∃ n, Rw.length = n := ⟨_, rfl⟩
  rw [en] at ok1
  have b4 := tB1.bag
  have tb1 := tB1.tb
  clear tB1 hrr nrr s3 b3 b2 hb nb s1 ha g
  have lz := hz.len
  have n8 := ok1.n8
  have m8 := ok1.m8
  have gh1 := ok1.h
  have ow1 : ∀ c ∈ t1 :: U1, c ≠ b ∧ c ≠ l := tab_bag b4 tb1 ok1
  refine ⟨Nat.zero_le _, fun t2 nt2 => ?_⟩
  refine ⟨_, rfl, t1, rfl, ⟨_, SqL.of (same_upd nt2 _ _ tb1.1)⟩, for_list (K := K) (a := t1) (xs := U1.map V.ref) (fun i σ G => ∃ y6 y7 y8 y9 U2 T2, σ = [some (.ref sa), some (.ref b), some (.str (S z)), some (.ref rr), some (.ref t1), some (.ref t2), y6, y7, y8, y9, none, none, none, none, none] ∧ TabB H4 G b l t2 U2 T2 ∧ T2.length = i ∧ (∀ r ∈ T2, r.length = m ∧ ∀ w ∈ r, okW w)) ⟨_, _, _, _, [], [], rfl, TabB.zero b4 nt2, rfl, fun r mr => nomatch mr⟩ (fun i σ G _ ⟨_, _, _, _, _, _, _, tB, _⟩ => SqL.of (tB.sb _ _ (ow1 t1 List.mem_cons_self).1 tb1.1)) ?_ ?_⟩
  · rintro i v σ G hv ⟨y6, y7, y8, y9, U2, T2, rfl, tB, lT, okT⟩
    rw [List.getElem?_map] at hv
    cases er : U1[i]? with
    | none => rw [er] at hv; cases hv
    | some r =>
      rw [er] at hv
      cases hv
      have li : i < T1.length := by rw [← tb1.2.1]; exact (List.getElem?_eq_some_iff.mp er).1
      have hrow : T1[i]? = some T1[i] := List.getElem?_eq_getElem li
      have mrow := List.getElem_mem li
      have lrow := ok1.w _ mrow
      have hr0 := tb1.2.2 i r _ er hrow
      have rb := ow1 r (List.mem_cons_of_mem _ (List.mem_of_getElem? er))
      have hrG := tB.sb _ _ rb.1 hr0
      refine ⟨Nat.zero_le _, fun D nD => ?_⟩
      obtain ⟨Db, Dl⟩ := bag_not tB.bag nD
      have rD : r ≠ D := fun e => by rw [e, nD] at hrG; cases hrG
      refine ⟨_, rfl, r, rfl, ⟨_, SqL.of (same_upd nD _ _ hrG)⟩, for_list (K := K) (a := r) (xs := rowsV T1[i]) (fun i2 σ G2 => ∃ y8 y9 zs, σ = [some (.ref sa), some (.ref b), some (.str (S z)), some (.ref rr), some (.ref t1), some (.ref t2), some (.ref r), some (.ref D), y8, y9, none, none, none, none, none] ∧ zs.length = i2 ∧ (∀ w ∈ zs, okW w) ∧ SameBut b G G2 ∧ BagL G2 b l ∧ G2 D = some (.lst (rowsV zs))) ⟨_, _, [], rfl, rfl, (fun w mw => nomatch mw), sb_of (same_upd nD), bag_upd tB.bag nD, upd_same⟩ (fun i2 σ G2 _ ⟨_, _, _, _, _, _, s2, _⟩ => SqL.of (s2 _ _ rb.1 hrG)) ?_ ?_⟩
      · rintro i2 v σ G2 hv2 ⟨y8, y9, zs, rfl, lzs, okz, s2, bg2, hD⟩
        obtain ⟨wd, hw0, rfl⟩ := rowsV_at hv2
        have mwd := List.mem_of_getElem? hw0
        have okw := ok1.ok _ mrow wd mwd
        have lw : wd.length ≤ 27 := okw.2.1
        have lw1 : 1 ≤ wd.length := List.length_pos_iff.mpr okw.1
        have li2 : i2 < m := by
          have := (List.getElem?_eq_some_iff.mp hw0).1
          omega
        refine ⟨_, rfl, _, rfl, _, rfl, S wd, rfl, by rw [len_S]; exact small_line (by omega), b, l, _, rfl, bg2, by rw [len_S]; omega, by rw [len_S]; omega, fun k1 G3 k1a k1b u3 b3 => ?_⟩
        rw [len_S] at k1b
        obtain ⟨k1, rfl⟩ : ∃ k1' : Nat, k1 = k1' := ⟨k1.toNat, by omega⟩
        have lk : k1 < wd.length := by omega
        have hc := okw.2.2.1 _ (List.getElem_mem lk)
        refine ⟨S wd, (k1 : Int), wd[k1], rfl, rfl, by rw [len_S]; exact small_line (by omega), by rw [cpsS]; exact atI_nat (List.getElem?_eq_getElem lk), ?_⟩
        have hD3 := (u3 D Db).trans hD
        refine ⟨_, rfl, .inl ⟨rfl, _, SqL.of hD3⟩, _, rfl, _, rfl, _, rfl, b, l, z, wd[k1], rfl, b3, hz, hc, fun y G4 wy s4 b4' => ⟨D, _, _, rfl, rfl, s4 _ _ Db hD3, by rw [rowsV_len, lzs]; exact small1000 (by omega), _, _, zs ++ [y], rfl, by rw [List.length_append, lzs]; rfl, fun w mw => ?_, fun c o nc e => ?_, bag_ne b4' Db Dl, ?_⟩⟩
        · rcases List.mem_append.mp mw with mw | mw
          · exact okz w mw
          · rw [List.mem_singleton.mp mw]; exact wy
        · rw [upd_ne (ne_of_none e nD)]
          exact s4 _ _ nc ((u3 c nc).trans (s2 _ _ nc e))
        · rw [upd_same]
          unfold rowsV
          rw [List.map_append]
          rfl
      · rintro σ G2 ⟨y8, y9, zs, rfl, lzs, okz, s2, bg2, hD⟩
        rw [rowsV_len] at lzs
        have tb2 := tB.tb.keep (H' := G2) fun c o mc e => s2 c o (bag_not b4 (tB.nw.2 c mc)).1 e
        refine ⟨_, rfl, .inl ⟨rfl, _, SqL.of tb2.1⟩, _, rfl, t2, _, _, rfl, rfl, tb2.1, by rw [List.length_map, tB.tb.2.1, lT]; exact small1000 (by omega), _, _, _, _, U2 ++ [D], T2 ++ [zs], rfl, tB.add b4 s2 bg2 nD hD, by rw [List.length_append, lT]; rfl, fun q mq => ?_⟩
        rcases List.mem_append.mp mq with mq | mq
        · exact okT q mq
        · rw [List.mem_singleton.mp mq]
          exact ⟨by rw [lzs]; exact lrow, okz⟩
  rintro σ G ⟨y6, y7, y8, y9, U2, T2, rfl, tB2, lT2, okT2⟩
  have ok2 : TabOk T2 m n := ⟨by rw [lT2, List.length_map, tb1.2.1, gh1], fun r mr => (okT2 r mr).1, ok1.m1, ok1.m8, ok1.n1, ok1.n8, fun r mr => (okT2 r mr).2⟩
  refine ⟨_, rfl, _, rfl, _, rfl, _, rfl, b, l, z, rfl, tB2.bag, hz, fun rr3 Rw3 m3 G1 g3 s5 b5 nrr3 hrr3 => ⟨b, l, z, rr3, Rw3, m3, rfl, b5, hz, g3, hrr3, fun t3 U3 T3 G2 ok3 tB3 => ?_⟩⟩
  obtain ⟨n3, en3⟩ : ∃ n3, Rw3.length = n3 := ⟨_, rfl⟩
  rw [en3] at ok3
  have tb1 : TabAt G2 t1 U1 T1 := ((tb1.keep fun c o mc e => tB2.sb c o (ow1 c mc).1 e).keep fun c o mc e => s5 c o (ow1 c mc).1 e).keep fun c o mc e => tB3.sb c o (ow1 c mc).1 e
  have tb2 : TabAt G2 t2 U2 T2 := (tB2.tb.keep fun c o mc e => s5 c o (bag_not b4 (tB2.nw.2 c mc)).1 e).keep fun c o mc e => tB3.sb c o (bag_not b4 (tB2.nw.2 c mc)).1 e
  have tb3 := tB3.tb
  clear tB3 tB2 s5 b5 nrr3 hrr3 g3 okT2 lT2 ow1 b4
  refine ⟨rfl, _, rfl, [tabD T1], .tx (tabT (starT T1)), ⟨T1, m, n, ok1, rfl, rfl⟩, _, Same.refl _, .cons tb1.rep .nil, fun v F1 Ga1 ga fa ra => ?_⟩
  cases ra
  obtain ⟨wS, eS⟩ := read_star ok1
  refine ⟨starT T1, m, n, rfl, wS, fun Gb1 x1 d1 R1 sb sk1 nk => ?_⟩
  rw [eS] at sk1
  have up := ga.h.trans sb
  have tb1 := tb1.up up
  have tb2 := tb2.up up
  have tb3 := tb3.up up
  clear ga fa sb nk wS eS up
  refine setG ?_
  dsimp only
  refine ⟨rfl, _, rfl, [tabD T2], .tx (tabT (starT T2)), ⟨T2, m, n, ok2, rfl, rfl⟩, _, Same.refl _, .cons tb2.rep .nil, fun v F1 Ga2 ga fa ra => ?_⟩
  cases ra
  obtain ⟨wS, eS⟩ := read_star ok2
  refine ⟨starT T2, m, n, rfl, wS, fun Gb2 x2 d2 R2 sb sk2 nk => ?_⟩
  rw [eS] at sk2
  have up := ga.h.trans sb
  have tb1 := tb1.up up
  have tb2 := tb2.up up
  have tb3 := tb3.up up
  have sk1 := sk1.up up
  clear ga fa sb nk wS eS up
  refine setG ?_
  dsimp only
  refine ⟨rfl, _, rfl, [tabD T3], .tx (tabT (starT T3)), ⟨T3, m3, n3, ok3, rfl, rfl⟩, _, Same.refl _, .cons tb3.rep .nil, fun v F1 Ga3 ga fa ra => ?_⟩
  cases ra
  obtain ⟨wS, eS⟩ := read_star ok3
  refine ⟨starT T3, m3, n3, rfl, wS, fun Gb3 x3 d3 R3 sb sk3 nk => ?_⟩
  rw [eS] at sk3
  have up := ga.h.trans sb
  have tb1 := tb1.up up
  have tb2 := tb2.up up
  have tb3 := tb3.up up
  have sk1 := sk1.up up
  have sk2 := sk2.up up
  clear ga fa sb nk wS eS up
  refine setG ?_
  dsimp only
  have S0 : St21 CS Gb3 x1 d1 R1 T1 x2 d2 R2 T2 m n x3 d3 R3 T3 m3 n3 t1 U1 t2 U2 t3 U3 := ⟨sk1, sk2, sk3, tb1, tb2, tb3⟩
  clear sk1 sk2 sk3 tb1 tb2 tb3
  refine ⟨_, rfl, _, rfl, x1, d1, R1, T1, m, n, x2, d2, R2, T2, m, n, rfl, S0.s1, S0.s2, ok1, ok2, fun v1 Gc sc rc => ?_⟩
  have S1 := S0.up sc
  refine ⟨_, rfl, _, rfl, [tabD T1, tabD T2], dueD m n m n T1 T2, ⟨T1, T2, m, n, m, n, ok1, ok2, rfl, rfl⟩, _, Same.refl _, .cons S1.b1.rep (.cons S1.b2.rep .nil), fun v2 Fd Gd gd fd' rd => ?_⟩
  refine ⟨_, _, dp_rep (Same.refl _) (rc.mono gd.h) due_plain, dp_rep fd' rd due_plain, due_shaped ok1 ok2, due_shaped ok1 ok2, _, rfl, iteFe (eqN (due_shaped ok1 ok2)) ?_⟩
  have S2 := S1.up gd.h
  clear S1 S0 rc rd gd fd' sc
  refine ⟨_, rfl, _, rfl, x2, d2, R2, T2, m, n, x1, d1, R1, T1, m, n, rfl, S2.s2, S2.s1, ok2, ok1, fun v1 Gc sc rc => ?_⟩
  have S3 := S2.up sc
  refine ⟨_, rfl, _, rfl, [tabD T2, tabD T1], dueD m n m n T2 T1, ⟨T2, T1, m, n, m, n, ok2, ok1, rfl, rfl⟩, _, Same.refl _, .cons S3.b2.rep (.cons S3.b1.rep .nil), fun v2 Fd Gd gd fd' rd => ?_⟩
  refine ⟨_, _, dp_rep (Same.refl _) (rc.mono gd.h) due_plain, dp_rep fd' rd due_plain, due_shaped ok2 ok1, due_shaped ok2 ok1, _, rfl, iteFe (eqN (due_shaped ok2 ok1)) ?_⟩
  have S4 := S3.up gd.h
  clear S3 S2 rc rd gd fd' sc
  refine ⟨_, rfl, _, rfl, x1, d1, R1, T1, m, n, x1, d1, R1, T1, m, n, rfl, S4.s1, S4.s1, ok1, ok1, fun v1 Gc sc rc => ?_⟩
  have S5 := S4.up sc
  have eD : dueD m n m n T1 T1 = .tx (tabT (starT T1)) := by
    unfold dueD dueC
    rw [if_pos ⟨rfl, rfl⟩, com_same ok1, ok1.none]
  rw [eD] at rc
  refine ⟨_, rfl, [tabD T1], .tx (tabT (starT T1)), ⟨T1, m, n, ok1, rfl, rfl⟩, _, Same.refl _, .cons S5.b1.rep .nil, fun v2 Fd Gd gd fd' rd => ?_⟩
  refine ⟨_, _, dp_rep (Same.refl _) (rc.mono gd.h) rfl, dp_rep fd' rd rfl, tx_shaped (text_low ok1), tx_shaped (text_low ok1), _, rfl, iteFe (eqN (tx_shaped (text_low ok1))) ?_⟩
  have S6 := S5.up gd.h
  clear S5 S4 rc rd gd fd' sc eD
  refine ⟨_, rfl, _, rfl, x1, d1, R1, T1, m, n, x3, d3, R3, T3, m3, n3, rfl, S6.s1, S6.s3, ok1, ok3, fun v1 Gc sc rc => ?_⟩
  have S7 := S6.up sc
  refine ⟨_, rfl, _, rfl, [tabD T1, tabD T3], dueD m n m3 n3 T1 T3, ⟨T1, T3, m, n, m3, n3, ok1, ok3, rfl, rfl⟩, _, Same.refl _, .cons S7.b1.rep (.cons S7.b3.rep .nil), fun v2 Fd Gd gd fd' rd => ?_⟩
  refine ⟨_, _, dp_rep (Same.refl _) (rc.mono gd.h) due_plain, dp_rep fd' rd due_plain, due_shaped ok1 ok3, due_shaped ok1 ok3, _, rfl, iteFe (eqN (due_shaped ok1 ok3)) ?_⟩
  have S8 := S7.up gd.h
  clear S7 S6 rc rd gd fd' sc
  refine ⟨_, rfl, _, rfl, x3, d3, R3, T3, m3, n3, x2, d2, R2, T2, m, n, rfl, S8.s3, S8.s2, ok3, ok2, fun v1 Gc sc rc => ?_⟩
  have S9 := S8.up sc
  refine ⟨_, rfl, _, rfl, [tabD T3, tabD T2], dueD m3 n3 m n T3 T2, ⟨T3, T2, m3, n3, m, n, ok3, ok2, rfl, rfl⟩, _, Same.refl _, .cons S9.b3.rep (.cons S9.b2.rep .nil), fun v2 Fd Gd gd fd' rd => ?_⟩
  refine ⟨_, _, dp_rep (Same.refl _) (rc.mono gd.h) due_plain, dp_rep fd' rd due_plain, due_shaped ok3 ok2, due_shaped ok3 ok2, _, rfl, iteFe (eqN (due_shaped ok3 ok2)) ?_⟩
  have S10 := S9.up gd.h
  clear S9 S8 rc rd gd fd' sc
  refine ⟨_, rfl, _, rfl, x1, d1, R1, T1, m, n, decide (T1 = T3), rfl, S10.s1, ok1.low, .inl ⟨x3, d3, R3, T3, m3, n3, rfl, S10.s3, ok3.low, rfl⟩, ?_⟩
  refine ⟨_, rfl, _, rfl, _, _, S10.b1.dp, S10.b3.dp, dT_shaped ok1.low, dT_shaped ok3.low, rfl, _, rfl, iteFe (by rw [dT_eqv]; simp) ?_⟩
  refine ⟨_, rfl, _, rfl, x3, d3, R3, T3, m3, n3, decide (T3 = T2), rfl, S10.s3, ok3.low, .inl ⟨x2, d2, R2, T2, m, n, rfl, S10.s2, ok2.low, rfl⟩, ?_⟩
  refine ⟨_, rfl, _, rfl, _, _, S10.b3.dp, S10.b2.dp, dT_shaped ok3.low, dT_shaped ok2.low, rfl, _, rfl, iteFe (by rw [dT_eqv]; simp) ?_⟩
  refine ⟨_, rfl, _, rfl, _, rfl, _, rfl, x1, d1, R1, T1, x2, d2, R2, T2, t1, U1, t2, U2, m, n, rfl, S10.s1, S10.s2, S10.b1, S10.b2, ok1, ok2, fun Ge se => ⟨_, rfl, iteFe rfl ?_⟩⟩
  have SA := S10.up se
  clear S10 se
  obtain ⟨dx1, ho1⟩ := SA.s1.o
  have noE : firstE 0 (comT T1 T1) = none := by rw [com_same ok1]; exact ok1.none
  refine ⟨_, rfl, _, rfl, x1, x1, dx1, dx1, _, _, rfl, rfl, ho1, ho1, x1, d1, R1, T1, m, n, x1, d1, R1, T1, m, n, rfl, SA.s1, SA.s1, ok1, ok1, fun ne => absurd ⟨rfl, rfl⟩ ne, fun _ _ => ⟨(fun i j fe => by rw [noE] at fe; cases fe), fun _ Gf y ay Ry sf' sk nk => ⟨y, rfl, ?_⟩⟩⟩
  rw [com_same ok1] at sk
  refine setG ?_
  dsimp only
  have l0 : 0 < T1.length := by rw [ok1.h]; exact ok1.n1
  have lR : 0 < Ry.length := by rw [sk.t.2.1]; exact l0
  have hr0 : Ry[0]? = some Ry[0] := List.getElem?_eq_getElem lR
  have hw0 : T1[0]? = some T1[0] := List.getElem?_eq_getElem l0
  obtain ⟨dy3, hy3⟩ := sk.o
  refine ⟨_, rfl, y, dy3, _, rfl, hy3, rfl, y, ay, Ry, T1, m, n, 0, 0, [46, 122], T1[0], Ry[0], by rw [show (S [46, 122] : Str) = ".z" from by decide +kernel]; rfl, sk, ok1, ok1.m1, ok_dz, hr0, hw0, fun G4 s4 e4 => ?_⟩
  have sk4 := sk_put sk nk.1 hr0 s4 e4
  have gC4 := ok1.put (i := 0) hw0 ok_dz.asc
  have sAll4 := same_put nk hr0 sf' s4
  obtain ⟨dy4, hy4⟩ := sk4.o
  have hw4 : (T1.set 0 (T1[0].set 0 (asc [46, 122])))[0]? = some (T1[0].set 0 (asc [46, 122])) := by rw [List.getElem?_set_self (by exact l0)]
  refine ⟨_, rfl, y, dy4, _, rfl, hy4, rfl, y, ay, Ry, _, m, n, 0, 0, [122], _, Ry[0], by rw [show (S [122] : Str) = "z" from by decide +kernel]; rfl, sk4, gC4, ok1.m1, ok_z, hr0, hw4, fun G5 s5 e5 => ?_⟩
  have SB := SA.up (same_put nk hr0 sAll4 s5)
  clear SA sk sk4 nk sAll4
  refine ⟨_, rfl, _, rfl, [skD CS T1 m n, tabD T1], .bl true, ⟨T1, m, n, ok1, rfl, rfl⟩, _, Same.refl _, .cons SB.s1.rep (.cons SB.b1.rep .nil), fun v F1 Gg gg fg rg => ?_⟩
  cases rg
  have SC := SB.up gg.h
  refine ⟨_, rfl, iteT ?_⟩
  refine ⟨_, rfl, _, rfl, [skD CS T2 m n, tabD T2], .bl true, ⟨T2, m, n, ok2, rfl, rfl⟩, _, Same.refl _, .cons SC.s2.rep (.cons SC.b2.rep .nil), fun v F1 Gh gh fh rh => ?_⟩
  cases rh
  have SD := SC.up gh.h
  refine ⟨_, rfl, iteT ?_⟩
  refine ⟨_, rfl, _, rfl, [skD CS T3 m3 n3, tabD T3], .bl true, ⟨T3, m3, n3, ok3, rfl, rfl⟩, _, Same.refl _, .cons SD.s3.rep (.cons SD.b3.rep .nil), fun v F1 Gi gi fi ri => ?_⟩
  cases ri
  exact k Gi
end
end Pm
namespace Pm
open PySem PySem.Spec PyProof.Rows L2 SX
section
variable {P : Program} {w : World} {K : PySem.W.Frag} {mg : Str → Option Value} {base : Heap}
theorem scEEmptyCell : FnScope ["self", "x", "y"] ["self", "x", "y"] (defScope cEmptyCellInit) := ⟨rfl, rfl, rfl, by decide +kernel, rfl, by decide +kernel, by decide +kernel⟩
theorem okEEmptyCell {f C : Addr} {fd : FuncData} (F : Fun K "__init__" "EmptyCell.__init__" cEmptyCellInit f fd) (T : OexC K C) (nx : PySem.W.findIn K (.ref C) "x" = some none) (ny : PySem.W.findIn K (.ref C) "y" = some none) : FnOk P w K mg base CX0 1 f fd ["self", "x", "y"] (spE2 C) := by
  refine F.ok scEEmptyCell (fun vs H Q E h => ?_) (fun cdv A outer s H vs Q E hr h => ?_)
  · obtain ⟨a, v, u, rfl, _⟩ := h
    rfl
  · obtain ⟨a, v, u, rfl, ha, k⟩ := h
    refine ⟨_, pss_cons (ps_ost (pv 0) (pv 1)) (pss_one (ps_ost (pv 0) (pv 2))), ?_⟩
    refine ⟨_, rfl, _, rfl, a, C, rfl, T, nx, .inl ⟨ha, fun dx nd ne => ?_⟩⟩
    refine ⟨_, rfl, _, rfl, a, C, rfl, T, ny, .inr ⟨dx, [("x", v)], upd_same, by rw [upd_ne ne, upd_same], by show 1 ≤ 900; decide, ?_⟩⟩
    refine k _ dx ?_ upd_same nd ne fun b o nb e => ?_
    · rw [upd_ne ne.symm]
      exact upd_same
    · rw [upd_ne (ne_of_none e nd), upd_ne nb, upd_ne (ne_of_none e nd)]
      exact e
end
end Pm
/-! ### what the top has left, told by a Hook: the defs, and any Bools of the part of the heap that the names reach -/
namespace Hm
open PySem PySem.Spec PyProof.Rows L2 He
abbrev Fr := PySem.W.Frag
/-- a def: where it stands, what it is, its closure, its keyword-only defaults -/
structure DefM where
  at_ : Fr → Addr
  name : Str
  qual : Str
  params : Arguments
  body : List Stmt
  scope : Scope
  clo : Fr → List (Str × Addr) := fun _ => []
  kwd : List (Str × Dv) := []
abbrev FnM : Type := Option (Str × Str × Arguments × FuncBody × Scope × Addr × Addr)
def fnM (K : Fr) (a : Addr) : FnM := match K.lookup a with
  | some ⟨_, _, .func fd, _⟩ => some (fd.name, fd.qualname, fd.params, fd.body, fd.scope, fd.globals, fd.builtins)
  | _ => none
def DefM.val (d : DefM) : FnM := some (d.name, d.qual, d.params, .stmts d.body, d.scope, mainGlobals, builtinsNs)
def noDfl : Value → Bool
  | .none => true
  | _ => false
def DefM.kws (K : Fr) (d : DefM) : List (Str × V) := d.kwd.map fun q => (q.1, q.2.v K)
def DefM.ok (K : Fr) (d : DefM) : Bool := match K.lookup (d.at_ K) with
  | some ⟨_, _, .func fd, _⟩ => PySem.W.codeIn K fd.code d.qual && (decide (fd.closure = d.clo K) && (noDfl fd.defaults && kwdB K fd.kwdefaults (d.kws K)))
  | _ => false
theorem noDfl_ok {v : Value} (h : noDfl v = true) : v = .none := by
  cases v with
  | none => rfl
  | _ => cases h
theorem DefM.there {K : Fr} {d : DefM} (e : fnM K (d.at_ K) = d.val) (c : d.ok K = true) :
    ∃ oc od osl kV doc pm an cdv ct, K.lookup (d.at_ K) = some ⟨oc, od, .func (PySem.W.fnX d.name d.qual d.params d.body d.scope (d.clo K) .none kV doc pm an cdv ct), osl⟩ ∧ PySem.W.codeIn K cdv d.qual = true ∧ KwdV K kV (d.kws K) := by
  unfold DefM.ok at c
  unfold fnM at e
  cases q : K.lookup (d.at_ K) with
  | none =>
    rw [q] at c
    cases c
  | some o =>
    obtain ⟨oc, od, dt, osl⟩ := o
    rw [q] at c e
    cases dt with
    | func fd =>
      obtain ⟨n1, n2, n3, n4, n5, n6, n7, n8, n9, n10, n11, n12, n13, n14, n15⟩ := fd
      have e2 : (some (n1, n2, n3, n4, n5, n6, n15) : FnM) = some (d.name, d.qual, d.params, .stmts d.body, d.scope, mainGlobals, builtinsNs) := e
      simp only [Option.some.injEq, Prod.mk.injEq] at e2
      obtain ⟨h1, h2, h3, h4, h5, h6, h7⟩ := e2
      subst h1 h2 h3 h4 h5 h6 h7
      have c2 : (PySem.W.codeIn K n13 d.qual && (decide (n7 = d.clo K) && (noDfl n8 && kwdB K n9 (d.kws K)))) = true := c
      obtain ⟨k1, k⟩ := ba c2
      obtain ⟨k2, k⟩ := ba k
      obtain ⟨k3, k4⟩ := ba k
      have e7 : n7 = d.clo K := of_decide_eq_true k2
      have e8 := noDfl_ok k3
      subst e7 e8
      exact ⟨oc, od, osl, n9, n10, n11, n12, n13, n14, rfl, k1, kwdB_ok k4⟩
    | _ => cases c
/-! ### pieces of facts -/
/-- a global's value -/
def globB (K : Fr) (x : Str) (v : V) : Bool := match PySem.W.nsIn K mainGlobals x with
  | some (some u) => relB v u
  | _ => false
theorem globB_ok {K : Fr} {x : Str} {v : V} (h : globB K x v = true) : ∃ u, PySem.W.nsIn K mainGlobals x = some (some u) ∧ RelV v u := by
  unfold globB at h
  cases e : PySem.W.nsIn K mainGlobals x with
  | none => rw [e] at h; cases h
  | some r =>
    rw [e] at h
    cases r with
    | none => cases h
    | some u => exact ⟨u, rfl, relB_ok h⟩
/-- a constant that a class is asked for -/
def cvalB (K : Fr) (C : Addr) (f : Str) (v : V) : Bool := match PySem.W.findCls K (.ref C) (.type "type") f with
  | some (.val u) => relB v u
  | _ => false
theorem cvalB_ok {K : Fr} {C : Addr} {f : Str} {v : V} (h : cvalB K C f v = true) : ∃ u, PySem.W.findCls K (.ref C) (.type "type") f = some (.val u) ∧ RelV v u := by
  unfold cvalB at h
  cases e : PySem.W.findCls K (.ref C) (.type "type") f with
  | none => rw [e] at h; cases h
  | some r =>
    rw [e] at h
    cases r with
    | val u => exact ⟨u, rfl, relB_ok h⟩
    | _ => cases h
/-- a constant of a class that its instance is asked for -/
def ivalB (K : Fr) (C : Addr) (f : Str) (v : V) : Bool := match PySem.W.findIn K (.ref C) f with
  | some (some u) => relB v u && eqO (PySem.W.specialIn K u "__get__") (some none)
  | _ => false
theorem ivalB_ok {K : Fr} {C : Addr} {f : Str} {v : V} (h : ivalB K C f v = true) : ∃ u, PySem.W.findIn K (.ref C) f = some (some u) ∧ RelV v u ∧ PySem.W.specialIn K u "__get__" = some none := by
  unfold ivalB at h
  cases e : PySem.W.findIn K (.ref C) f with
  | none => rw [e] at h; cases h
  | some r =>
    rw [e] at h
    cases r with
    | none => cases h
    | some u =>
      obtain ⟨h1, h2⟩ := ba h
      exact ⟨u, rfl, relB_ok h1, eqO_ok h2⟩
def clsB (K : Fr) (C : Addr) : Bool := (PySem.W.clsIn K C).isSome
theorem clsB_ok {K : Fr} {C : Addr} (h : clsB K C = true) : ∃ cd, PySem.W.clsIn K C = some cd := Option.isSome_iff_exists.mp h
/-- an error's class with an own __init__ -/
def excB (K : Fr) (C : Addr) : Bool := match K.lookup C with
  | some ⟨.type "type", _, .cls cd, sl⟩ => (match cd.mro, sl.toList with
    | .ref C' :: bm, [_, _, _, _, some (.builtin n), _] => C' == C && (n == "ValueError.__new__" && (!cd.hasDel && (cd.hasDict && PySem.HandSPX.refsVE bm)))
    | _, _ => false)
  | _ => false
theorem excB_ok {K : Fr} {C : Addr} (h : excB K C = true) : ∃ nm q N bs bm sn sub ab col dd k0 k1 k2 k3 k5, K.lookup C = some (excClassObj nm q C N bs bm true sn sub ab col dd k0 k1 k2 k3 k5 "ValueError.__new__") ∧ PySem.HandSPX.refsVE bm = true := by
  unfold excB at h
  split at h
  · rename_i dd cd sl ho
    split at h
    · rename_i C' bm k0 k1 k2 k3 n k5 hm hs
      obtain ⟨h1, h⟩ := ba h
      obtain ⟨h2, h⟩ := ba h
      obtain ⟨h3, h⟩ := ba h
      obtain ⟨h4, h5⟩ := ba h
      have e1 := beq_iff_eq.mp h1
      have e2 : n = "ValueError.__new__" := beq_iff_eq.mp h2
      obtain ⟨nm, bs, mro, ns, qn, hd, sn, sub, ab, col, del⟩ := cd
      dsimp only at hm h3 h4
      have e3 : del = false := by simpa using h3
      subst e1 e2 hm h4 e3
      have hsl : sl = #[k0, k1, k2, k3, some (.builtin "ValueError.__new__"), k5] := by
        obtain ⟨l⟩ := sl
        simp only at hs
        rw [hs]
      subst hsl
      exact ⟨nm, qn, ns, bs, bm, sn, sub, ab, col, dd, k0, k1, k2, k3, k5, ho, h5⟩
    · cases h
  · cases h
/-- what super() wants of a method's closure cell and code object -/
def cloOf (at_ : Fr → Addr) (K : Fr) : Addr := match K.lookup (at_ K) with
  | some ⟨_, _, .func fd, _⟩ => (match fd.closure with
    | (_, a) :: _ => a
    | _ => 0)
  | _ => 0
def cellB (K : Fr) (c C : Addr) : Bool := match K.lookup c with
  | some ⟨_, _, .cell (some (.ref D)), _⟩ => D == C
  | _ => false
theorem cellB_ok {K : Fr} {c C : Addr} (h : cellB K c C = true) : ∃ o d s, K.lookup c = some ⟨o, d, .cell (some (.ref C)), s⟩ := by
  unfold cellB at h
  split at h
  · rename_i o d D s e
    have := beq_iff_eq.mp h
    subst this
    exact ⟨o, d, s, e⟩
  · cases h
def fileB (K : Fr) (f : Addr) (file : Str) : Bool := match K.lookup f with
  | some ⟨_, _, .func fd, _⟩ => (match fd.code with
    | .ref c => (match K.lookup c with
      | some ⟨_, _, .fields vs, _⟩ => (match (vs[2]? : Option Value) with
        | some (.str x _) => decide (file = x)
        | _ => false)
      | _ => false)
    | _ => false)
  | _ => false
theorem fileB_ok {K : Fr} {f : Addr} {file : Str} {oc : Value} {od : Option Addr} {fd : FuncData} {osl : Array (Option Value)} (h : fileB K f file = true) (l : K.lookup f = some ⟨oc, od, .func fd, osl⟩) :
    ∃ c ccl cdd vs ccs t, fd.code = .ref c ∧ K.lookup c = some ⟨ccl, cdd, .fields vs, ccs⟩ ∧ vs[2]? = some (.str file t) := by
  unfold fileB at h
  rw [l] at h
  dsimp only at h
  cases e : fd.code with
  | ref c =>
    rw [e] at h
    dsimp only at h
    cases e2 : K.lookup c with
    | none => rw [e2] at h; cases h
    | some o =>
      obtain ⟨ccl, cdd, dt, ccs⟩ := o
      rw [e2] at h
      cases dt with
      | fields vs =>
        dsimp only at h
        cases e3 : vs[2]? with
        | none => rw [e3] at h; cases h
        | some v =>
          rw [e3] at h
          cases v with
          | str x t =>
            have : file = x := of_decide_eq_true h
            subst this
            exact ⟨c, ccl, cdd, vs, ccs, t, rfl, e2, e3⟩
          | _ => cases h
      | _ => cases h
  | _ =>
    rw [e] at h
    cases h
/-- the def that a property holds -/
def recF (K : Fr) (p : Addr) (T : String) : Addr := match PySem.W.recIn K p T with
  | some (.ref f :: _) => f
  | _ => 0
def recB (K : Fr) (p : Addr) (T : String) : Bool := match PySem.W.recIn K p T with
  | some (.ref _ :: _) => true
  | _ => false
theorem recB_ok {K : Fr} {p : Addr} {T : String} (h : recB K p T = true) : ∃ rest, PySem.W.recIn K p T = some (.ref (recF K p T) :: rest) := by
  unfold recB at h
  unfold recF
  split at h
  · rename_i f rest e
    exact ⟨rest, by rw [e]⟩
  · cases h
/-! ### the Hook -/
abbrev AlM : Type := Bool × List FnM
def obsM (fn : List DefM) (ex : List (Fr → Bool)) (K : Fr) : AlM := ((fn.all fun d => d.ok K) && ex.all fun b => b K, fn.map fun d => fnM K (d.at_ K))
def valM (fn : List DefM) : AlM := (true, fn.map DefM.val)
def SaysM (fn : List DefM) (ex : List (Fr → Bool)) (K : Fr) : Prop := obsM fn ex K = valM fn
/-- as: the addresses that K is to have -/
def obsMG (as : List Addr) (fn : List DefM) (ex : List (Fr → Bool)) (g : Addr → Option Obj) : AlM := obsM fn ex (frG g as)
def hookM (as : List Addr) (fn : List DefM) (ex : List (Fr → Bool)) : PySem.W.Hook where
  α := AlM
  obs := fun s => obsMG as fn ex s.heap.get?
  val := fun _ => valM fn
  says := fun _ h => ∃ K : Fr, K.In h ∧ SaysM fn ex K
  of := fun _ _ e => ⟨_, frG_in, e⟩
  keeps := fun _ _ _ ⟨K, hK, c⟩ k => ⟨K, PySem.W.Frag.In.keeps hK k, c⟩
theorem obsMG_eq {as : List Addr} {fn : List DefM} {ex : List (Fr → Bool)} {g : Addr → Option Obj} {s : Shared} (h : ∀ a, g a = s.heap.get? a) : obsMG as fn ex g = (hookM as fn ex).obs s := by
  have e : g = s.heap.get? := funext h
  rw [e] <;> rfl
section
variable {fns : List DefM} {exs : List (Fr → Bool)} {K : Fr}
theorem SaysM.ex (c : SaysM fns exs K) {b : Fr → Bool} (h : b ∈ exs) : b K = true := by
  have c1 := (ba (show ((fns.all fun d => d.ok K) && exs.all fun b => b K) = true from congrArg (fun z : AlM => z.1) c)).2
  exact List.all_eq_true.mp c1 b h
theorem SaysM.fn (c : SaysM fns exs K) (i : Nat) {d : DefM} (h : fns[i]? = some d) :
    ∃ oc od osl kV doc pm an cdv ct, K.lookup (d.at_ K) = some ⟨oc, od, .func (PySem.W.fnX d.name d.qual d.params d.body d.scope (d.clo K) .none kV doc pm an cdv ct), osl⟩ ∧ PySem.W.codeIn K cdv d.qual = true ∧ KwdV K kV (d.kws K) := by
  have c2 := (ba (show ((fns.all fun d => d.ok K) && exs.all fun b => b K) = true from congrArg (fun z : AlM => z.1) c)).1
  have e : fns.map (fun d => fnM K (d.at_ K)) = fns.map DefM.val := congrArg (fun z : AlM => z.2) c
  have e2 : (fns.map fun d => fnM K (d.at_ K))[i]? = (fns.map DefM.val)[i]? := by rw [e]
  rw [List.getElem?_map, List.getElem?_map, h] at e2
  exact DefM.there (Option.some.inj e2) (List.all_eq_true.mp c2 d (List.mem_of_getElem? h))
end
end Hm
namespace Pm
open PySem PySem.Spec PyProof.Rows L2 SX Tr
theorem kit_cls {K : PySem.W.Frag} {D S : Addr} {cd : ClassData} {b : Bool} (ne : (D == S) = false) (c : PySem.W.clsIn K S = some cd) (t : PySem.W.typeIn K (.ref S) = some (.type "type")) (sub : PySem.W.subIn K (.ref D) (.ref S) = some b) : PySem.W.kitOne K (.ref D) (.ref S) = some b := by
  unfold PySem.W.kitOne
  rw [if_neg (by simpa using ne)]
  show (if ((PySem.W.clsIn K S).isSome && PySem.W.typeIn K (.ref S) == some (.type "type")) = true then PySem.W.subIn K (.ref D) (.ref S) else none) = some b
  rw [if_pos (by rw [c, t]; rfl), sub]
theorem kit_val {K : PySem.W.Frag} {D : Addr} (sub : PySem.W.subIn K (.ref D) (.type "ValueError") = some true) : PySem.W.kitOne K (.ref D) (.type "ValueError") = some true := by
  unfold PySem.W.kitOne
  rw [if_neg (by simp)]
  show (if PySem.W.kitMeta "ValueError" = true then PySem.W.subIn K (.ref D) (.type "ValueError") else none) = some true
  rw [if_pos (by decide +kernel), sub]
theorem exm_self {K : PySem.W.Frag} {D : Addr} (a : PySem.W.subIn K (.ref D) (.type "BaseException") = some true) (b : PySem.W.isClsIn K D = true) (c : PySem.W.typeIn K (.ref D) = some (.type "type")) (d : PySem.W.subIn K (.ref D) (.ref D) = some true) : PySem.W.exmOne K (.ref D) (.ref D) = some true := by
  have b2 : (PySem.W.clsIn K D).isSome = true := b
  show (if (PySem.W.subIn K (.ref D) (.type "BaseException") == some true) = true then _ else none) = some true
  rw [if_pos (by rw [a]; rfl)]
  show (if ((PySem.W.clsIn K D).isSome && PySem.W.typeIn K (.ref D) == some (.type "type")) = true then PySem.W.subIn K (.ref D) (.ref D) else none) = some true
  rw [if_pos (by rw [b2, c]; rfl), d]
theorem exm_cls {K : PySem.W.Frag} {D S : Addr} {b : Bool} (a : PySem.W.subIn K (.ref S) (.type "BaseException") = some true) (s1 : PySem.W.isClsIn K S = true) (c : PySem.W.typeIn K (.ref S) = some (.type "type")) (d : PySem.W.subIn K (.ref D) (.ref S) = some b) : PySem.W.exmOne K (.ref D) (.ref S) = some b := by
  have b2 : (PySem.W.clsIn K S).isSome = true := s1
  show (if (PySem.W.subIn K (.ref S) (.type "BaseException") == some true) = true then _ else none) = some b
  rw [if_pos (by rw [a]; rfl)]
  show (if ((PySem.W.clsIn K S).isSome && PySem.W.typeIn K (.ref S) == some (.type "type")) = true then PySem.W.subIn K (.ref D) (.ref S) else none) = some b
  rw [if_pos (by rw [b2, c]; rfl), d]

theorem kit_self {K : PySem.W.Frag} {C : Addr} : PySem.W.kitOne K (.ref C) (.ref C) = some true := by
  unfold PySem.W.kitOne
  rw [if_pos (by simp)]
/-! ### what the top has left -/
theorem all_mk {l : PySem.W.OpenLaw} {w : World} {K : PySem.W.Frag} {h : Heap} {mg : Str → Option Value} {fa C CS fI fRd pRd CY fEy CU CE fNd fAw fTx fCk fGi fEq fIs fDf fAs fAl fRw fCz fCm fBa fBl fBag fTake fOnce fPal fRow fGrid fCe fAd fTb fLt fLa fLi fMet fDu fAp fLaw fAny : Addr} {cdtCS : ClassData} {restRd : List Value} {nmCY qnCY : Str} {nsCY : Addr} {bsCY bmCY sbCY : List Value} {snCY : List Str} {abCY : Bool} {coCY : Option Bool} {ddCY : Option Addr} {x0CY x1CY x2CY x3CY x5CY : Option Value} {cdtCY : ClassData} {cdtCU : ClassData} {cdtCE : ClassData} (X : K.In h) (G : h.Ns mainGlobals mg) (hfa : mg "law" = some (.ref fa))
    {odI anI odRd anRd odEy anEy odNd anNd odAw anAw odTx anTx odCk anCk odGi anGi odEq anEq odIs anIs odDf anDf odAs anAs odAl anAl odRw anRw odCz anCz odCm anCm odBa anBa odBl anBl odBag anBag odTake anTake odOnce anOnce odPal anPal odRow anRow odGrid anGrid odCe anCe odAd anAd odTb anTb odLt anLt odLa anLa odLi anLi odMet anMet odDu anDu odAp anAp odLaw anLaw odAny anAny : Option Addr}
    {slI slRd slEy slNd slAw slTx slCk slGi slEq slIs slDf slAs slAl slRw slCz slCm slBa slBl slBag slTake slOnce slPal slRow slGrid slCe slAd slTb slLt slLa slLi slMet slDu slAp slLaw slAny : Array (Option Value)}
    {uHo uEd uAn uAv ocI kVI dcI pmI cdI ctI ocRd kVRd dcRd pmRd cdRd ctRd ocEy kVEy dcEy pmEy cdEy ctEy ocNd kVNd dcNd pmNd cdNd ctNd ocAw kVAw dcAw pmAw cdAw ctAw ocTx kVTx dcTx pmTx cdTx ctTx ocCk kVCk dcCk pmCk cdCk ctCk ocGi kVGi dcGi pmGi cdGi ctGi ocEq kVEq dcEq pmEq cdEq ctEq uSt uMo uWd ocIs kVIs dcIs pmIs cdIs ctIs ocDf kVDf dcDf pmDf cdDf ctDf ocAs kVAs dcAs pmAs cdAs ctAs ocAl kVAl dcAl pmAl cdAl ctAl ocRw kVRw dcRw pmRw cdRw ctRw ocCz kVCz dcCz pmCz cdCz ctCz ocCm kVCm dcCm pmCm cdCm ctCm ocBa kVBa dcBa pmBa cdBa ctBa ocBl kVBl dcBl pmBl cdBl ctBl ocBag kVBag dcBag pmBag cdBag ctBag ocTake kVTake dcTake pmTake cdTake ctTake ocOnce kVOnce dcOnce pmOnce cdOnce ctOnce ocPal kVPal dcPal pmPal cdPal ctPal ocRow kVRow dcRow pmRow cdRow ctRow ocGrid kVGrid dcGrid pmGrid cdGrid ctGrid ocCe kVCe dcCe pmCe cdCe ctCe ocAd kVAd dcAd pmAd cdAd ctAd ocTb kVTb dcTb pmTb cdTb ctTb ocLt kVLt dcLt pmLt cdLt ctLt ocLa kVLa dcLa pmLa cdLa ctLa ocLi kVLi dcLi pmLi cdLi ctLi ocMet kVMet dcMet pmMet cdMet ctMet ocDu kVDu dcDu pmDu cdDu ctDu ocAp kVAp dcAp pmAp cdAp ctAp ocLaw kVLaw dcLaw pmLaw cdLaw ctLaw ocAny kVAny dcAny pmAny cdAny ctAny : Value}
    (cn : PySem.W.specialIn K (.builtin "object.__class__") "__get__" = some (some (.builtin "getset_descriptor.__get__")))
    (ct : PySem.W.takesIn K (.builtin "object.__class__") = some true)
    (gC : PySem.W.nsIn K mainGlobals "Picture" = some (some (.ref C)))
    (rdC : PySem.W.readsIn K C (.type "type") = true)
    (gaC : PySem.W.specialIn K (.ref C) "__getattribute__" = some (some (.builtin "type.__getattribute__")))
    (aHo : PySem.W.findCls K (.ref C) (.type "type") "HOLE" = some (.val uHo))
    (rlHo : L2.RelV (.str ".") uHo)
    (aEd : PySem.W.findCls K (.ref C) (.type "type") "EDGE" = some (.val uEd))
    (rlEd : L2.RelV (.str "#") uEd)
    (gCS : PySem.W.nsIn K mainGlobals "Sketch" = some (some (.ref CS)))
    (cxCS : PySem.W.clsIn K CS = some cdtCS)
    (tyCS : PySem.W.typeIn K (.ref CS) = some (.type "type"))
    (pgCS : PySem.W.plainGet K CS Str.empty = true)
    (hdCS : PySem.W.hasDictIn K CS = true)
    (poCS : PySem.W.plainOver K CS = true)
    (saCS : PySem.W.findIn K (.ref CS) "__setattr__" = some (some (.builtin "object.__setattr__")))
    (mkCS : PySem.W.makesIn K CS = true)
    (kpCS : PySem.W.keepIn K (.ref CS) = true)
    (nCS_width : PySem.W.findIn K (.ref CS) "width" = some none)
    (nCS_height : PySem.W.findIn K (.ref CS) "height" = some none)
    (nCS_rows : PySem.W.findIn K (.ref CS) "_rows" = some none)
    (rdCS : PySem.W.readsIn K CS (.type "type") = true)
    (gaCS : PySem.W.specialIn K (.ref CS) "__getattribute__" = some (some (.builtin "type.__getattribute__")))
    (haCS : PySem.W.findIn K (.ref CS) "__class__" = some (some (.builtin "object.__class__")))
    (hmCS : PySem.W.mroIn K CS (.type "object") = some true)
    (icCS : PySem.W.isClsIn K CS = true)
    (sStr : PySem.W.subIn K (.type "str") (.ref CS) = some false)
    (sLst : PySem.W.subIn K (.type "list") (.ref CS) = some false)
    (aAn : PySem.W.findIn K (.ref CS) "ANY" = some (some uAn))
    (rlAn : L2.RelV (.str ".abcdefghijklmnopqrstuvwxyz") uAn)
    (ggAn : PySem.W.specialIn K uAn "__get__" = some none)
    (aAv : PySem.W.findCls K (.ref CS) (.type "type") "ANY" = some (.val uAv))
    (rlAv : L2.RelV (.str ".abcdefghijklmnopqrstuvwxyz") uAv)
    (aI : PySem.W.findIn K (.ref CS) "__init__" = some (some (.ref fI)))
    (iI : PySem.W.isFn K (.ref fI) = true)
    (lI : K.lookup fI = some ⟨ocI, odI, .func (PySem.W.fnOf "__init__" "Sketch.__init__" (defArgs cSketchInit) (defBody cSketchInit) (defScope cSketchInit) .none kVI dcI pmI anI cdI ctI), slI⟩)
    (cI : PySem.W.codeIn K cdI "Sketch.__init__" = true)
    (kI : PySem.W.keepIn K (.ref fI) = true)
    (wI : L2.KwdV K kVI [("_rows", .non)])
    (aRd : PySem.W.findCls K (.ref CS) (.type "type") "read" = some (.get (.builtin "classmethod.__get__") (.ref pRd) .none (.ref CS)))
    (rRd : PySem.W.recIn K pRd "classmethod" = some (.ref fRd :: restRd))
    (iRd : PySem.W.fnIn K fRd = true)
    (lRd : K.lookup fRd = some ⟨ocRd, odRd, .func (PySem.W.fnOf "read" "Sketch.read" (defArgs cSketchRead) (defBody cSketchRead) (defScope cSketchRead) .none kVRd dcRd pmRd anRd cdRd ctRd), slRd⟩)
    (cRd : PySem.W.codeIn K cdRd "Sketch.read" = true)
    (kRd : PySem.W.keepIn K (.ref fRd) = true)
    (gCY : PySem.W.nsIn K mainGlobals "EmptyCell" = some (some (.ref CY)))
    (lkCY : K.lookup CY = some (excClassObj nmCY qnCY CY nsCY bsCY bmCY true snCY sbCY abCY coCY ddCY x0CY x1CY x2CY x3CY x5CY "ValueError.__new__"))
    (vbCY : PySem.HandSPX.refsVE bmCY = true)
    (atCY : PySem.W.findIn K (.ref CY) "__init__" = some (some (.ref fEy)))
    (ftCY : PySem.W.typeIn K (.ref fEy) = some (.type "function"))
    (lEy : K.lookup fEy = some ⟨ocEy, odEy, .func (PySem.W.fnOf "__init__" "EmptyCell.__init__" (defArgs cEmptyCellInit) (defBody cEmptyCellInit) (defScope cEmptyCellInit) .none kVEy dcEy pmEy anEy cdEy ctEy), slEy⟩)
    (cEy : PySem.W.codeIn K cdEy "EmptyCell.__init__" = true)
    (kEy : PySem.W.keepIn K (.ref fEy) = true)
    (cxCY : PySem.W.clsIn K CY = some cdtCY)
    (tyCY : PySem.W.typeIn K (.ref CY) = some (.type "type"))
    (hgCY : PySem.W.findIn K (.ref CY) "__getattribute__" = some (some (.builtin "BaseException.__getattribute__")))
    (hkCY : PySem.W.findIn K (.ref CY) "__getattr__" = some none)
    (svCY : PySem.W.subIn K (.ref CY) (.type "BaseException") = some true)
    (sxCY : PySem.W.subIn K (.ref CY) (.ref CY) = some true)
    (icCY : PySem.W.isClsIn K CY = true)
    (haCY : PySem.W.findIn K (.ref CY) "__class__" = some (some (.builtin "object.__class__")))
    (hmCY : PySem.W.mroIn K CY (.type "object") = some true)
    (hdCY : PySem.W.hasDictIn K CY = true)
    (kpCY : PySem.W.keepIn K (.ref CY) = true)
    (nCY_x : PySem.W.findIn K (.ref CY) "x" = some none)
    (nCY_y : PySem.W.findIn K (.ref CY) "y" = some none)
    (saCY : PySem.W.findIn K (.ref CY) "__setattr__" = some (some (.builtin "object.__setattr__")))
    (gCU : PySem.W.nsIn K mainGlobals "UnequalSize" = some (some (.ref CU)))
    (cxCU : PySem.W.clsIn K CU = some cdtCU)
    (tyCU : PySem.W.typeIn K (.ref CU) = some (.type "type"))
    (hgCU : PySem.W.findIn K (.ref CU) "__getattribute__" = some (some (.builtin "BaseException.__getattribute__")))
    (hkCU : PySem.W.findIn K (.ref CU) "__getattr__" = some none)
    (svCU : PySem.W.subIn K (.ref CU) (.type "BaseException") = some true)
    (sxCU : PySem.W.subIn K (.ref CU) (.ref CU) = some true)
    (icCU : PySem.W.isClsIn K CU = true)
    (haCU : PySem.W.findIn K (.ref CU) "__class__" = some (some (.builtin "object.__class__")))
    (hmCU : PySem.W.mroIn K CU (.type "object") = some true)
    (hdCU : PySem.W.hasDictIn K CU = true)
    (kpCU : PySem.W.keepIn K (.ref CU) = true)
    (xU : PySem.W.excIn K CU [.type "ValueError", .type "Exception", .type "BaseException", .type "object"] "ValueError.__new__" = true)
    (gCE : PySem.W.nsIn K mainGlobals "SmaltiError" = some (some (.ref CE)))
    (cxCE : PySem.W.clsIn K CE = some cdtCE)
    (tyCE : PySem.W.typeIn K (.ref CE) = some (.type "type"))
    (sbCYCE : PySem.W.subIn K (.ref CY) (.ref CE) = some true)
    (neCYCE : (CY == CE) = false)
    (sbCUCE : PySem.W.subIn K (.ref CU) (.ref CE) = some true)
    (neCUCE : (CU == CE) = false)
    (sbUY : PySem.W.subIn K (.ref CU) (.ref CY) = some false)
    (sfCS : PySem.W.selfFirst K CS = true)
    (aNd : PySem.W.findIn K (.ref CS) "__and__" = some (some (.ref fNd)))
    (iNd : PySem.W.isFn K (.ref fNd) = true)
    (lNd : K.lookup fNd = some ⟨ocNd, odNd, .func (PySem.W.fnOf "__and__" "Sketch.__and__" (defArgs cSketchAnd) (defBody cSketchAnd) (defScope cSketchAnd) .none kVNd dcNd pmNd anNd cdNd ctNd), slNd⟩)
    (cNd : PySem.W.codeIn K cdNd "Sketch.__and__" = true)
    (kNd : PySem.W.keepIn K (.ref fNd) = true)
    (aAw : PySem.W.findIn K (.ref CS) "allow" = some (some (.ref fAw)))
    (iAw : PySem.W.isFn K (.ref fAw) = true)
    (lAw : K.lookup fAw = some ⟨ocAw, odAw, .func (PySem.W.fnOf "allow" "Sketch.allow" (defArgs cSketchAllow) (defBody cSketchAllow) (defScope cSketchAllow) .none kVAw dcAw pmAw anAw cdAw ctAw), slAw⟩)
    (cAw : PySem.W.codeIn K cdAw "Sketch.allow" = true)
    (kAw : PySem.W.keepIn K (.ref fAw) = true)
    (aTx : PySem.W.findIn K (.ref CS) "text" = some (some (.ref fTx)))
    (iTx : PySem.W.isFn K (.ref fTx) = true)
    (lTx : K.lookup fTx = some ⟨ocTx, odTx, .func (PySem.W.fnOf "text" "Sketch.text" (defArgs cSketchText) (defBody cSketchText) (defScope cSketchText) .none kVTx dcTx pmTx anTx cdTx ctTx), slTx⟩)
    (cTx : PySem.W.codeIn K cdTx "Sketch.text" = true)
    (kTx : PySem.W.keepIn K (.ref fTx) = true)
    (aCk : PySem.W.findIn K (.ref CS) "_check_cell" = some (some (.ref fCk)))
    (iCk : PySem.W.isFn K (.ref fCk) = true)
    (lCk : K.lookup fCk = some ⟨ocCk, odCk, .func (PySem.W.fnOf "_check_cell" "Sketch._check_cell" (defArgs cSketchCheckCell) (defBody cSketchCheckCell) (defScope cSketchCheckCell) .none kVCk dcCk pmCk anCk cdCk ctCk), slCk⟩)
    (cCk : PySem.W.codeIn K cdCk "Sketch._check_cell" = true)
    (kCk : PySem.W.keepIn K (.ref fCk) = true)
    (aGi : PySem.W.findIn K (.ref CS) "__getitem__" = some (some (.ref fGi)))
    (iGi : PySem.W.isFn K (.ref fGi) = true)
    (lGi : K.lookup fGi = some ⟨ocGi, odGi, .func (PySem.W.fnOf "__getitem__" "Sketch.__getitem__" (defArgs cSketchGetitem) (defBody cSketchGetitem) (defScope cSketchGetitem) .none kVGi dcGi pmGi anGi cdGi ctGi), slGi⟩)
    (cGi : PySem.W.codeIn K cdGi "Sketch.__getitem__" = true)
    (kGi : PySem.W.keepIn K (.ref fGi) = true)
    (fiGi : PySem.W.fnIn K fGi = true)
    (aEq : PySem.W.findIn K (.ref CS) "__eq__" = some (some (.ref fEq)))
    (iEq : PySem.W.isFn K (.ref fEq) = true)
    (lEq : K.lookup fEq = some ⟨ocEq, odEq, .func (PySem.W.fnOf "__eq__" "Sketch.__eq__" (defArgs cSketchEq) (defBody cSketchEq) (defScope cSketchEq) .none kVEq dcEq pmEq anEq cdEq ctEq), slEq⟩)
    (cEq : PySem.W.codeIn K cdEq "Sketch.__eq__" = true)
    (kEq : PySem.W.keepIn K (.ref fEq) = true)
    (aSt : PySem.W.nsIn K mainGlobals "STONES" = some (some uSt))
    (rlSt : L2.RelV (.str alphaS) uSt)
    (aMo : PySem.W.nsIn K mainGlobals "MOST" = some (some uMo))
    (rlMo : L2.RelV (.int 8) uMo)
    (aWd : PySem.W.nsIn K mainGlobals "_ANY_WORD" = some (some uWd))
    (rlWd : L2.RelV (.str "*") uWd)
    (aIs : PySem.W.nsIn K mainGlobals "is_stone" = some (some (.ref fIs)))
    (lIs : K.lookup fIs = some ⟨ocIs, odIs, .func (PySem.W.fnOf "is_stone" "is_stone" (defArgs gIsStone) (defBody gIsStone) (defScope gIsStone) .none kVIs dcIs pmIs anIs cdIs ctIs), slIs⟩)
    (cIs : PySem.W.codeIn K cdIs "is_stone" = true)
    (kIs : PySem.W.keepIn K (.ref fIs) = true)
    (aDf : PySem.W.nsIn K mainGlobals "are_different_signs" = some (some (.ref fDf)))
    (lDf : K.lookup fDf = some ⟨ocDf, odDf, .func (PySem.W.fnOf "are_different_signs" "are_different_signs" (defArgs gAreDifferentSigns) (defBody gAreDifferentSigns) (defScope gAreDifferentSigns) .none kVDf dcDf pmDf anDf cdDf ctDf), slDf⟩)
    (cDf : PySem.W.codeIn K cdDf "are_different_signs" = true)
    (kDf : PySem.W.keepIn K (.ref fDf) = true)
    (aAs : PySem.W.nsIn K mainGlobals "in_ascii_order" = some (some (.ref fAs)))
    (lAs : K.lookup fAs = some ⟨ocAs, odAs, .func (PySem.W.fnOf "in_ascii_order" "in_ascii_order" (defArgs gInAsciiOrder) (defBody gInAsciiOrder) (defScope gInAsciiOrder) .none kVAs dcAs pmAs anAs cdAs ctAs), slAs⟩)
    (cAs : PySem.W.codeIn K cdAs "in_ascii_order" = true)
    (kAs : PySem.W.keepIn K (.ref fAs) = true)
    (aAl : PySem.W.nsIn K mainGlobals "_are_allowed_signs" = some (some (.ref fAl)))
    (lAl : K.lookup fAl = some ⟨ocAl, odAl, .func (PySem.W.fnOf "_are_allowed_signs" "_are_allowed_signs" (defArgs gAreAllowedSigns) (defBody gAreAllowedSigns) (defScope gAreAllowedSigns) .none kVAl dcAl pmAl anAl cdAl ctAl), slAl⟩)
    (cAl : PySem.W.codeIn K cdAl "_are_allowed_signs" = true)
    (kAl : PySem.W.keepIn K (.ref fAl) = true)
    (aRw : PySem.W.nsIn K mainGlobals "_read_word" = some (some (.ref fRw)))
    (lRw : K.lookup fRw = some ⟨ocRw, odRw, .func (PySem.W.fnOf "_read_word" "_read_word" (defArgs gReadWord) (defBody gReadWord) (defScope gReadWord) .none kVRw dcRw pmRw anRw cdRw ctRw), slRw⟩)
    (cRw : PySem.W.codeIn K cdRw "_read_word" = true)
    (kRw : PySem.W.keepIn K (.ref fRw) = true)
    (aCz : PySem.W.nsIn K mainGlobals "_check_sizes" = some (some (.ref fCz)))
    (lCz : K.lookup fCz = some ⟨ocCz, odCz, .func (PySem.W.fnOf "_check_sizes" "_check_sizes" (defArgs gCheckSizes) (defBody gCheckSizes) (defScope gCheckSizes) .none kVCz dcCz pmCz anCz cdCz ctCz), slCz⟩)
    (cCz : PySem.W.codeIn K cdCz "_check_sizes" = true)
    (kCz : PySem.W.keepIn K (.ref fCz) = true)
    (aCm : PySem.W.nsIn K mainGlobals "_common_signs" = some (some (.ref fCm)))
    (lCm : K.lookup fCm = some ⟨ocCm, odCm, .func (PySem.W.fnOf "_common_signs" "_common_signs" (defArgs gCommonSigns) (defBody gCommonSigns) (defScope gCommonSigns) .none kVCm dcCm pmCm anCm cdCm ctCm), slCm⟩)
    (cCm : PySem.W.codeIn K cdCm "_common_signs" = true)
    (kCm : PySem.W.keepIn K (.ref fCm) = true)
    (aBa : PySem.W.nsIn K mainGlobals "is_bad_row_sketches" = some (some (.ref fBa)))
    (lBa : K.lookup fBa = some ⟨ocBa, odBa, .func (PySem.W.fnOf "_is_bad_row" "_is_bad_row" (defArgs gIsBadRowSketches) (defBody gIsBadRowSketches) (defScope gIsBadRowSketches) .none kVBa dcBa pmBa anBa cdBa ctBa), slBa⟩)
    (cBa : PySem.W.codeIn K cdBa "_is_bad_row" = true)
    (kBa : PySem.W.keepIn K (.ref fBa) = true)
    (aBl : PySem.W.nsIn K mainGlobals "bad_line_sketches" = some (some (.ref fBl)))
    (lBl : K.lookup fBl = some ⟨ocBl, odBl, .func (PySem.W.fnOf "_bad_line" "_bad_line" (defArgs gBadLineSketches) (defBody gBadLineSketches) (defScope gBadLineSketches) .none kVBl dcBl pmBl anBl cdBl ctBl), slBl⟩)
    (cBl : PySem.W.codeIn K cdBl "_bad_line" = true)
    (kBl : PySem.W.keepIn K (.ref fBl) = true)
    (aBag : PySem.W.nsIn K mainGlobals "_law_bag" = some (some (.ref fBag)))
    (lBag : K.lookup fBag = some ⟨ocBag, odBag, .func (PySem.W.fnOf "_law_bag" "_law_bag" (defArgs lBag) (defBody lBag) (defScope lBag) .none kVBag dcBag pmBag anBag cdBag ctBag), slBag⟩)
    (cBag : PySem.W.codeIn K cdBag "_law_bag" = true)
    (kBag : PySem.W.keepIn K (.ref fBag) = true)
    (aTake : PySem.W.nsIn K mainGlobals "_law_take" = some (some (.ref fTake)))
    (lTake : K.lookup fTake = some ⟨ocTake, odTake, .func (PySem.W.fnOf "_law_take" "_law_take" (defArgs lTake) (defBody lTake) (defScope lTake) .none kVTake dcTake pmTake anTake cdTake ctTake), slTake⟩)
    (cTake : PySem.W.codeIn K cdTake "_law_take" = true)
    (kTake : PySem.W.keepIn K (.ref fTake) = true)
    (aOnce : PySem.W.nsIn K mainGlobals "_law_once" = some (some (.ref fOnce)))
    (lOnce : K.lookup fOnce = some ⟨ocOnce, odOnce, .func (PySem.W.fnOf "_law_once" "_law_once" (defArgs lOnce) (defBody lOnce) (defScope lOnce) .none kVOnce dcOnce pmOnce anOnce cdOnce ctOnce), slOnce⟩)
    (cOnce : PySem.W.codeIn K cdOnce "_law_once" = true)
    (kOnce : PySem.W.keepIn K (.ref fOnce) = true)
    (aPal : PySem.W.nsIn K mainGlobals "_law_palette" = some (some (.ref fPal)))
    (lPal : K.lookup fPal = some ⟨ocPal, odPal, .func (PySem.W.fnOf "_law_palette" "_law_palette" (defArgs lPalette) (defBody lPalette) (defScope lPalette) .none kVPal dcPal pmPal anPal cdPal ctPal), slPal⟩)
    (cPal : PySem.W.codeIn K cdPal "_law_palette" = true)
    (kPal : PySem.W.keepIn K (.ref fPal) = true)
    (aRow : PySem.W.nsIn K mainGlobals "_law_row" = some (some (.ref fRow)))
    (lRow : K.lookup fRow = some ⟨ocRow, odRow, .func (PySem.W.fnOf "_law_row" "_law_row" (defArgs lRow) (defBody lRow) (defScope lRow) .none kVRow dcRow pmRow anRow cdRow ctRow), slRow⟩)
    (cRow : PySem.W.codeIn K cdRow "_law_row" = true)
    (kRow : PySem.W.keepIn K (.ref fRow) = true)
    (aGrid : PySem.W.nsIn K mainGlobals "_law_grid" = some (some (.ref fGrid)))
    (lGrid : K.lookup fGrid = some ⟨ocGrid, odGrid, .func (PySem.W.fnOf "_law_grid" "_law_grid" (defArgs lGrid) (defBody lGrid) (defScope lGrid) .none kVGrid dcGrid pmGrid anGrid cdGrid ctGrid), slGrid⟩)
    (cGrid : PySem.W.codeIn K cdGrid "_law_grid" = true)
    (kGrid : PySem.W.keepIn K (.ref fGrid) = true)
    (aCe : PySem.W.nsIn K mainGlobals "_law_cells" = some (some (.ref fCe)))
    (lCe : K.lookup fCe = some ⟨ocCe, odCe, .func (PySem.W.fnOf "_law_cells" "_law_cells" (defArgs lCells) (defBody lCells) (defScope lCells) .none kVCe dcCe pmCe anCe cdCe ctCe), slCe⟩)
    (cCe : PySem.W.codeIn K cdCe "_law_cells" = true)
    (kCe : PySem.W.keepIn K (.ref fCe) = true)
    (aAd : PySem.W.nsIn K mainGlobals "_law_allowed" = some (some (.ref fAd)))
    (lAd : K.lookup fAd = some ⟨ocAd, odAd, .func (PySem.W.fnOf "_law_allowed" "_law_allowed" (defArgs lAllowed) (defBody lAllowed) (defScope lAllowed) .none kVAd dcAd pmAd anAd cdAd ctAd), slAd⟩)
    (cAd : PySem.W.codeIn K cdAd "_law_allowed" = true)
    (kAd : PySem.W.keepIn K (.ref fAd) = true)
    (aTb : PySem.W.nsIn K mainGlobals "_law_table" = some (some (.ref fTb)))
    (lTb : K.lookup fTb = some ⟨ocTb, odTb, .func (PySem.W.fnOf "_law_table" "_law_table" (defArgs lTable) (defBody lTable) (defScope lTable) .none kVTb dcTb pmTb anTb cdTb ctTb), slTb⟩)
    (cTb : PySem.W.codeIn K cdTb "_law_table" = true)
    (kTb : PySem.W.keepIn K (.ref fTb) = true)
    (aLt : PySem.W.nsIn K mainGlobals "_law_sketch_text" = some (some (.ref fLt)))
    (lLt : K.lookup fLt = some ⟨ocLt, odLt, .func (PySem.W.fnOf "_law_sketch_text" "_law_sketch_text" (defArgs lSketchText) (defBody lSketchText) (defScope lSketchText) .none kVLt dcLt pmLt anLt cdLt ctLt), slLt⟩)
    (cLt : PySem.W.codeIn K cdLt "_law_sketch_text" = true)
    (kLt : PySem.W.keepIn K (.ref fLt) = true)
    (aLa : PySem.W.nsIn K mainGlobals "_law_at" = some (some (.ref fLa)))
    (lLa : K.lookup fLa = some ⟨ocLa, odLa, .func (PySem.W.fnOf "_law_at" "_law_at" (defArgs lAt) (defBody lAt) (defScope lAt) .none kVLa dcLa pmLa anLa cdLa ctLa), slLa⟩)
    (cLa : PySem.W.codeIn K cdLa "_law_at" = true)
    (kLa : PySem.W.keepIn K (.ref fLa) = true)
    (aLi : PySem.W.nsIn K mainGlobals "_law_sketch_is" = some (some (.ref fLi)))
    (lLi : K.lookup fLi = some ⟨ocLi, odLi, .func (PySem.W.fnOf "_law_sketch_is" "_law_sketch_is" (defArgs lSketchIs) (defBody lSketchIs) (defScope lSketchIs) .none kVLi dcLi pmLi anLi cdLi ctLi), slLi⟩)
    (cLi : PySem.W.codeIn K cdLi "_law_sketch_is" = true)
    (kLi : PySem.W.keepIn K (.ref fLi) = true)
    (aMet : PySem.W.nsIn K mainGlobals "_law_met" = some (some (.ref fMet)))
    (lMet : K.lookup fMet = some ⟨ocMet, odMet, .func (PySem.W.fnOf "_law_met" "_law_met" (defArgs lMet) (defBody lMet) (defScope lMet) .none kVMet dcMet pmMet anMet cdMet ctMet), slMet⟩)
    (cMet : PySem.W.codeIn K cdMet "_law_met" = true)
    (kMet : PySem.W.keepIn K (.ref fMet) = true)
    (aDu : PySem.W.nsIn K mainGlobals "_law_due" = some (some (.ref fDu)))
    (lDu : K.lookup fDu = some ⟨ocDu, odDu, .func (PySem.W.fnOf "_law_due" "_law_due" (defArgs lDue) (defBody lDue) (defScope lDue) .none kVDu dcDu pmDu anDu cdDu ctDu), slDu⟩)
    (cDu : PySem.W.codeIn K cdDu "_law_due" = true)
    (kDu : PySem.W.keepIn K (.ref fDu) = true)
    (aAp : PySem.W.nsIn K mainGlobals "_law_common_apart" = some (some (.ref fAp)))
    (lAp : K.lookup fAp = some ⟨ocAp, odAp, .func (PySem.W.fnOf "_law_common_apart" "_law_common_apart" (defArgs lCommonApart) (defBody lCommonApart) (defScope lCommonApart) .none kVAp dcAp pmAp anAp cdAp ctAp), slAp⟩)
    (cAp : PySem.W.codeIn K cdAp "_law_common_apart" = true)
    (kAp : PySem.W.keepIn K (.ref fAp) = true)
    (aLaw : PySem.W.nsIn K mainGlobals "law" = some (some (.ref fLaw)))
    (lLaw : K.lookup fLaw = some ⟨ocLaw, odLaw, .func (PySem.W.fnOf "law" "law" (defArgs lLaw) (defBody lLaw) (defScope lLaw) .none kVLaw dcLaw pmLaw anLaw cdLaw ctLaw), slLaw⟩)
    (cLaw : PySem.W.codeIn K cdLaw "law" = true)
    (kLaw : PySem.W.keepIn K (.ref fLaw) = true)
    (aAny : PySem.W.nsIn K mainGlobals "_law_any" = some (some (.ref fAny)))
    (lAny : K.lookup fAny = some ⟨ocAny, odAny, .func (PySem.W.fnOf "_law_any" "_law_any" (defArgs lAny) (defBody lAny) (defScope lAny) .none kVAny dcAny pmAny anAny cdAny ctAny), slAny⟩)
    (cAny : PySem.W.codeIn K cdAny "_law_any" = true)
    (kAny : PySem.W.keepIn K (.ref fAny) = true)
    (zisinstance : PySem.W.nsIn K mainGlobals "isinstance" = some none)
    (zint : PySem.W.nsIn K mainGlobals "int" = some none)
    (zlist : PySem.W.nsIn K mainGlobals "list" = some none)
    (zlen : PySem.W.nsIn K mainGlobals "len" = some none)
    (zrange : PySem.W.nsIn K mainGlobals "range" = some none)
    (zall : PySem.W.nsIn K mainGlobals "all" = some none)
    (zenumerate : PySem.W.nsIn K mainGlobals "enumerate" = some none)
    (zstr : PySem.W.nsIn K mainGlobals "str" = some none)
    (zset : PySem.W.nsIn K mainGlobals "set" = some none)
    (zsorted : PySem.W.nsIn K mainGlobals "sorted" = some none)
    (zzip : PySem.W.nsIn K mainGlobals "zip" = some none) :
    ∃ fd : FuncData, (∀ (s : Shared) (v : Value), BindsTo s fd ⟨[v], []⟩ [("_law_script", v)]) ∧ ∀ base : Heap, K.In base → base.Ns mainGlobals mg → FnOk l.prog w K mg base CX0 8 fa fd ["_law_script"] (spLaw K) := by
  have e := hfa.symm.trans (PySem.W.mg_of X G aLaw)
  cases e
  have g : ∀ {x : Str} {u : Value}, PySem.W.nsIn K mainGlobals x = some (some u) → mg x = some u := fun z => PySem.W.mg_of X G z
  have n : ∀ {x : Str}, PySem.W.nsIn K mainGlobals x = some none → mg x = none := fun z => PySem.W.mg_none_of X G z
  have clCS : L2.Cls K CS := ⟨pgCS, hdCS, poCS, saCS⟩
  have FI : FunD K "__init__" "Sketch.__init__" (defArgs cSketchInit) (defBody cSketchInit) (defScope cSketchInit) [] [("_rows", .non)] fI (PySem.W.fnOf "__init__" "Sketch.__init__" (defArgs cSketchInit) (defBody cSketchInit) (defScope cSketchInit) .none kVI dcI pmI anI cdI ctI) := ⟨⟨_, _, _, _, _, _, _, _, _, _, rfl, lI, cI, .inl ⟨rfl, rfl⟩, wI⟩, kI⟩
  have kbI : KBn K (PySem.W.fnOf "__init__" "Sketch.__init__" (defArgs cSketchInit) (defBody cSketchInit) (defScope cSketchInit) .none kVI dcI pmI anI cdI ctI) nIn4 3 ["_rows"] (fun us ws => us ++ ws) (fun vs zs => vs ++ zs) := ⟨fun s us ws _ l1 l2 => match us, ws, l1, l2 with | [_, _, _], [_], _, _ => .of_eq rfl, fun r1 r2 => r1.append r2⟩
  obtain ⟨dsI, dvI, bI⟩ := FI.binds0 (ps := nIn4) 3 (by decide) rfl fun _ _ _ _ _ _ us ks l1 l2 => match us, ks, l1, l2 with | [_, _, _], [_], _, _ => ⟨_, _, _, _, _, _, rfl, rfl, rfl⟩
  have FRd := fun_mk (st := Pm.cSketchRead) lRd cRd kRd
  have bRd := FRd.binds (ps := ["cls", "text"]) fun _ _ _ _ _ _ us hl => match us, hl with | [_, _], _ => rfl
  have MRd : ClX.CMet K CS (.type "type") "read" pRd fRd := ⟨aRd, ⟨_, rRd⟩, iRd⟩
  have FEy := fun_mk (st := Pm.cEmptyCellInit) lEy cEy kEy
  have bEy := FEy.binds (ps := ["self", "x", "y"]) fun _ _ _ _ _ _ us hl => match us, hl with | [_, _, _], _ => rfl
  have erCY : ErrC K CY := ⟨by rw [cxCY]; rfl, hgCY, hkCY, svCY, haCY, cn, ct, hmCY, hdCY⟩
  have teCY : PySem.W.exmOne K (.ref CY) (.ref CY) = some true := exm_self svCY icCY tyCY sxCY
  have oxCY : OexC K CY := ⟨⟨nmCY, qnCY, nsCY, bsCY, bmCY, snCY, sbCY, abCY, coCY, ddCY, x0CY, x1CY, x2CY, x3CY, x5CY, lkCY, vbCY⟩, saCY, svCY, tyCY, kpCY⟩
  have erCU : ErrC K CU := ⟨by rw [cxCU]; rfl, hgCU, hkCU, svCU, haCU, cn, ct, hmCU, hdCU⟩
  have teCU : PySem.W.exmOne K (.ref CU) (.ref CU) = some true := exm_self svCU icCU tyCU sxCU
  have kitCYCE : PySem.W.kitOne K (.ref CY) (.ref CE) = some true := kit_cls neCYCE cxCE tyCE sbCYCE
  have kitCUCE : PySem.W.kitOne K (.ref CU) (.ref CE) = some true := kit_cls neCUCE cxCE tyCE sbCUCE
  have FNd := fun_mk (st := Pm.cSketchAnd) lNd cNd kNd
  have bNd := FNd.binds (ps := ["self", "other"]) fun _ _ _ _ _ _ us hl => match us, hl with | [_, _], _ => rfl
  have FAw := fun_mk (st := Pm.cSketchAllow) lAw cAw kAw
  have bAw := FAw.binds (ps := ["self", "x", "y", "signs"]) fun _ _ _ _ _ _ us hl => match us, hl with | [_, _, _, _], _ => rfl
  have FTx := fun_mk (st := Pm.cSketchText) lTx cTx kTx
  have bTx := FTx.binds (ps := ["self"]) fun _ _ _ _ _ _ us hl => match us, hl with | [_], _ => rfl
  have FCk := fun_mk (st := Pm.cSketchCheckCell) lCk cCk kCk
  have bCk := FCk.binds (ps := ["self", "x", "y"]) fun _ _ _ _ _ _ us hl => match us, hl with | [_, _, _], _ => rfl
  have FGi := fun_mk (st := Pm.cSketchGetitem) lGi cGi kGi
  have bGi := FGi.binds (ps := ["self", "at"]) fun _ _ _ _ _ _ us hl => match us, hl with | [_, _], _ => rfl
  have FEq := fun_mk (st := Pm.cSketchEq) lEq cEq kEq
  have bEq := FEq.binds (ps := ["self", "other"]) fun _ _ _ _ _ _ us hl => match us, hl with | [_, _], _ => rfl
  have FIs := fun_mk (st := Pm.gIsStone) lIs cIs kIs
  have bIs := FIs.binds (ps := ["sign"]) fun _ _ _ _ _ _ us hl => match us, hl with | [_], _ => rfl
  have FDf := fun_mk (st := Pm.gAreDifferentSigns) lDf cDf kDf
  have bDf := FDf.binds (ps := ["signs", "besides"]) fun _ _ _ _ _ _ us hl => match us, hl with | [_, _], _ => rfl
  have FAs := fun_mk (st := Pm.gInAsciiOrder) lAs cAs kAs
  have bAs := FAs.binds (ps := ["signs"]) fun _ _ _ _ _ _ us hl => match us, hl with | [_], _ => rfl
  have FAl := fun_mk (st := Pm.gAreAllowedSigns) lAl cAl kAl
  have bAl := FAl.binds (ps := ["signs"]) fun _ _ _ _ _ _ us hl => match us, hl with | [_], _ => rfl
  have FRw := fun_mk (st := Pm.gReadWord) lRw cRw kRw
  have bRw := FRw.binds (ps := ["word"]) fun _ _ _ _ _ _ us hl => match us, hl with | [_], _ => rfl
  have FCz := fun_mk (st := Pm.gCheckSizes) lCz cCz kCz
  have bCz := FCz.binds (ps := ["sketch", "other"]) fun _ _ _ _ _ _ us hl => match us, hl with | [_, _], _ => rfl
  have FCm := fun_mk (st := Pm.gCommonSigns) lCm cCm kCm
  have bCm := FCm.binds (ps := ["signs", "others"]) fun _ _ _ _ _ _ us hl => match us, hl with | [_, _], _ => rfl
  have FBa := fun_mk (st := Pm.gIsBadRowSketches) lBa cBa kBa
  have bBa := FBa.binds (ps := ["words", "width"]) fun _ _ _ _ _ _ us hl => match us, hl with | [_, _], _ => rfl
  have FBl := fun_mk (st := Pm.gBadLineSketches) lBl cBl kBl
  have bBl := FBl.binds (ps := ["rows"]) fun _ _ _ _ _ _ us hl => match us, hl with | [_], _ => rfl
  have FBag := fun_mk (st := Pm.lBag) lBag cBag kBag
  have bBag := FBag.binds (ps := ["_law_script"]) fun _ _ _ _ _ _ us hl => match us, hl with | [_], _ => rfl
  have FTake := fun_mk (st := Pm.lTake) lTake cTake kTake
  have bTake := FTake.binds (ps := ["_law_bag_here", "_law_size"]) fun _ _ _ _ _ _ us hl => match us, hl with | [_, _], _ => rfl
  have FOnce := fun_mk (st := Pm.lOnce) lOnce cOnce kOnce
  have bOnce := FOnce.binds (ps := ["_law_cells_here"]) fun _ _ _ _ _ _ us hl => match us, hl with | [_], _ => rfl
  have FPal := fun_mk (st := Pm.lPalette) lPal cPal kPal
  have bPal := FPal.binds (ps := ["_law_bag_here"]) fun _ _ _ _ _ _ us hl => match us, hl with | [_], _ => rfl
  have FRow := fun_mk (st := Pm.lRow) lRow cRow kRow
  have bRow := FRow.binds (ps := ["_law_bag_here", "_law_palette_here", "_law_wide"]) fun _ _ _ _ _ _ us hl => match us, hl with | [_, _, _], _ => rfl
  have FGrid := fun_mk (st := Pm.lGrid) lGrid cGrid kGrid
  have bGrid := FGrid.binds (ps := ["_law_bag_here", "_law_palette_here"]) fun _ _ _ _ _ _ us hl => match us, hl with | [_, _], _ => rfl
  have FCe := fun_mk (st := Pm.lCells) lCe cCe kCe
  have bCe := FCe.binds (ps := ["_law_rows"]) fun _ _ _ _ _ _ us hl => match us, hl with | [_], _ => rfl
  have FAd := fun_mk (st := Pm.lAllowed) lAd cAd kAd
  have bAd := FAd.binds (ps := ["_law_bag_here", "_law_palette_here", "_law_sign"]) fun _ _ _ _ _ _ us hl => match us, hl with | [_, _, _], _ => rfl
  have FTb := fun_mk (st := Pm.lTable) lTb cTb kTb
  have bTb := FTb.binds (ps := ["_law_bag_here", "_law_palette_here", "_law_rows"]) fun _ _ _ _ _ _ us hl => match us, hl with | [_, _, _], _ => rfl
  have FLt := fun_mk (st := Pm.lSketchText) lLt cLt kLt
  have bLt := FLt.binds (ps := ["_law_table_here"]) fun _ _ _ _ _ _ us hl => match us, hl with | [_], _ => rfl
  have FLa := fun_mk (st := Pm.lAt) lLa cLa kLa
  have bLa := FLa.binds (ps := ["_law_table_here", "_law_cell"]) fun _ _ _ _ _ _ us hl => match us, hl with | [_, _], _ => rfl
  have FLi := fun_mk (st := Pm.lSketchIs) lLi cLi kLi
  have bLi := FLi.binds (ps := ["_law_sketch", "_law_table_here"]) fun _ _ _ _ _ _ us hl => match us, hl with | [_, _], _ => rfl
  have FMet := fun_mk (st := Pm.lMet) lMet cMet kMet
  have bMet := FMet.binds (ps := ["_law_first", "_law_second"]) fun _ _ _ _ _ _ us hl => match us, hl with | [_, _], _ => rfl
  have FDu := fun_mk (st := Pm.lDue) lDu cDu kDu
  have bDu := FDu.binds (ps := ["_law_ones", "_law_twos"]) fun _ _ _ _ _ _ us hl => match us, hl with | [_, _], _ => rfl
  have FAp := fun_mk (st := Pm.lCommonApart) lAp cAp kAp
  have bAp := FAp.binds (ps := ["_law_first", "_law_second", "_law_ones", "_law_twos"]) fun _ _ _ _ _ _ us hl => match us, hl with | [_, _, _, _], _ => rfl
  have FLaw := fun_mk (st := Pm.lLaw) lLaw cLaw kLaw
  have FAny := fun_mk (st := Pm.lAny) lAny cAny kAny
  have bAny : L2.Binds K _ [] [] := FAny.binds (ps := []) fun _ _ _ _ _ _ us hl => match us, hl with | [], _ => rfl
  refine ⟨PySem.W.fnOf "law" "law" (defArgs Pm.lLaw) (defBody Pm.lLaw) (defScope Pm.lLaw) .none kVLaw dcLaw pmLaw anLaw cdLaw ctLaw, fun s v => .of_eq rfl, fun base _ _ => ?_⟩
  have L : LTxt K mg := ⟨n zisinstance, n zint, n zlist, n zlen, n zrange⟩
  have R : STxt K mg := ⟨n zset, n zsorted⟩
  have TP : PTxt K mg C := ⟨g gC, ⟨_, ⟨rdC, gaC⟩, ⟨_, aHo, rlHo⟩, ⟨_, aEd, rlEd⟩⟩, ⟨_, g aSt, rlSt⟩, ⟨_, g aMo, rlMo⟩, n zall, n zenumerate⟩
  have T : Kls K mg CS := ⟨clCS, nCS_width, nCS_height, nCS_rows, ⟨_, aAn, rlAn, ggAn, by decide⟩, g gCS, ⟨_, g aWd, rlWd⟩⟩
  have icS : PySem.W.isClsIn K CS = true := icCS
  have Y : SKit K CS := ⟨haCS, cn, ct, hmCS, kit_self, ⟨icS, tyCS, sLst⟩, ⟨icS, tyCS, sStr⟩⟩
  have M : MkS l.prog w K mg base CS fI _ dsI := ⟨⟨mkCS, aI, iI, kpCS⟩, ok_skInit FI L TP T, kbI, bI, dvI⟩
  have cIs : Cl l.prog w K mg base CX0 1 "is_stone" ["sign"] spStone fIs _ := ⟨ok_stone FIs L TP, kIs, bIs, g aIs⟩
  have cDf : Cl l.prog w K mg base CX0 2 "are_different_signs" ["signs", "besides"] spDiff fDf _ := ⟨ok_differ FDf cIs L TP R, kDf, bDf, g aDf⟩
  have cAs : Cl l.prog w K mg base CX0 1 "in_ascii_order" ["signs"] spAsc fAs _ := ⟨ok_asc FAs R, kAs, bAs, g aAs⟩
  have cAl : Cl l.prog w K mg base CX0 3 "_are_allowed_signs" ["signs"] spAlw fAl _ := ⟨ok_alw FAl cDf TP, kAl, bAl, g aAl⟩
  have cRw : Cl l.prog w K mg base CX0 2 "_read_word" ["word"] spRdW fRw _ := ⟨ok_rdW (uA := uAv) FRw T ⟨rdCS, gaCS⟩ ⟨aAv, rlAv⟩ cAs, kRw, bRw, g aRw⟩
  have cBa : Cl l.prog w K mg base CX0 4 "is_bad_row_sketches" ["words", "width"] (spG K gSkBad) fBa _ := ⟨ok_skBad FBa L T TP cAl, kBa, bBa, g aBa⟩
  have cBl : Cl l.prog w K mg base CX0 5 "bad_line_sketches" ["rows"] (spG K gSkLine) fBl _ := ⟨ok_skLine FBl L TP cBa, kBl, bBl, g aBl⟩
  have ORd := ok_read FRd L T M cBl cRw
  have OCk := ok_skChk (P := l.prog) (w := w) (base := base) FCk T
  have OTx := ok_skText (P := l.prog) (w := w) (base := base) FTx T
  have OGi := ok_skItem FGi T OCk ⟨aCk, iCk, kCk⟩ bCk
  have OEq := ok_skEq (P := l.prog) (w := w) (base := base) FEq L T Y
  have cTake : Cl l.prog w K mg base CX0 1 "_law_take" tkNames spTake fTake _ := ⟨ok_take FTake L.len L.int, kTake, bTake, g aTake⟩
  have cAny : Cl l.prog w K mg base CX0 1 "_law_any" [] spAny fAny _ := ⟨ok_any FAny, kAny, bAny, g aAny⟩
  have cOnce : Cl l.prog w K mg base CX0 1 "_law_once" ["_law_cells_here"] spOnceS fOnce _ := ⟨ok_once FOnce, kOnce, bOnce, g aOnce⟩
  have cAd : Cl l.prog w K mg base CX0 2 "_law_allowed" ["_law_bag_here", "_law_palette_here", "_law_sign"] spAlwd fAd _ := ⟨ok_alwd FAd L R cTake cAny cOnce, kAd, bAd, g aAd⟩
  have cCe : Cl l.prog w K mg base CX0 1 "_law_cells" ["_law_rows"] (spG K gTCells) fCe _ := ⟨ok_tcells FCe L, kCe, bCe, g aCe⟩
  have cLt : Cl l.prog w K mg base CX0 1 "_law_sketch_text" ["_law_table_here"] (spG K gLText) fLt _ := ⟨ok_lText FLt FAny bAny (g aAny), kLt, bLt, g aLt⟩
  have cLa : Cl l.prog w K mg base CX0 1 "_law_at" ["_law_table_here", "_law_cell"] (spG K gLAt) fLa _ := ⟨ok_lat FLa, kLa, bLa, g aLa⟩
  have SK : SkT l.prog w K mg base CS fTx fGi _ _ := ⟨T, ⟨aTx, iTx, kTx⟩, OTx, bTx, ⟨aGi, iGi⟩, fiGi, OGi, bGi⟩
  have cLi : Cl l.prog w K mg base CX0 5 "_law_sketch_is" ["_law_sketch", "_law_table_here"] (spG K (gSkIs CS)) fLi _ := ⟨ok_skIs FLi L (n zstr) SK cLt cCe cLa, kLi, bLi, g aLi⟩
  have xY : EMk l.prog w K mg base CY "EmptyCell" ["self", "x", "y"] (spE2 CY) fEy _ := ⟨oxCY, atCY, ftCY, okEEmptyCell FEy oxCY nCY_x nCY_y, bEy, g gCY⟩
  have U0 : Er0 K mg CU := ⟨xU, g gCU, kpCU, svCU, tyCU⟩
  have CT : CTm K mg CY CU CE := ⟨g gCY, g gCU, g gCE, erCY, erCU, nCY_x, nCY_y, teCY, teCU, exm_cls svCY icCY tyCY sbUY, kitCYCE, kitCUCE⟩
  have OAw := ok_allow FAw T OCk ⟨aCk, iCk, kCk⟩ bCk cAl cAs
  have cCz : Cl l.prog w K mg base (L2.CX l.prog w) 1 "_check_sizes" ["sketch", "other"] (spSizes CS CU) fCz _ := ⟨ok_sizes FCz T U0, kCz, bCz, g aCz⟩
  have cCm : Cl l.prog w K mg base CX0 1 "_common_signs" ["signs", "others"] (spG K gCom) fCm _ := ⟨ok_com FCm, kCm, bCm, g aCm⟩
  have OAn := ok_and FNd L (n zzip) (n zenumerate) T M cCz cCm xY
  have cRow : Cl l.prog w K mg base CX0 2 "_law_row" ["_law_bag_here", "_law_palette_here", "_law_wide"] spRow fRow _ := ⟨ok_row FRow cTake L, kRow, bRow, g aRow⟩
  have cGrid : Cl l.prog w K mg base CX0 3 "_law_grid" ["_law_bag_here", "_law_palette_here"] spGrid fGrid _ := ⟨ok_grid FGrid cTake cRow L, kGrid, bGrid, g aGrid⟩
  have cTb : Cl l.prog w K mg base CX0 3 "_law_table" ["_law_bag_here", "_law_palette_here", "_law_rows"] spTable fTb _ := ⟨ok_table FTb cAd, kTb, bTb, g aTb⟩
  have cMet : Cl l.prog w K mg base CX0 5 "_law_met" ["_law_first", "_law_second"] (spMet K CS) fMet _ := ⟨ok_met FMet L T CT OAn ⟨aNd, iNd⟩ bNd sfCS OTx ⟨aTx, iTx, kTx⟩ bTx, kMet, bMet, g aMet⟩
  have cDu : Cl l.prog w K mg base CX0 2 "_law_due" ["_law_ones", "_law_twos"] (spG K gDueM) fDu _ := ⟨ok_dueM FDu L cLt, kDu, bDu, g aDu⟩
  have cAp : Cl l.prog w K mg base CX0 5 "_law_common_apart" pApart (spApart CS) fAp _ := ⟨ok_apart FAp L SK M OAn ⟨aNd, iNd⟩ bNd sfCS OAw ⟨aAw, iAw, kAw⟩ bAw cLt cAny, kAp, bAp, g aAp⟩
  exact ok_law FLaw L T Y ⟨ok_bag FBag L, kBag, bBag, g aBag⟩ ⟨ok_pal FPal cTake L, kPal, bPal, g aPal⟩ cTake cLi cGrid cTb cLt cAd cMet cDu cAp OAn ⟨aNd, iNd⟩ bNd sfCS OAw ⟨aAw, iAw, kAw⟩ bAw ⟨rdCS, gaCS⟩ OEq ⟨aEq, iEq⟩ bEq ORd MRd bRd
end Pm
/-! ### the head -/
namespace Hd
open PySem PySem.Spec PyProof.Rows L2 Hm Pm
abbrev d0 : DefM := ⟨fun K => (He.ma K (He.ga K "Sketch") "__init__"), "__init__", "Sketch.__init__", defArgs Pm.cSketchInit, defBody Pm.cSketchInit, defScope Pm.cSketchInit, fun _ => [], [("_rows", .non)]⟩
abbrev d1 : DefM := ⟨fun K => (He5.wf K (He.ga K "Sketch") "classmethod" "read"), "read", "Sketch.read", defArgs Pm.cSketchRead, defBody Pm.cSketchRead, defScope Pm.cSketchRead, fun _ => [], []⟩
abbrev d2 : DefM := ⟨fun K => (He.ma K (He.ga K "EmptyCell") "__init__"), "__init__", "EmptyCell.__init__", defArgs Pm.cEmptyCellInit, defBody Pm.cEmptyCellInit, defScope Pm.cEmptyCellInit, fun _ => [], []⟩
abbrev d3 : DefM := ⟨fun K => (He.ma K (He.ga K "Sketch") "__and__"), "__and__", "Sketch.__and__", defArgs Pm.cSketchAnd, defBody Pm.cSketchAnd, defScope Pm.cSketchAnd, fun _ => [], []⟩
abbrev d4 : DefM := ⟨fun K => (He.ma K (He.ga K "Sketch") "allow"), "allow", "Sketch.allow", defArgs Pm.cSketchAllow, defBody Pm.cSketchAllow, defScope Pm.cSketchAllow, fun _ => [], []⟩
abbrev d5 : DefM := ⟨fun K => (He.ma K (He.ga K "Sketch") "text"), "text", "Sketch.text", defArgs Pm.cSketchText, defBody Pm.cSketchText, defScope Pm.cSketchText, fun _ => [], []⟩
abbrev d6 : DefM := ⟨fun K => (He.ma K (He.ga K "Sketch") "_check_cell"), "_check_cell", "Sketch._check_cell", defArgs Pm.cSketchCheckCell, defBody Pm.cSketchCheckCell, defScope Pm.cSketchCheckCell, fun _ => [], []⟩
abbrev d7 : DefM := ⟨fun K => (He.ma K (He.ga K "Sketch") "__getitem__"), "__getitem__", "Sketch.__getitem__", defArgs Pm.cSketchGetitem, defBody Pm.cSketchGetitem, defScope Pm.cSketchGetitem, fun _ => [], []⟩
abbrev d8 : DefM := ⟨fun K => (He.ma K (He.ga K "Sketch") "__eq__"), "__eq__", "Sketch.__eq__", defArgs Pm.cSketchEq, defBody Pm.cSketchEq, defScope Pm.cSketchEq, fun _ => [], []⟩
abbrev d9 : DefM := ⟨fun K => (He.ga K "is_stone"), "is_stone", "is_stone", defArgs Pm.gIsStone, defBody Pm.gIsStone, defScope Pm.gIsStone, fun _ => [], []⟩
abbrev d10 : DefM := ⟨fun K => (He.ga K "are_different_signs"), "are_different_signs", "are_different_signs", defArgs Pm.gAreDifferentSigns, defBody Pm.gAreDifferentSigns, defScope Pm.gAreDifferentSigns, fun _ => [], []⟩
abbrev d11 : DefM := ⟨fun K => (He.ga K "in_ascii_order"), "in_ascii_order", "in_ascii_order", defArgs Pm.gInAsciiOrder, defBody Pm.gInAsciiOrder, defScope Pm.gInAsciiOrder, fun _ => [], []⟩
abbrev d12 : DefM := ⟨fun K => (He.ga K "_are_allowed_signs"), "_are_allowed_signs", "_are_allowed_signs", defArgs Pm.gAreAllowedSigns, defBody Pm.gAreAllowedSigns, defScope Pm.gAreAllowedSigns, fun _ => [], []⟩
abbrev d13 : DefM := ⟨fun K => (He.ga K "_read_word"), "_read_word", "_read_word", defArgs Pm.gReadWord, defBody Pm.gReadWord, defScope Pm.gReadWord, fun _ => [], []⟩
abbrev d14 : DefM := ⟨fun K => (He.ga K "_check_sizes"), "_check_sizes", "_check_sizes", defArgs Pm.gCheckSizes, defBody Pm.gCheckSizes, defScope Pm.gCheckSizes, fun _ => [], []⟩
abbrev d15 : DefM := ⟨fun K => (He.ga K "_common_signs"), "_common_signs", "_common_signs", defArgs Pm.gCommonSigns, defBody Pm.gCommonSigns, defScope Pm.gCommonSigns, fun _ => [], []⟩
abbrev d16 : DefM := ⟨fun K => (He.ga K "is_bad_row_sketches"), "_is_bad_row", "_is_bad_row", defArgs Pm.gIsBadRowSketches, defBody Pm.gIsBadRowSketches, defScope Pm.gIsBadRowSketches, fun _ => [], []⟩
abbrev d17 : DefM := ⟨fun K => (He.ga K "bad_line_sketches"), "_bad_line", "_bad_line", defArgs Pm.gBadLineSketches, defBody Pm.gBadLineSketches, defScope Pm.gBadLineSketches, fun _ => [], []⟩
abbrev d18 : DefM := ⟨fun K => (He.ga K "_law_bag"), "_law_bag", "_law_bag", defArgs Pm.lBag, defBody Pm.lBag, defScope Pm.lBag, fun _ => [], []⟩
abbrev d19 : DefM := ⟨fun K => (He.ga K "_law_take"), "_law_take", "_law_take", defArgs Pm.lTake, defBody Pm.lTake, defScope Pm.lTake, fun _ => [], []⟩
abbrev d20 : DefM := ⟨fun K => (He.ga K "_law_once"), "_law_once", "_law_once", defArgs Pm.lOnce, defBody Pm.lOnce, defScope Pm.lOnce, fun _ => [], []⟩
abbrev d21 : DefM := ⟨fun K => (He.ga K "_law_palette"), "_law_palette", "_law_palette", defArgs Pm.lPalette, defBody Pm.lPalette, defScope Pm.lPalette, fun _ => [], []⟩
abbrev d22 : DefM := ⟨fun K => (He.ga K "_law_row"), "_law_row", "_law_row", defArgs Pm.lRow, defBody Pm.lRow, defScope Pm.lRow, fun _ => [], []⟩
abbrev d23 : DefM := ⟨fun K => (He.ga K "_law_grid"), "_law_grid", "_law_grid", defArgs Pm.lGrid, defBody Pm.lGrid, defScope Pm.lGrid, fun _ => [], []⟩
abbrev d24 : DefM := ⟨fun K => (He.ga K "_law_cells"), "_law_cells", "_law_cells", defArgs Pm.lCells, defBody Pm.lCells, defScope Pm.lCells, fun _ => [], []⟩
abbrev d25 : DefM := ⟨fun K => (He.ga K "_law_allowed"), "_law_allowed", "_law_allowed", defArgs Pm.lAllowed, defBody Pm.lAllowed, defScope Pm.lAllowed, fun _ => [], []⟩
abbrev d26 : DefM := ⟨fun K => (He.ga K "_law_table"), "_law_table", "_law_table", defArgs Pm.lTable, defBody Pm.lTable, defScope Pm.lTable, fun _ => [], []⟩
abbrev d27 : DefM := ⟨fun K => (He.ga K "_law_sketch_text"), "_law_sketch_text", "_law_sketch_text", defArgs Pm.lSketchText, defBody Pm.lSketchText, defScope Pm.lSketchText, fun _ => [], []⟩
abbrev d28 : DefM := ⟨fun K => (He.ga K "_law_at"), "_law_at", "_law_at", defArgs Pm.lAt, defBody Pm.lAt, defScope Pm.lAt, fun _ => [], []⟩
abbrev d29 : DefM := ⟨fun K => (He.ga K "_law_sketch_is"), "_law_sketch_is", "_law_sketch_is", defArgs Pm.lSketchIs, defBody Pm.lSketchIs, defScope Pm.lSketchIs, fun _ => [], []⟩
abbrev d30 : DefM := ⟨fun K => (He.ga K "_law_met"), "_law_met", "_law_met", defArgs Pm.lMet, defBody Pm.lMet, defScope Pm.lMet, fun _ => [], []⟩
abbrev d31 : DefM := ⟨fun K => (He.ga K "_law_due"), "_law_due", "_law_due", defArgs Pm.lDue, defBody Pm.lDue, defScope Pm.lDue, fun _ => [], []⟩
abbrev d32 : DefM := ⟨fun K => (He.ga K "_law_common_apart"), "_law_common_apart", "_law_common_apart", defArgs Pm.lCommonApart, defBody Pm.lCommonApart, defScope Pm.lCommonApart, fun _ => [], []⟩
abbrev d33 : DefM := ⟨fun K => (He.ga K "law"), "law", "law", defArgs Pm.lLaw, defBody Pm.lLaw, defScope Pm.lLaw, fun _ => [], []⟩
abbrev d34 : DefM := ⟨fun K => (He.ga K "_law_any"), "_law_any", "_law_any", defArgs Pm.lAny, defBody Pm.lAny, defScope Pm.lAny, fun _ => [], []⟩
def fns0 : List DefM := [d0, d1, d2, d3, d4, d5, d6, d7, d8, d9, d10, d11, d12, d13, d14, d15, d16, d17, d18, d19]
def fns1 : List DefM := [d20, d21, d22, d23, d24, d25, d26, d27, d28, d29, d30, d31, d32, d33, d34]
def fns : List DefM := fns0 ++ fns1
def x0 (K : Fr) : Bool := decide (PySem.W.specialIn K (.builtin "object.__class__") "__get__" = some (some (.builtin "getset_descriptor.__get__"))) && (decide (PySem.W.takesIn K (.builtin "object.__class__") = some true) && (decide (PySem.W.nsIn K mainGlobals "Picture" = some (some (.ref (He.ga K "Picture")))) && (decide (PySem.W.readsIn K (He.ga K "Picture") (.type "type") = true) && (decide (PySem.W.specialIn K (.ref (He.ga K "Picture")) "__getattribute__" = some (some (.builtin "type.__getattribute__"))) && (decide (PySem.W.nsIn K mainGlobals "Sketch" = some (some (.ref (He.ga K "Sketch")))) && (decide (PySem.W.typeIn K (.ref (He.ga K "Sketch")) = some (.type "type")) && (decide (PySem.W.plainGet K (He.ga K "Sketch") Str.empty = true) && (decide (PySem.W.hasDictIn K (He.ga K "Sketch") = true) && (decide (PySem.W.plainOver K (He.ga K "Sketch") = true) && (true))))))))))
theorem x0_ok {K : Fr} (h : x0 K = true) : PySem.W.specialIn K (.builtin "object.__class__") "__get__" = some (some (.builtin "getset_descriptor.__get__")) ∧ PySem.W.takesIn K (.builtin "object.__class__") = some true ∧ PySem.W.nsIn K mainGlobals "Picture" = some (some (.ref (He.ga K "Picture"))) ∧ PySem.W.readsIn K (He.ga K "Picture") (.type "type") = true ∧ PySem.W.specialIn K (.ref (He.ga K "Picture")) "__getattribute__" = some (some (.builtin "type.__getattribute__")) ∧ PySem.W.nsIn K mainGlobals "Sketch" = some (some (.ref (He.ga K "Sketch"))) ∧ PySem.W.typeIn K (.ref (He.ga K "Sketch")) = some (.type "type") ∧ PySem.W.plainGet K (He.ga K "Sketch") Str.empty = true ∧ PySem.W.hasDictIn K (He.ga K "Sketch") = true ∧ PySem.W.plainOver K (He.ga K "Sketch") = true ∧ True := by
  obtain ⟨h0, h⟩ := He.ba h
  obtain ⟨h1, h⟩ := He.ba h
  obtain ⟨h2, h⟩ := He.ba h
  obtain ⟨h3, h⟩ := He.ba h
  obtain ⟨h4, h⟩ := He.ba h
  obtain ⟨h5, h⟩ := He.ba h
  obtain ⟨h6, h⟩ := He.ba h
  obtain ⟨h7, h⟩ := He.ba h
  obtain ⟨h8, h⟩ := He.ba h
  obtain ⟨h9, h⟩ := He.ba h
  exact ⟨of_decide_eq_true h0, of_decide_eq_true h1, of_decide_eq_true h2, of_decide_eq_true h3, of_decide_eq_true h4, of_decide_eq_true h5, of_decide_eq_true h6, of_decide_eq_true h7, of_decide_eq_true h8, of_decide_eq_true h9, trivial⟩
def x1 (K : Fr) : Bool := decide (PySem.W.findIn K (.ref (He.ga K "Sketch")) "__setattr__" = some (some (.builtin "object.__setattr__"))) && (decide (PySem.W.makesIn K (He.ga K "Sketch") = true) && (decide (PySem.W.keepIn K (.ref (He.ga K "Sketch")) = true) && (decide (PySem.W.findIn K (.ref (He.ga K "Sketch")) "width" = some none) && (decide (PySem.W.findIn K (.ref (He.ga K "Sketch")) "height" = some none) && (decide (PySem.W.findIn K (.ref (He.ga K "Sketch")) "_rows" = some none) && (decide (PySem.W.readsIn K (He.ga K "Sketch") (.type "type") = true) && (decide (PySem.W.specialIn K (.ref (He.ga K "Sketch")) "__getattribute__" = some (some (.builtin "type.__getattribute__"))) && (decide (PySem.W.findIn K (.ref (He.ga K "Sketch")) "__class__" = some (some (.builtin "object.__class__"))) && (decide (PySem.W.mroIn K (He.ga K "Sketch") (.type "object") = some true) && (true))))))))))
theorem x1_ok {K : Fr} (h : x1 K = true) : PySem.W.findIn K (.ref (He.ga K "Sketch")) "__setattr__" = some (some (.builtin "object.__setattr__")) ∧ PySem.W.makesIn K (He.ga K "Sketch") = true ∧ PySem.W.keepIn K (.ref (He.ga K "Sketch")) = true ∧ PySem.W.findIn K (.ref (He.ga K "Sketch")) "width" = some none ∧ PySem.W.findIn K (.ref (He.ga K "Sketch")) "height" = some none ∧ PySem.W.findIn K (.ref (He.ga K "Sketch")) "_rows" = some none ∧ PySem.W.readsIn K (He.ga K "Sketch") (.type "type") = true ∧ PySem.W.specialIn K (.ref (He.ga K "Sketch")) "__getattribute__" = some (some (.builtin "type.__getattribute__")) ∧ PySem.W.findIn K (.ref (He.ga K "Sketch")) "__class__" = some (some (.builtin "object.__class__")) ∧ PySem.W.mroIn K (He.ga K "Sketch") (.type "object") = some true ∧ True := by
  obtain ⟨h0, h⟩ := He.ba h
  obtain ⟨h1, h⟩ := He.ba h
  obtain ⟨h2, h⟩ := He.ba h
  obtain ⟨h3, h⟩ := He.ba h
  obtain ⟨h4, h⟩ := He.ba h
  obtain ⟨h5, h⟩ := He.ba h
  obtain ⟨h6, h⟩ := He.ba h
  obtain ⟨h7, h⟩ := He.ba h
  obtain ⟨h8, h⟩ := He.ba h
  obtain ⟨h9, h⟩ := He.ba h
  exact ⟨of_decide_eq_true h0, of_decide_eq_true h1, of_decide_eq_true h2, of_decide_eq_true h3, of_decide_eq_true h4, of_decide_eq_true h5, of_decide_eq_true h6, of_decide_eq_true h7, of_decide_eq_true h8, of_decide_eq_true h9, trivial⟩
def x2 (K : Fr) : Bool := decide (PySem.W.isClsIn K (He.ga K "Sketch") = true) && (decide (PySem.W.subIn K (.type "str") (.ref (He.ga K "Sketch")) = some false) && (decide (PySem.W.subIn K (.type "list") (.ref (He.ga K "Sketch")) = some false) && (decide (PySem.W.findIn K (.ref (He.ga K "Sketch")) "__init__" = some (some (.ref (He.ma K (He.ga K "Sketch") "__init__")))) && (decide (PySem.W.isFn K (.ref (He.ma K (He.ga K "Sketch") "__init__")) = true) && (decide (PySem.W.keepIn K (.ref (He.ma K (He.ga K "Sketch") "__init__")) = true) && (decide (PySem.W.fnIn K (He5.wf K (He.ga K "Sketch") "classmethod" "read") = true) && (decide (PySem.W.keepIn K (.ref (He5.wf K (He.ga K "Sketch") "classmethod" "read")) = true) && (decide (PySem.W.nsIn K mainGlobals "EmptyCell" = some (some (.ref (He.ga K "EmptyCell")))) && (decide (PySem.W.findIn K (.ref (He.ga K "EmptyCell")) "__init__" = some (some (.ref (He.ma K (He.ga K "EmptyCell") "__init__")))) && (true))))))))))
theorem x2_ok {K : Fr} (h : x2 K = true) : PySem.W.isClsIn K (He.ga K "Sketch") = true ∧ PySem.W.subIn K (.type "str") (.ref (He.ga K "Sketch")) = some false ∧ PySem.W.subIn K (.type "list") (.ref (He.ga K "Sketch")) = some false ∧ PySem.W.findIn K (.ref (He.ga K "Sketch")) "__init__" = some (some (.ref (He.ma K (He.ga K "Sketch") "__init__"))) ∧ PySem.W.isFn K (.ref (He.ma K (He.ga K "Sketch") "__init__")) = true ∧ PySem.W.keepIn K (.ref (He.ma K (He.ga K "Sketch") "__init__")) = true ∧ PySem.W.fnIn K (He5.wf K (He.ga K "Sketch") "classmethod" "read") = true ∧ PySem.W.keepIn K (.ref (He5.wf K (He.ga K "Sketch") "classmethod" "read")) = true ∧ PySem.W.nsIn K mainGlobals "EmptyCell" = some (some (.ref (He.ga K "EmptyCell"))) ∧ PySem.W.findIn K (.ref (He.ga K "EmptyCell")) "__init__" = some (some (.ref (He.ma K (He.ga K "EmptyCell") "__init__"))) ∧ True := by
  obtain ⟨h0, h⟩ := He.ba h
  obtain ⟨h1, h⟩ := He.ba h
  obtain ⟨h2, h⟩ := He.ba h
  obtain ⟨h3, h⟩ := He.ba h
  obtain ⟨h4, h⟩ := He.ba h
  obtain ⟨h5, h⟩ := He.ba h
  obtain ⟨h6, h⟩ := He.ba h
  obtain ⟨h7, h⟩ := He.ba h
  obtain ⟨h8, h⟩ := He.ba h
  obtain ⟨h9, h⟩ := He.ba h
  exact ⟨of_decide_eq_true h0, of_decide_eq_true h1, of_decide_eq_true h2, of_decide_eq_true h3, of_decide_eq_true h4, of_decide_eq_true h5, of_decide_eq_true h6, of_decide_eq_true h7, of_decide_eq_true h8, of_decide_eq_true h9, trivial⟩
def x3 (K : Fr) : Bool := decide (PySem.W.typeIn K (.ref (He.ma K (He.ga K "EmptyCell") "__init__")) = some (.type "function")) && (decide (PySem.W.keepIn K (.ref (He.ma K (He.ga K "EmptyCell") "__init__")) = true) && (decide (PySem.W.typeIn K (.ref (He.ga K "EmptyCell")) = some (.type "type")) && (decide (PySem.W.findIn K (.ref (He.ga K "EmptyCell")) "__getattribute__" = some (some (.builtin "BaseException.__getattribute__"))) && (decide (PySem.W.findIn K (.ref (He.ga K "EmptyCell")) "__getattr__" = some none) && (decide (PySem.W.subIn K (.ref (He.ga K "EmptyCell")) (.type "BaseException") = some true) && (decide (PySem.W.subIn K (.ref (He.ga K "EmptyCell")) (.ref (He.ga K "EmptyCell")) = some true) && (decide (PySem.W.isClsIn K (He.ga K "EmptyCell") = true) && (decide (PySem.W.findIn K (.ref (He.ga K "EmptyCell")) "__class__" = some (some (.builtin "object.__class__"))) && (decide (PySem.W.mroIn K (He.ga K "EmptyCell") (.type "object") = some true) && (true))))))))))
theorem x3_ok {K : Fr} (h : x3 K = true) : PySem.W.typeIn K (.ref (He.ma K (He.ga K "EmptyCell") "__init__")) = some (.type "function") ∧ PySem.W.keepIn K (.ref (He.ma K (He.ga K "EmptyCell") "__init__")) = true ∧ PySem.W.typeIn K (.ref (He.ga K "EmptyCell")) = some (.type "type") ∧ PySem.W.findIn K (.ref (He.ga K "EmptyCell")) "__getattribute__" = some (some (.builtin "BaseException.__getattribute__")) ∧ PySem.W.findIn K (.ref (He.ga K "EmptyCell")) "__getattr__" = some none ∧ PySem.W.subIn K (.ref (He.ga K "EmptyCell")) (.type "BaseException") = some true ∧ PySem.W.subIn K (.ref (He.ga K "EmptyCell")) (.ref (He.ga K "EmptyCell")) = some true ∧ PySem.W.isClsIn K (He.ga K "EmptyCell") = true ∧ PySem.W.findIn K (.ref (He.ga K "EmptyCell")) "__class__" = some (some (.builtin "object.__class__")) ∧ PySem.W.mroIn K (He.ga K "EmptyCell") (.type "object") = some true ∧ True := by
  obtain ⟨h0, h⟩ := He.ba h
  obtain ⟨h1, h⟩ := He.ba h
  obtain ⟨h2, h⟩ := He.ba h
  obtain ⟨h3, h⟩ := He.ba h
  obtain ⟨h4, h⟩ := He.ba h
  obtain ⟨h5, h⟩ := He.ba h
  obtain ⟨h6, h⟩ := He.ba h
  obtain ⟨h7, h⟩ := He.ba h
  obtain ⟨h8, h⟩ := He.ba h
  obtain ⟨h9, h⟩ := He.ba h
  exact ⟨of_decide_eq_true h0, of_decide_eq_true h1, of_decide_eq_true h2, of_decide_eq_true h3, of_decide_eq_true h4, of_decide_eq_true h5, of_decide_eq_true h6, of_decide_eq_true h7, of_decide_eq_true h8, of_decide_eq_true h9, trivial⟩
def x4 (K : Fr) : Bool := decide (PySem.W.hasDictIn K (He.ga K "EmptyCell") = true) && (decide (PySem.W.keepIn K (.ref (He.ga K "EmptyCell")) = true) && (decide (PySem.W.findIn K (.ref (He.ga K "EmptyCell")) "x" = some none) && (decide (PySem.W.findIn K (.ref (He.ga K "EmptyCell")) "y" = some none) && (decide (PySem.W.findIn K (.ref (He.ga K "EmptyCell")) "__setattr__" = some (some (.builtin "object.__setattr__"))) && (decide (PySem.W.nsIn K mainGlobals "UnequalSize" = some (some (.ref (He.ga K "UnequalSize")))) && (decide (PySem.W.typeIn K (.ref (He.ga K "UnequalSize")) = some (.type "type")) && (decide (PySem.W.findIn K (.ref (He.ga K "UnequalSize")) "__getattribute__" = some (some (.builtin "BaseException.__getattribute__"))) && (decide (PySem.W.findIn K (.ref (He.ga K "UnequalSize")) "__getattr__" = some none) && (decide (PySem.W.subIn K (.ref (He.ga K "UnequalSize")) (.type "BaseException") = some true) && (true))))))))))
theorem x4_ok {K : Fr} (h : x4 K = true) : PySem.W.hasDictIn K (He.ga K "EmptyCell") = true ∧ PySem.W.keepIn K (.ref (He.ga K "EmptyCell")) = true ∧ PySem.W.findIn K (.ref (He.ga K "EmptyCell")) "x" = some none ∧ PySem.W.findIn K (.ref (He.ga K "EmptyCell")) "y" = some none ∧ PySem.W.findIn K (.ref (He.ga K "EmptyCell")) "__setattr__" = some (some (.builtin "object.__setattr__")) ∧ PySem.W.nsIn K mainGlobals "UnequalSize" = some (some (.ref (He.ga K "UnequalSize"))) ∧ PySem.W.typeIn K (.ref (He.ga K "UnequalSize")) = some (.type "type") ∧ PySem.W.findIn K (.ref (He.ga K "UnequalSize")) "__getattribute__" = some (some (.builtin "BaseException.__getattribute__")) ∧ PySem.W.findIn K (.ref (He.ga K "UnequalSize")) "__getattr__" = some none ∧ PySem.W.subIn K (.ref (He.ga K "UnequalSize")) (.type "BaseException") = some true ∧ True := by
  obtain ⟨h0, h⟩ := He.ba h
  obtain ⟨h1, h⟩ := He.ba h
  obtain ⟨h2, h⟩ := He.ba h
  obtain ⟨h3, h⟩ := He.ba h
  obtain ⟨h4, h⟩ := He.ba h
  obtain ⟨h5, h⟩ := He.ba h
  obtain ⟨h6, h⟩ := He.ba h
  obtain ⟨h7, h⟩ := He.ba h
  obtain ⟨h8, h⟩ := He.ba h
  obtain ⟨h9, h⟩ := He.ba h
  exact ⟨of_decide_eq_true h0, of_decide_eq_true h1, of_decide_eq_true h2, of_decide_eq_true h3, of_decide_eq_true h4, of_decide_eq_true h5, of_decide_eq_true h6, of_decide_eq_true h7, of_decide_eq_true h8, of_decide_eq_true h9, trivial⟩
def x5 (K : Fr) : Bool := decide (PySem.W.subIn K (.ref (He.ga K "UnequalSize")) (.ref (He.ga K "UnequalSize")) = some true) && (decide (PySem.W.isClsIn K (He.ga K "UnequalSize") = true) && (decide (PySem.W.findIn K (.ref (He.ga K "UnequalSize")) "__class__" = some (some (.builtin "object.__class__"))) && (decide (PySem.W.mroIn K (He.ga K "UnequalSize") (.type "object") = some true) && (decide (PySem.W.hasDictIn K (He.ga K "UnequalSize") = true) && (decide (PySem.W.keepIn K (.ref (He.ga K "UnequalSize")) = true) && (decide (PySem.W.excIn K (He.ga K "UnequalSize") [.type "ValueError", .type "Exception", .type "BaseException", .type "object"] "ValueError.__new__" = true) && (decide (PySem.W.nsIn K mainGlobals "SmaltiError" = some (some (.ref (He.ga K "SmaltiError")))) && (decide (PySem.W.typeIn K (.ref (He.ga K "SmaltiError")) = some (.type "type")) && (decide (PySem.W.subIn K (.ref (He.ga K "EmptyCell")) (.ref (He.ga K "SmaltiError")) = some true) && (true))))))))))
theorem x5_ok {K : Fr} (h : x5 K = true) : PySem.W.subIn K (.ref (He.ga K "UnequalSize")) (.ref (He.ga K "UnequalSize")) = some true ∧ PySem.W.isClsIn K (He.ga K "UnequalSize") = true ∧ PySem.W.findIn K (.ref (He.ga K "UnequalSize")) "__class__" = some (some (.builtin "object.__class__")) ∧ PySem.W.mroIn K (He.ga K "UnequalSize") (.type "object") = some true ∧ PySem.W.hasDictIn K (He.ga K "UnequalSize") = true ∧ PySem.W.keepIn K (.ref (He.ga K "UnequalSize")) = true ∧ PySem.W.excIn K (He.ga K "UnequalSize") [.type "ValueError", .type "Exception", .type "BaseException", .type "object"] "ValueError.__new__" = true ∧ PySem.W.nsIn K mainGlobals "SmaltiError" = some (some (.ref (He.ga K "SmaltiError"))) ∧ PySem.W.typeIn K (.ref (He.ga K "SmaltiError")) = some (.type "type") ∧ PySem.W.subIn K (.ref (He.ga K "EmptyCell")) (.ref (He.ga K "SmaltiError")) = some true ∧ True := by
  obtain ⟨h0, h⟩ := He.ba h
  obtain ⟨h1, h⟩ := He.ba h
  obtain ⟨h2, h⟩ := He.ba h
  obtain ⟨h3, h⟩ := He.ba h
  obtain ⟨h4, h⟩ := He.ba h
  obtain ⟨h5, h⟩ := He.ba h
  obtain ⟨h6, h⟩ := He.ba h
  obtain ⟨h7, h⟩ := He.ba h
  obtain ⟨h8, h⟩ := He.ba h
  obtain ⟨h9, h⟩ := He.ba h
  exact ⟨of_decide_eq_true h0, of_decide_eq_true h1, of_decide_eq_true h2, of_decide_eq_true h3, of_decide_eq_true h4, of_decide_eq_true h5, of_decide_eq_true h6, of_decide_eq_true h7, of_decide_eq_true h8, of_decide_eq_true h9, trivial⟩
def x6 (K : Fr) : Bool := decide (((He.ga K "EmptyCell") == (He.ga K "SmaltiError")) = false) && (decide (PySem.W.subIn K (.ref (He.ga K "UnequalSize")) (.ref (He.ga K "SmaltiError")) = some true) && (decide (((He.ga K "UnequalSize") == (He.ga K "SmaltiError")) = false) && (decide (PySem.W.subIn K (.ref (He.ga K "UnequalSize")) (.ref (He.ga K "EmptyCell")) = some false) && (decide (PySem.W.selfFirst K (He.ga K "Sketch") = true) && (decide (PySem.W.findIn K (.ref (He.ga K "Sketch")) "__and__" = some (some (.ref (He.ma K (He.ga K "Sketch") "__and__")))) && (decide (PySem.W.isFn K (.ref (He.ma K (He.ga K "Sketch") "__and__")) = true) && (decide (PySem.W.keepIn K (.ref (He.ma K (He.ga K "Sketch") "__and__")) = true) && (decide (PySem.W.findIn K (.ref (He.ga K "Sketch")) "allow" = some (some (.ref (He.ma K (He.ga K "Sketch") "allow")))) && (decide (PySem.W.isFn K (.ref (He.ma K (He.ga K "Sketch") "allow")) = true) && (true))))))))))
theorem x6_ok {K : Fr} (h : x6 K = true) : ((He.ga K "EmptyCell") == (He.ga K "SmaltiError")) = false ∧ PySem.W.subIn K (.ref (He.ga K "UnequalSize")) (.ref (He.ga K "SmaltiError")) = some true ∧ ((He.ga K "UnequalSize") == (He.ga K "SmaltiError")) = false ∧ PySem.W.subIn K (.ref (He.ga K "UnequalSize")) (.ref (He.ga K "EmptyCell")) = some false ∧ PySem.W.selfFirst K (He.ga K "Sketch") = true ∧ PySem.W.findIn K (.ref (He.ga K "Sketch")) "__and__" = some (some (.ref (He.ma K (He.ga K "Sketch") "__and__"))) ∧ PySem.W.isFn K (.ref (He.ma K (He.ga K "Sketch") "__and__")) = true ∧ PySem.W.keepIn K (.ref (He.ma K (He.ga K "Sketch") "__and__")) = true ∧ PySem.W.findIn K (.ref (He.ga K "Sketch")) "allow" = some (some (.ref (He.ma K (He.ga K "Sketch") "allow"))) ∧ PySem.W.isFn K (.ref (He.ma K (He.ga K "Sketch") "allow")) = true ∧ True := by
  obtain ⟨h0, h⟩ := He.ba h
  obtain ⟨h1, h⟩ := He.ba h
  obtain ⟨h2, h⟩ := He.ba h
  obtain ⟨h3, h⟩ := He.ba h
  obtain ⟨h4, h⟩ := He.ba h
  obtain ⟨h5, h⟩ := He.ba h
  obtain ⟨h6, h⟩ := He.ba h
  obtain ⟨h7, h⟩ := He.ba h
  obtain ⟨h8, h⟩ := He.ba h
  obtain ⟨h9, h⟩ := He.ba h
  exact ⟨of_decide_eq_true h0, of_decide_eq_true h1, of_decide_eq_true h2, of_decide_eq_true h3, of_decide_eq_true h4, of_decide_eq_true h5, of_decide_eq_true h6, of_decide_eq_true h7, of_decide_eq_true h8, of_decide_eq_true h9, trivial⟩
def x7 (K : Fr) : Bool := decide (PySem.W.keepIn K (.ref (He.ma K (He.ga K "Sketch") "allow")) = true) && (decide (PySem.W.findIn K (.ref (He.ga K "Sketch")) "text" = some (some (.ref (He.ma K (He.ga K "Sketch") "text")))) && (decide (PySem.W.isFn K (.ref (He.ma K (He.ga K "Sketch") "text")) = true) && (decide (PySem.W.keepIn K (.ref (He.ma K (He.ga K "Sketch") "text")) = true) && (decide (PySem.W.findIn K (.ref (He.ga K "Sketch")) "_check_cell" = some (some (.ref (He.ma K (He.ga K "Sketch") "_check_cell")))) && (decide (PySem.W.isFn K (.ref (He.ma K (He.ga K "Sketch") "_check_cell")) = true) && (decide (PySem.W.keepIn K (.ref (He.ma K (He.ga K "Sketch") "_check_cell")) = true) && (decide (PySem.W.findIn K (.ref (He.ga K "Sketch")) "__getitem__" = some (some (.ref (He.ma K (He.ga K "Sketch") "__getitem__")))) && (decide (PySem.W.isFn K (.ref (He.ma K (He.ga K "Sketch") "__getitem__")) = true) && (decide (PySem.W.keepIn K (.ref (He.ma K (He.ga K "Sketch") "__getitem__")) = true) && (true))))))))))
theorem x7_ok {K : Fr} (h : x7 K = true) : PySem.W.keepIn K (.ref (He.ma K (He.ga K "Sketch") "allow")) = true ∧ PySem.W.findIn K (.ref (He.ga K "Sketch")) "text" = some (some (.ref (He.ma K (He.ga K "Sketch") "text"))) ∧ PySem.W.isFn K (.ref (He.ma K (He.ga K "Sketch") "text")) = true ∧ PySem.W.keepIn K (.ref (He.ma K (He.ga K "Sketch") "text")) = true ∧ PySem.W.findIn K (.ref (He.ga K "Sketch")) "_check_cell" = some (some (.ref (He.ma K (He.ga K "Sketch") "_check_cell"))) ∧ PySem.W.isFn K (.ref (He.ma K (He.ga K "Sketch") "_check_cell")) = true ∧ PySem.W.keepIn K (.ref (He.ma K (He.ga K "Sketch") "_check_cell")) = true ∧ PySem.W.findIn K (.ref (He.ga K "Sketch")) "__getitem__" = some (some (.ref (He.ma K (He.ga K "Sketch") "__getitem__"))) ∧ PySem.W.isFn K (.ref (He.ma K (He.ga K "Sketch") "__getitem__")) = true ∧ PySem.W.keepIn K (.ref (He.ma K (He.ga K "Sketch") "__getitem__")) = true ∧ True := by
  obtain ⟨h0, h⟩ := He.ba h
  obtain ⟨h1, h⟩ := He.ba h
  obtain ⟨h2, h⟩ := He.ba h
  obtain ⟨h3, h⟩ := He.ba h
  obtain ⟨h4, h⟩ := He.ba h
  obtain ⟨h5, h⟩ := He.ba h
  obtain ⟨h6, h⟩ := He.ba h
  obtain ⟨h7, h⟩ := He.ba h
  obtain ⟨h8, h⟩ := He.ba h
  obtain ⟨h9, h⟩ := He.ba h
  exact ⟨of_decide_eq_true h0, of_decide_eq_true h1, of_decide_eq_true h2, of_decide_eq_true h3, of_decide_eq_true h4, of_decide_eq_true h5, of_decide_eq_true h6, of_decide_eq_true h7, of_decide_eq_true h8, of_decide_eq_true h9, trivial⟩
def x8 (K : Fr) : Bool := decide (PySem.W.fnIn K (He.ma K (He.ga K "Sketch") "__getitem__") = true) && (decide (PySem.W.findIn K (.ref (He.ga K "Sketch")) "__eq__" = some (some (.ref (He.ma K (He.ga K "Sketch") "__eq__")))) && (decide (PySem.W.isFn K (.ref (He.ma K (He.ga K "Sketch") "__eq__")) = true) && (decide (PySem.W.keepIn K (.ref (He.ma K (He.ga K "Sketch") "__eq__")) = true) && (decide (PySem.W.nsIn K mainGlobals "is_stone" = some (some (.ref (He.ga K "is_stone")))) && (decide (PySem.W.keepIn K (.ref (He.ga K "is_stone")) = true) && (decide (PySem.W.nsIn K mainGlobals "are_different_signs" = some (some (.ref (He.ga K "are_different_signs")))) && (decide (PySem.W.keepIn K (.ref (He.ga K "are_different_signs")) = true) && (decide (PySem.W.nsIn K mainGlobals "in_ascii_order" = some (some (.ref (He.ga K "in_ascii_order")))) && (decide (PySem.W.keepIn K (.ref (He.ga K "in_ascii_order")) = true) && (true))))))))))
theorem x8_ok {K : Fr} (h : x8 K = true) : PySem.W.fnIn K (He.ma K (He.ga K "Sketch") "__getitem__") = true ∧ PySem.W.findIn K (.ref (He.ga K "Sketch")) "__eq__" = some (some (.ref (He.ma K (He.ga K "Sketch") "__eq__"))) ∧ PySem.W.isFn K (.ref (He.ma K (He.ga K "Sketch") "__eq__")) = true ∧ PySem.W.keepIn K (.ref (He.ma K (He.ga K "Sketch") "__eq__")) = true ∧ PySem.W.nsIn K mainGlobals "is_stone" = some (some (.ref (He.ga K "is_stone"))) ∧ PySem.W.keepIn K (.ref (He.ga K "is_stone")) = true ∧ PySem.W.nsIn K mainGlobals "are_different_signs" = some (some (.ref (He.ga K "are_different_signs"))) ∧ PySem.W.keepIn K (.ref (He.ga K "are_different_signs")) = true ∧ PySem.W.nsIn K mainGlobals "in_ascii_order" = some (some (.ref (He.ga K "in_ascii_order"))) ∧ PySem.W.keepIn K (.ref (He.ga K "in_ascii_order")) = true ∧ True := by
  obtain ⟨h0, h⟩ := He.ba h
  obtain ⟨h1, h⟩ := He.ba h
  obtain ⟨h2, h⟩ := He.ba h
  obtain ⟨h3, h⟩ := He.ba h
  obtain ⟨h4, h⟩ := He.ba h
  obtain ⟨h5, h⟩ := He.ba h
  obtain ⟨h6, h⟩ := He.ba h
  obtain ⟨h7, h⟩ := He.ba h
  obtain ⟨h8, h⟩ := He.ba h
  obtain ⟨h9, h⟩ := He.ba h
  exact ⟨of_decide_eq_true h0, of_decide_eq_true h1, of_decide_eq_true h2, of_decide_eq_true h3, of_decide_eq_true h4, of_decide_eq_true h5, of_decide_eq_true h6, of_decide_eq_true h7, of_decide_eq_true h8, of_decide_eq_true h9, trivial⟩
def x9 (K : Fr) : Bool := decide (PySem.W.nsIn K mainGlobals "_are_allowed_signs" = some (some (.ref (He.ga K "_are_allowed_signs")))) && (decide (PySem.W.keepIn K (.ref (He.ga K "_are_allowed_signs")) = true) && (decide (PySem.W.nsIn K mainGlobals "_read_word" = some (some (.ref (He.ga K "_read_word")))) && (decide (PySem.W.keepIn K (.ref (He.ga K "_read_word")) = true) && (decide (PySem.W.nsIn K mainGlobals "_check_sizes" = some (some (.ref (He.ga K "_check_sizes")))) && (decide (PySem.W.keepIn K (.ref (He.ga K "_check_sizes")) = true) && (decide (PySem.W.nsIn K mainGlobals "_common_signs" = some (some (.ref (He.ga K "_common_signs")))) && (decide (PySem.W.keepIn K (.ref (He.ga K "_common_signs")) = true) && (decide (PySem.W.nsIn K mainGlobals "is_bad_row_sketches" = some (some (.ref (He.ga K "is_bad_row_sketches")))) && (decide (PySem.W.keepIn K (.ref (He.ga K "is_bad_row_sketches")) = true) && (true))))))))))
theorem x9_ok {K : Fr} (h : x9 K = true) : PySem.W.nsIn K mainGlobals "_are_allowed_signs" = some (some (.ref (He.ga K "_are_allowed_signs"))) ∧ PySem.W.keepIn K (.ref (He.ga K "_are_allowed_signs")) = true ∧ PySem.W.nsIn K mainGlobals "_read_word" = some (some (.ref (He.ga K "_read_word"))) ∧ PySem.W.keepIn K (.ref (He.ga K "_read_word")) = true ∧ PySem.W.nsIn K mainGlobals "_check_sizes" = some (some (.ref (He.ga K "_check_sizes"))) ∧ PySem.W.keepIn K (.ref (He.ga K "_check_sizes")) = true ∧ PySem.W.nsIn K mainGlobals "_common_signs" = some (some (.ref (He.ga K "_common_signs"))) ∧ PySem.W.keepIn K (.ref (He.ga K "_common_signs")) = true ∧ PySem.W.nsIn K mainGlobals "is_bad_row_sketches" = some (some (.ref (He.ga K "is_bad_row_sketches"))) ∧ PySem.W.keepIn K (.ref (He.ga K "is_bad_row_sketches")) = true ∧ True := by
  obtain ⟨h0, h⟩ := He.ba h
  obtain ⟨h1, h⟩ := He.ba h
  obtain ⟨h2, h⟩ := He.ba h
  obtain ⟨h3, h⟩ := He.ba h
  obtain ⟨h4, h⟩ := He.ba h
  obtain ⟨h5, h⟩ := He.ba h
  obtain ⟨h6, h⟩ := He.ba h
  obtain ⟨h7, h⟩ := He.ba h
  obtain ⟨h8, h⟩ := He.ba h
  obtain ⟨h9, h⟩ := He.ba h
  exact ⟨of_decide_eq_true h0, of_decide_eq_true h1, of_decide_eq_true h2, of_decide_eq_true h3, of_decide_eq_true h4, of_decide_eq_true h5, of_decide_eq_true h6, of_decide_eq_true h7, of_decide_eq_true h8, of_decide_eq_true h9, trivial⟩
def x10 (K : Fr) : Bool := decide (PySem.W.nsIn K mainGlobals "bad_line_sketches" = some (some (.ref (He.ga K "bad_line_sketches")))) && (decide (PySem.W.keepIn K (.ref (He.ga K "bad_line_sketches")) = true) && (decide (PySem.W.nsIn K mainGlobals "_law_bag" = some (some (.ref (He.ga K "_law_bag")))) && (decide (PySem.W.keepIn K (.ref (He.ga K "_law_bag")) = true) && (decide (PySem.W.nsIn K mainGlobals "_law_take" = some (some (.ref (He.ga K "_law_take")))) && (decide (PySem.W.keepIn K (.ref (He.ga K "_law_take")) = true) && (decide (PySem.W.nsIn K mainGlobals "_law_once" = some (some (.ref (He.ga K "_law_once")))) && (decide (PySem.W.keepIn K (.ref (He.ga K "_law_once")) = true) && (decide (PySem.W.nsIn K mainGlobals "_law_palette" = some (some (.ref (He.ga K "_law_palette")))) && (decide (PySem.W.keepIn K (.ref (He.ga K "_law_palette")) = true) && (true))))))))))
theorem x10_ok {K : Fr} (h : x10 K = true) : PySem.W.nsIn K mainGlobals "bad_line_sketches" = some (some (.ref (He.ga K "bad_line_sketches"))) ∧ PySem.W.keepIn K (.ref (He.ga K "bad_line_sketches")) = true ∧ PySem.W.nsIn K mainGlobals "_law_bag" = some (some (.ref (He.ga K "_law_bag"))) ∧ PySem.W.keepIn K (.ref (He.ga K "_law_bag")) = true ∧ PySem.W.nsIn K mainGlobals "_law_take" = some (some (.ref (He.ga K "_law_take"))) ∧ PySem.W.keepIn K (.ref (He.ga K "_law_take")) = true ∧ PySem.W.nsIn K mainGlobals "_law_once" = some (some (.ref (He.ga K "_law_once"))) ∧ PySem.W.keepIn K (.ref (He.ga K "_law_once")) = true ∧ PySem.W.nsIn K mainGlobals "_law_palette" = some (some (.ref (He.ga K "_law_palette"))) ∧ PySem.W.keepIn K (.ref (He.ga K "_law_palette")) = true ∧ True := by
  obtain ⟨h0, h⟩ := He.ba h
  obtain ⟨h1, h⟩ := He.ba h
  obtain ⟨h2, h⟩ := He.ba h
  obtain ⟨h3, h⟩ := He.ba h
  obtain ⟨h4, h⟩ := He.ba h
  obtain ⟨h5, h⟩ := He.ba h
  obtain ⟨h6, h⟩ := He.ba h
  obtain ⟨h7, h⟩ := He.ba h
  obtain ⟨h8, h⟩ := He.ba h
  obtain ⟨h9, h⟩ := He.ba h
  exact ⟨of_decide_eq_true h0, of_decide_eq_true h1, of_decide_eq_true h2, of_decide_eq_true h3, of_decide_eq_true h4, of_decide_eq_true h5, of_decide_eq_true h6, of_decide_eq_true h7, of_decide_eq_true h8, of_decide_eq_true h9, trivial⟩
def x11 (K : Fr) : Bool := decide (PySem.W.nsIn K mainGlobals "_law_row" = some (some (.ref (He.ga K "_law_row")))) && (decide (PySem.W.keepIn K (.ref (He.ga K "_law_row")) = true) && (decide (PySem.W.nsIn K mainGlobals "_law_grid" = some (some (.ref (He.ga K "_law_grid")))) && (decide (PySem.W.keepIn K (.ref (He.ga K "_law_grid")) = true) && (decide (PySem.W.nsIn K mainGlobals "_law_cells" = some (some (.ref (He.ga K "_law_cells")))) && (decide (PySem.W.keepIn K (.ref (He.ga K "_law_cells")) = true) && (decide (PySem.W.nsIn K mainGlobals "_law_allowed" = some (some (.ref (He.ga K "_law_allowed")))) && (decide (PySem.W.keepIn K (.ref (He.ga K "_law_allowed")) = true) && (decide (PySem.W.nsIn K mainGlobals "_law_table" = some (some (.ref (He.ga K "_law_table")))) && (decide (PySem.W.keepIn K (.ref (He.ga K "_law_table")) = true) && (true))))))))))
theorem x11_ok {K : Fr} (h : x11 K = true) : PySem.W.nsIn K mainGlobals "_law_row" = some (some (.ref (He.ga K "_law_row"))) ∧ PySem.W.keepIn K (.ref (He.ga K "_law_row")) = true ∧ PySem.W.nsIn K mainGlobals "_law_grid" = some (some (.ref (He.ga K "_law_grid"))) ∧ PySem.W.keepIn K (.ref (He.ga K "_law_grid")) = true ∧ PySem.W.nsIn K mainGlobals "_law_cells" = some (some (.ref (He.ga K "_law_cells"))) ∧ PySem.W.keepIn K (.ref (He.ga K "_law_cells")) = true ∧ PySem.W.nsIn K mainGlobals "_law_allowed" = some (some (.ref (He.ga K "_law_allowed"))) ∧ PySem.W.keepIn K (.ref (He.ga K "_law_allowed")) = true ∧ PySem.W.nsIn K mainGlobals "_law_table" = some (some (.ref (He.ga K "_law_table"))) ∧ PySem.W.keepIn K (.ref (He.ga K "_law_table")) = true ∧ True := by
  obtain ⟨h0, h⟩ := He.ba h
  obtain ⟨h1, h⟩ := He.ba h
  obtain ⟨h2, h⟩ := He.ba h
  obtain ⟨h3, h⟩ := He.ba h
  obtain ⟨h4, h⟩ := He.ba h
  obtain ⟨h5, h⟩ := He.ba h
  obtain ⟨h6, h⟩ := He.ba h
  obtain ⟨h7, h⟩ := He.ba h
  obtain ⟨h8, h⟩ := He.ba h
  obtain ⟨h9, h⟩ := He.ba h
  exact ⟨of_decide_eq_true h0, of_decide_eq_true h1, of_decide_eq_true h2, of_decide_eq_true h3, of_decide_eq_true h4, of_decide_eq_true h5, of_decide_eq_true h6, of_decide_eq_true h7, of_decide_eq_true h8, of_decide_eq_true h9, trivial⟩
def x12 (K : Fr) : Bool := decide (PySem.W.nsIn K mainGlobals "_law_sketch_text" = some (some (.ref (He.ga K "_law_sketch_text")))) && (decide (PySem.W.keepIn K (.ref (He.ga K "_law_sketch_text")) = true) && (decide (PySem.W.nsIn K mainGlobals "_law_at" = some (some (.ref (He.ga K "_law_at")))) && (decide (PySem.W.keepIn K (.ref (He.ga K "_law_at")) = true) && (decide (PySem.W.nsIn K mainGlobals "_law_sketch_is" = some (some (.ref (He.ga K "_law_sketch_is")))) && (decide (PySem.W.keepIn K (.ref (He.ga K "_law_sketch_is")) = true) && (decide (PySem.W.nsIn K mainGlobals "_law_met" = some (some (.ref (He.ga K "_law_met")))) && (decide (PySem.W.keepIn K (.ref (He.ga K "_law_met")) = true) && (decide (PySem.W.nsIn K mainGlobals "_law_due" = some (some (.ref (He.ga K "_law_due")))) && (decide (PySem.W.keepIn K (.ref (He.ga K "_law_due")) = true) && (true))))))))))
theorem x12_ok {K : Fr} (h : x12 K = true) : PySem.W.nsIn K mainGlobals "_law_sketch_text" = some (some (.ref (He.ga K "_law_sketch_text"))) ∧ PySem.W.keepIn K (.ref (He.ga K "_law_sketch_text")) = true ∧ PySem.W.nsIn K mainGlobals "_law_at" = some (some (.ref (He.ga K "_law_at"))) ∧ PySem.W.keepIn K (.ref (He.ga K "_law_at")) = true ∧ PySem.W.nsIn K mainGlobals "_law_sketch_is" = some (some (.ref (He.ga K "_law_sketch_is"))) ∧ PySem.W.keepIn K (.ref (He.ga K "_law_sketch_is")) = true ∧ PySem.W.nsIn K mainGlobals "_law_met" = some (some (.ref (He.ga K "_law_met"))) ∧ PySem.W.keepIn K (.ref (He.ga K "_law_met")) = true ∧ PySem.W.nsIn K mainGlobals "_law_due" = some (some (.ref (He.ga K "_law_due"))) ∧ PySem.W.keepIn K (.ref (He.ga K "_law_due")) = true ∧ True := by
  obtain ⟨h0, h⟩ := He.ba h
  obtain ⟨h1, h⟩ := He.ba h
  obtain ⟨h2, h⟩ := He.ba h
  obtain ⟨h3, h⟩ := He.ba h
  obtain ⟨h4, h⟩ := He.ba h
  obtain ⟨h5, h⟩ := He.ba h
  obtain ⟨h6, h⟩ := He.ba h
  obtain ⟨h7, h⟩ := He.ba h
  obtain ⟨h8, h⟩ := He.ba h
  obtain ⟨h9, h⟩ := He.ba h
  exact ⟨of_decide_eq_true h0, of_decide_eq_true h1, of_decide_eq_true h2, of_decide_eq_true h3, of_decide_eq_true h4, of_decide_eq_true h5, of_decide_eq_true h6, of_decide_eq_true h7, of_decide_eq_true h8, of_decide_eq_true h9, trivial⟩
def x13 (K : Fr) : Bool := decide (PySem.W.nsIn K mainGlobals "_law_common_apart" = some (some (.ref (He.ga K "_law_common_apart")))) && (decide (PySem.W.keepIn K (.ref (He.ga K "_law_common_apart")) = true) && (decide (PySem.W.nsIn K mainGlobals "law" = some (some (.ref (He.ga K "law")))) && (decide (PySem.W.keepIn K (.ref (He.ga K "law")) = true) && (decide (PySem.W.nsIn K mainGlobals "_law_any" = some (some (.ref (He.ga K "_law_any")))) && (decide (PySem.W.keepIn K (.ref (He.ga K "_law_any")) = true) && (decide (PySem.W.nsIn K mainGlobals "isinstance" = some none) && (decide (PySem.W.nsIn K mainGlobals "int" = some none) && (decide (PySem.W.nsIn K mainGlobals "list" = some none) && (decide (PySem.W.nsIn K mainGlobals "len" = some none) && (true))))))))))
theorem x13_ok {K : Fr} (h : x13 K = true) : PySem.W.nsIn K mainGlobals "_law_common_apart" = some (some (.ref (He.ga K "_law_common_apart"))) ∧ PySem.W.keepIn K (.ref (He.ga K "_law_common_apart")) = true ∧ PySem.W.nsIn K mainGlobals "law" = some (some (.ref (He.ga K "law"))) ∧ PySem.W.keepIn K (.ref (He.ga K "law")) = true ∧ PySem.W.nsIn K mainGlobals "_law_any" = some (some (.ref (He.ga K "_law_any"))) ∧ PySem.W.keepIn K (.ref (He.ga K "_law_any")) = true ∧ PySem.W.nsIn K mainGlobals "isinstance" = some none ∧ PySem.W.nsIn K mainGlobals "int" = some none ∧ PySem.W.nsIn K mainGlobals "list" = some none ∧ PySem.W.nsIn K mainGlobals "len" = some none ∧ True := by
  obtain ⟨h0, h⟩ := He.ba h
  obtain ⟨h1, h⟩ := He.ba h
  obtain ⟨h2, h⟩ := He.ba h
  obtain ⟨h3, h⟩ := He.ba h
  obtain ⟨h4, h⟩ := He.ba h
  obtain ⟨h5, h⟩ := He.ba h
  obtain ⟨h6, h⟩ := He.ba h
  obtain ⟨h7, h⟩ := He.ba h
  obtain ⟨h8, h⟩ := He.ba h
  obtain ⟨h9, h⟩ := He.ba h
  exact ⟨of_decide_eq_true h0, of_decide_eq_true h1, of_decide_eq_true h2, of_decide_eq_true h3, of_decide_eq_true h4, of_decide_eq_true h5, of_decide_eq_true h6, of_decide_eq_true h7, of_decide_eq_true h8, of_decide_eq_true h9, trivial⟩
def x14 (K : Fr) : Bool := decide (PySem.W.nsIn K mainGlobals "range" = some none) && (decide (PySem.W.nsIn K mainGlobals "all" = some none) && (decide (PySem.W.nsIn K mainGlobals "enumerate" = some none) && (decide (PySem.W.nsIn K mainGlobals "str" = some none) && (decide (PySem.W.nsIn K mainGlobals "set" = some none) && (decide (PySem.W.nsIn K mainGlobals "sorted" = some none) && (decide (PySem.W.nsIn K mainGlobals "zip" = some none) && (true)))))))
theorem x14_ok {K : Fr} (h : x14 K = true) : PySem.W.nsIn K mainGlobals "range" = some none ∧ PySem.W.nsIn K mainGlobals "all" = some none ∧ PySem.W.nsIn K mainGlobals "enumerate" = some none ∧ PySem.W.nsIn K mainGlobals "str" = some none ∧ PySem.W.nsIn K mainGlobals "set" = some none ∧ PySem.W.nsIn K mainGlobals "sorted" = some none ∧ PySem.W.nsIn K mainGlobals "zip" = some none ∧ True := by
  obtain ⟨h0, h⟩ := He.ba h
  obtain ⟨h1, h⟩ := He.ba h
  obtain ⟨h2, h⟩ := He.ba h
  obtain ⟨h3, h⟩ := He.ba h
  obtain ⟨h4, h⟩ := He.ba h
  obtain ⟨h5, h⟩ := He.ba h
  obtain ⟨h6, h⟩ := He.ba h
  exact ⟨of_decide_eq_true h0, of_decide_eq_true h1, of_decide_eq_true h2, of_decide_eq_true h3, of_decide_eq_true h4, of_decide_eq_true h5, of_decide_eq_true h6, trivial⟩
def y0 (K : Fr) : Bool := Hm.cvalB K (He.ga K "Picture") "HOLE" ((.str "."))
def y1 (K : Fr) : Bool := Hm.cvalB K (He.ga K "Picture") "EDGE" ((.str "#"))
def y2 (K : Fr) : Bool := Hm.clsB K (He.ga K "Sketch")
def y3 (K : Fr) : Bool := Hm.ivalB K (He.ga K "Sketch") "ANY" ((.str ".abcdefghijklmnopqrstuvwxyz"))
def y4 (K : Fr) : Bool := Hm.cvalB K (He.ga K "Sketch") "ANY" ((.str ".abcdefghijklmnopqrstuvwxyz"))
def y5 (K : Fr) : Bool := He5.wrapB K (He.ga K "Sketch") "classmethod" "classmethod.__get__" "read"
def y6 (K : Fr) : Bool := Hm.excB K (He.ga K "EmptyCell")
def y7 (K : Fr) : Bool := Hm.clsB K (He.ga K "EmptyCell")
def y8 (K : Fr) : Bool := Hm.clsB K (He.ga K "UnequalSize")
def y9 (K : Fr) : Bool := Hm.clsB K (He.ga K "SmaltiError")
def y10 (K : Fr) : Bool := Hm.globB K "STONES" ((.str alphaS))
def y11 (K : Fr) : Bool := Hm.globB K "MOST" ((.int 8))
def y12 (K : Fr) : Bool := Hm.globB K "_ANY_WORD" ((.str "*"))
def exs : List (Fr → Bool) := [x0, x1, x2, x3, x4, x5, x6, x7, x8, x9, x10, x11, x12, x13, x14, y0, y1, y2, y3, y4, y5, y6, y7, y8, y9, y10, y11, y12]
def loose0 : List Str := ["_wall", "_GROUP", "_GROUP_DIGITS", "decimal", "Region", "SmaltiError", "InvalidPicture", "InvalidSketch", "InvalidSigns", "OutOfPicture", "EmptyCell", "UnequalSize", "STONES", "MOST", "is_stone", "is_stone_or_hole", "are_different_signs", "in_ascii_order", "_is_bad_row", "is_bad_row_pictures", "_bad_line", "bad_line_pictures", "Picture", "_ANY_WORD", "_are_allowed_signs", "_check_sizes", "is_bad_row_sketches", "bad_line_sketches", "_read_word", "_common_signs"]
def loose1 : List Str := ["Sketch", "_law_bag", "_law_take", "_law_once", "_law_palette", "_law_row", "_law_grid", "_law_cells", "_law_any", "_law_allowed", "_law_table", "_law_sketch_text", "_law_at", "_law_sketch_is", "_law_met", "_law_due", "_law_common_apart"]
def loose : List Str := loose0 ++ loose1
def as0 : List Addr := [3, 2, 124, 123, 138, 137, 158, 157, 177, 176, 196, 195, 215, 214, 234, 233, 246, 245, 397, 396, 544, 543, 255, 254, 267, 266, 274, 273, 420, 419]
def as1 : List Addr := [279, 278, 427, 426, 286, 285, 408, 407, 415, 414, 434, 433, 439, 438, 553, 552, 560, 559, 567, 566, 574, 573, 581, 580, 586, 585, 593, 592, 600, 599]
def as2 : List Addr := [605, 604, 610, 609, 615, 614, 622, 621, 629, 628, 636, 635, 641, 640, 648, 647, 655, 654, 231, 230, 452, 451, 475, 474, 480, 479, 508, 507, 515, 514]
def as3 : List Addr := [534, 533, 541, 540, 457, 456, 49, 309, 319, 459, 467, 447]
def asK : List Addr := as0 ++ as1 ++ as2 ++ as3
abbrev R : PySem.W.OpenRow := PySem.W.OpenLaw.row PySem.Challenge.rw_smalti_k21_sketch_common
abbrev hk : PySem.W.Hook := hookM asK fns exs
def ob (s : PySem.W.SharedT) : AlM := obsMG asK fns exs (HandSHeadRun.getT s)
theorem ob_eq (s : PySem.W.SharedT) : ob s = hk.obs s.abs := obsMG_eq (HandSHeadRun.getT_eq s)
theorem run (w : World) : HandSHeadRun.RunEq R (PySem.W.view R.prog [54]) hk ob 12000 loose w := by
  intro os
  kernel_rfl
theorem facts {w : World} {K : Fr} {h : Heap} {mg : Str → Option Value} {fa : Addr} (X : K.In h) (G : h.Ns mainGlobals mg) (hfa : mg "law" = some (.ref fa)) (c : SaysM fns exs K) :
    ∃ fd : FuncData, (∀ (s : Shared) (v : Value), BindsTo s fd ⟨[v], []⟩ [("_law_script", v)]) ∧ ∀ base : Heap, K.In base → base.Ns mainGlobals mg → FnOk (PySem.Challenge.rw_smalti_k21_sketch_common).prog w K mg base CX0 8 fa fd ["_law_script"] (spLaw K) := by
  obtain ⟨_, _, _, _, _, _, _, _, _, lI, cI, wI⟩ := c.fn 0 (d := d0) rfl
  obtain ⟨_, _, _, _, _, _, _, _, _, lRd, cRd, _⟩ := c.fn 1 (d := d1) rfl
  obtain ⟨_, _, _, _, _, _, _, _, _, lEy, cEy, _⟩ := c.fn 2 (d := d2) rfl
  obtain ⟨_, _, _, _, _, _, _, _, _, lNd, cNd, _⟩ := c.fn 3 (d := d3) rfl
  obtain ⟨_, _, _, _, _, _, _, _, _, lAw, cAw, _⟩ := c.fn 4 (d := d4) rfl
  obtain ⟨_, _, _, _, _, _, _, _, _, lTx, cTx, _⟩ := c.fn 5 (d := d5) rfl
  obtain ⟨_, _, _, _, _, _, _, _, _, lCk, cCk, _⟩ := c.fn 6 (d := d6) rfl
  obtain ⟨_, _, _, _, _, _, _, _, _, lGi, cGi, _⟩ := c.fn 7 (d := d7) rfl
  obtain ⟨_, _, _, _, _, _, _, _, _, lEq, cEq, _⟩ := c.fn 8 (d := d8) rfl
  obtain ⟨_, _, _, _, _, _, _, _, _, lIs, cIs, _⟩ := c.fn 9 (d := d9) rfl
  obtain ⟨_, _, _, _, _, _, _, _, _, lDf, cDf, _⟩ := c.fn 10 (d := d10) rfl
  obtain ⟨_, _, _, _, _, _, _, _, _, lAs, cAs, _⟩ := c.fn 11 (d := d11) rfl
  obtain ⟨_, _, _, _, _, _, _, _, _, lAl, cAl, _⟩ := c.fn 12 (d := d12) rfl
  obtain ⟨_, _, _, _, _, _, _, _, _, lRw, cRw, _⟩ := c.fn 13 (d := d13) rfl
  obtain ⟨_, _, _, _, _, _, _, _, _, lCz, cCz, _⟩ := c.fn 14 (d := d14) rfl
  obtain ⟨_, _, _, _, _, _, _, _, _, lCm, cCm, _⟩ := c.fn 15 (d := d15) rfl
  obtain ⟨_, _, _, _, _, _, _, _, _, lBa, cBa, _⟩ := c.fn 16 (d := d16) rfl
  obtain ⟨_, _, _, _, _, _, _, _, _, lBl, cBl, _⟩ := c.fn 17 (d := d17) rfl
  obtain ⟨_, _, _, _, _, _, _, _, _, lBag, cBag, _⟩ := c.fn 18 (d := d18) rfl
  obtain ⟨_, _, _, _, _, _, _, _, _, lTake, cTake, _⟩ := c.fn 19 (d := d19) rfl
  obtain ⟨_, _, _, _, _, _, _, _, _, lOnce, cOnce, _⟩ := c.fn 20 (d := d20) rfl
  obtain ⟨_, _, _, _, _, _, _, _, _, lPal, cPal, _⟩ := c.fn 21 (d := d21) rfl
  obtain ⟨_, _, _, _, _, _, _, _, _, lRow, cRow, _⟩ := c.fn 22 (d := d22) rfl
  obtain ⟨_, _, _, _, _, _, _, _, _, lGrid, cGrid, _⟩ := c.fn 23 (d := d23) rfl
  obtain ⟨_, _, _, _, _, _, _, _, _, lCe, cCe, _⟩ := c.fn 24 (d := d24) rfl
  obtain ⟨_, _, _, _, _, _, _, _, _, lAd, cAd, _⟩ := c.fn 25 (d := d25) rfl
  obtain ⟨_, _, _, _, _, _, _, _, _, lTb, cTb, _⟩ := c.fn 26 (d := d26) rfl
  obtain ⟨_, _, _, _, _, _, _, _, _, lLt, cLt, _⟩ := c.fn 27 (d := d27) rfl
  obtain ⟨_, _, _, _, _, _, _, _, _, lLa, cLa, _⟩ := c.fn 28 (d := d28) rfl
  obtain ⟨_, _, _, _, _, _, _, _, _, lLi, cLi, _⟩ := c.fn 29 (d := d29) rfl
  obtain ⟨_, _, _, _, _, _, _, _, _, lMet, cMet, _⟩ := c.fn 30 (d := d30) rfl
  obtain ⟨_, _, _, _, _, _, _, _, _, lDu, cDu, _⟩ := c.fn 31 (d := d31) rfl
  obtain ⟨_, _, _, _, _, _, _, _, _, lAp, cAp, _⟩ := c.fn 32 (d := d32) rfl
  obtain ⟨_, _, _, _, _, _, _, _, _, lLaw, cLaw, _⟩ := c.fn 33 (d := d33) rfl
  obtain ⟨_, _, _, _, _, _, _, _, _, lAny, cAny, _⟩ := c.fn 34 (d := d34) rfl
  obtain ⟨cn, ct, gC, rdC, gaC, gCS, tyCS, pgCS, hdCS, poCS, _⟩ := x0_ok (c.ex (b := x0) (List.mem_of_getElem? (i := 0) rfl))
  obtain ⟨saCS, mkCS, kpCS, nCS_width, nCS_height, nCS_rows, rdCS, gaCS, haCS, hmCS, _⟩ := x1_ok (c.ex (b := x1) (List.mem_of_getElem? (i := 1) rfl))
  obtain ⟨icCS, sStr, sLst, aI, iI, kI, iRd, kRd, gCY, atCY, _⟩ := x2_ok (c.ex (b := x2) (List.mem_of_getElem? (i := 2) rfl))
  obtain ⟨ftCY, kEy, tyCY, hgCY, hkCY, svCY, sxCY, icCY, haCY, hmCY, _⟩ := x3_ok (c.ex (b := x3) (List.mem_of_getElem? (i := 3) rfl))
  obtain ⟨hdCY, kpCY, nCY_x, nCY_y, saCY, gCU, tyCU, hgCU, hkCU, svCU, _⟩ := x4_ok (c.ex (b := x4) (List.mem_of_getElem? (i := 4) rfl))
  obtain ⟨sxCU, icCU, haCU, hmCU, hdCU, kpCU, xU, gCE, tyCE, sbCYCE, _⟩ := x5_ok (c.ex (b := x5) (List.mem_of_getElem? (i := 5) rfl))
  obtain ⟨neCYCE, sbCUCE, neCUCE, sbUY, sfCS, aNd, iNd, kNd, aAw, iAw, _⟩ := x6_ok (c.ex (b := x6) (List.mem_of_getElem? (i := 6) rfl))
  obtain ⟨kAw, aTx, iTx, kTx, aCk, iCk, kCk, aGi, iGi, kGi, _⟩ := x7_ok (c.ex (b := x7) (List.mem_of_getElem? (i := 7) rfl))
  obtain ⟨fiGi, aEq, iEq, kEq, aIs, kIs, aDf, kDf, aAs, kAs, _⟩ := x8_ok (c.ex (b := x8) (List.mem_of_getElem? (i := 8) rfl))
  obtain ⟨aAl, kAl, aRw, kRw, aCz, kCz, aCm, kCm, aBa, kBa, _⟩ := x9_ok (c.ex (b := x9) (List.mem_of_getElem? (i := 9) rfl))
  obtain ⟨aBl, kBl, aBag, kBag, aTake, kTake, aOnce, kOnce, aPal, kPal, _⟩ := x10_ok (c.ex (b := x10) (List.mem_of_getElem? (i := 10) rfl))
  obtain ⟨aRow, kRow, aGrid, kGrid, aCe, kCe, aAd, kAd, aTb, kTb, _⟩ := x11_ok (c.ex (b := x11) (List.mem_of_getElem? (i := 11) rfl))
  obtain ⟨aLt, kLt, aLa, kLa, aLi, kLi, aMet, kMet, aDu, kDu, _⟩ := x12_ok (c.ex (b := x12) (List.mem_of_getElem? (i := 12) rfl))
  obtain ⟨aAp, kAp, aLaw, kLaw, aAny, kAny, zisinstance, zint, zlist, zlen, _⟩ := x13_ok (c.ex (b := x13) (List.mem_of_getElem? (i := 13) rfl))
  obtain ⟨zrange, zall, zenumerate, zstr, zset, zsorted, zzip, _⟩ := x14_ok (c.ex (b := x14) (List.mem_of_getElem? (i := 14) rfl))
  obtain ⟨uHo, aHo, rlHo⟩ := Hm.cvalB_ok (c.ex (b := y0) (List.mem_of_getElem? (i := 15) rfl))
  obtain ⟨uEd, aEd, rlEd⟩ := Hm.cvalB_ok (c.ex (b := y1) (List.mem_of_getElem? (i := 16) rfl))
  obtain ⟨cdtCS, cxCS⟩ := Hm.clsB_ok (c.ex (b := y2) (List.mem_of_getElem? (i := 17) rfl))
  obtain ⟨uAn, aAn, rlAn, ggAn⟩ := Hm.ivalB_ok (c.ex (b := y3) (List.mem_of_getElem? (i := 18) rfl))
  obtain ⟨uAv, aAv, rlAv⟩ := Hm.cvalB_ok (c.ex (b := y4) (List.mem_of_getElem? (i := 19) rfl))
  obtain ⟨aRd, restRd, rRd⟩ := He5.wrapB_ok (c.ex (b := y5) (List.mem_of_getElem? (i := 20) rfl))
  obtain ⟨nmCY, qnCY, nsCY, bsCY, bmCY, snCY, sbCY, abCY, coCY, ddCY, x0CY, x1CY, x2CY, x3CY, x5CY, lkCY, vbCY⟩ := Hm.excB_ok (c.ex (b := y6) (List.mem_of_getElem? (i := 21) rfl))
  obtain ⟨cdtCY, cxCY⟩ := Hm.clsB_ok (c.ex (b := y7) (List.mem_of_getElem? (i := 22) rfl))
  obtain ⟨cdtCU, cxCU⟩ := Hm.clsB_ok (c.ex (b := y8) (List.mem_of_getElem? (i := 23) rfl))
  obtain ⟨cdtCE, cxCE⟩ := Hm.clsB_ok (c.ex (b := y9) (List.mem_of_getElem? (i := 24) rfl))
  obtain ⟨uSt, aSt, rlSt⟩ := Hm.globB_ok (c.ex (b := y10) (List.mem_of_getElem? (i := 25) rfl))
  obtain ⟨uMo, aMo, rlMo⟩ := Hm.globB_ok (c.ex (b := y11) (List.mem_of_getElem? (i := 26) rfl))
  obtain ⟨uWd, aWd, rlWd⟩ := Hm.globB_ok (c.ex (b := y12) (List.mem_of_getElem? (i := 27) rfl))
  exact Pm.all_mk (l := PySem.Challenge.rw_smalti_k21_sketch_common) X G hfa cn ct gC rdC gaC aHo rlHo aEd rlEd gCS cxCS tyCS pgCS hdCS poCS saCS mkCS kpCS nCS_width nCS_height nCS_rows rdCS gaCS haCS hmCS icCS sStr sLst aAn rlAn ggAn aAv rlAv aI iI lI cI kI wI aRd rRd iRd lRd cRd kRd gCY lkCY vbCY atCY ftCY lEy cEy kEy cxCY tyCY hgCY hkCY svCY sxCY icCY haCY hmCY hdCY kpCY nCY_x nCY_y saCY gCU cxCU tyCU hgCU hkCU svCU sxCU icCU haCU hmCU hdCU kpCU xU gCE cxCE tyCE sbCYCE neCYCE sbCUCE neCUCE sbUY sfCS aNd iNd lNd cNd kNd aAw iAw lAw cAw kAw aTx iTx lTx cTx kTx aCk iCk lCk cCk kCk aGi iGi lGi cGi kGi fiGi aEq iEq lEq cEq kEq aSt rlSt aMo rlMo aWd rlWd aIs lIs cIs kIs aDf lDf cDf kDf aAs lAs cAs kAs aAl lAl cAl kAl aRw lRw cRw kRw aCz lCz cCz kCz aCm lCm cCm kCm aBa lBa cBa kBa aBl lBl cBl kBl aBag lBag cBag kBag aTake lTake cTake kTake aOnce lOnce cOnce kOnce aPal lPal cPal kPal aRow lRow cRow kRow aGrid lGrid cGrid kGrid aCe lCe cCe kCe aAd lAd cAd kAd aTb lTb cTb kTb aLt lLt cLt kLt aLa lLa cLa kLa aLi lLi cLi kLi aMet lMet cMet kMet aDu lDu cDu kDu aAp lAp cAp kAp aLaw lLaw cLaw kLaw aAny lAny cAny kAny zisinstance zint zlist zlen zrange zall zenumerate zstr zset zsorted zzip
end Hd

open PySem PySem.W PySem.Calls PyProof.Rows in
set_option maxRecDepth 100000 in
set_option maxHeartbeats 0 in
theorem PySem.Challenge.cw_smalti_k21_sketch_common_holds : PySem.Challenge.rw_smalti_k21_sketch_common.Holds := by
  w_on; o_law
  refine HandSHeadRun.head_any (r := OpenLaw.row PySem.Challenge.rw_smalti_k21_sketch_common) (q := view (OpenLaw.row PySem.Challenge.rw_smalti_k21_sketch_common).prog [54]) (H := Hd.hk) (ob := Hd.ob) (M := 12000) (loose := Hd.loose) (d := HandSHeadRun.topDef (OpenLaw.row PySem.Challenge.rw_smalti_k21_sketch_common).prog 54) (kwd := []) Hd.ob_eq
    (by kernel_rfl) (fun s => by kernel_rfl) Hd.run (by kernel_rfl) (by kernel_rfl) (by kernel_rfl) (by rfl) (by first | assumption | decide +kernel) (by decide +kernel) ⟨rfl, rfl, rfl, rfl, rfl, by decide +kernel⟩ ?hw ?hc
  case hw => w_witness2
  case hc =>
    refine L2.walk_ofE (l := PySem.Challenge.rw_smalti_k21_sketch_common) (n := 63) (k := 8) (x := "_law_script") (CX := L2.CX0) rfl (by decide) (by kernel_rfl) ⟨rfl, by decide, by decide⟩ ?F (fun _ _ _ _ z => z)
    intro w mg fa h Y G hmg0
    obtain ⟨K, KX, c⟩ := Y
    have hmg : mg ("law" : PySem.Str) = some (.ref fa) := by
      have e : (HandSHeadRun.topDef (OpenLaw.row PySem.Challenge.rw_smalti_k21_sketch_common).prog 54).name = ("law" : PySem.Str) := by kernel_rfl
      rw [← e]
      exact hmg0
    obtain ⟨fd, hb, hF⟩ := Hd.facts (w := w) KX G hmg c
    exact ⟨K, fd, Pm.spLaw K, KX, hb, fun H a ns hl _ hS => ⟨a, ns, rfl, hS, hl, fun _ => rfl⟩, hF⟩
