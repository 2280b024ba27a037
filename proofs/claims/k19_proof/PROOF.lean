import PyProof.Rows.All
import Wide.All
import OpenK.AllK
import Wide.FinOn
import HandS.ForMost
import HandS.IsInst
import HandS.Property
import HandS.SetKeys
import HandS.Conv
import HandS.Zip
import HandS.Star
import HandS.Walk
import HandS.TupAny
import HandS.Flow
import HandS.SortInts
import HandS.TupMul
import HandS.Codes
import HandS.SortInts
import PySem.Challenge.RW_liarslate_k19_spread_by_hand
set_option Elab.async false
set_option maxRecDepth 100000
set_option maxHeartbeats 4000000
namespace Spr
open PySem L2
def top (i : Nat) : Stmt := PySem.Challenge.pw_liarslate_k19_spread_by_hand.main.body.getD i (.Pass ⟨0, 0, 0, 0⟩)
abbrev s_wall : Stmt := top 0
abbrev s_SlateError_init : Stmt := inClass (top 2) 0
abbrev s_is_integer : Stmt := top 13
abbrev s_is_from : Stmt := top 14
abbrev s_is_hand : Stmt := top 15
abbrev s_check_hand : Stmt := top 16
abbrev s_is_hands : Stmt := top 17
abbrev s_is_counts : Stmt := top 25
abbrev s_is_spread : Stmt := top 26
abbrev s_check_number : Stmt := top 27
abbrev s_check_spread : Stmt := top 28
abbrev s_votes : Stmt := top 29
abbrev s_Ear_init : Stmt := inClass (top 30) 0
abbrev s_Ear_hear : Stmt := inClass (top 30) 1
abbrev s_Ear_do_due : Stmt := inClass (top 30) 2
abbrev s_Spread_init : Stmt := inClass (top 31) 0
abbrev s_Spread_eq : Stmt := inClass (top 31) 1
abbrev s_Spread_len : Stmt := inClass (top 31) 2
abbrev s_Spread_under_way : Stmt := inClass (top 31) 3
abbrev s_Spread_echoes : Stmt := inClass (top 31) 4
abbrev s_Spread_promises : Stmt := inClass (top 31) 5
abbrev s_Spread_takings : Stmt := inClass (top 31) 6
abbrev s_Spread_log : Stmt := inClass (top 31) 7
abbrev s_Spread_is_honest : Stmt := inClass (top 31) 8
abbrev s_Spread_put : Stmt := inClass (top 31) 9
abbrev s_Spread_put_to_all : Stmt := inClass (top 31) 10
abbrev s_Spread_hear : Stmt := inClass (top 31) 11
abbrev s_Spread_deliver : Stmt := inClass (top 31) 12
abbrev s_Spread_lie : Stmt := inClass (top 31) 13
abbrev s_Spread_rest : Stmt := inClass (top 31) 14
abbrev s_Spread_heard : Stmt := inClass (top 31) 15
abbrev s_Spread_copy : Stmt := inClass (top 31) 16
abbrev s_usual : Stmt := top 32
abbrev s_law_pot : Stmt := top 34
abbrev s_law_take : Stmt := top 35
abbrev s_law_of : Stmt := top 36
abbrev s_law_cells : Stmt := top 37
abbrev s_law_is_like : Stmt := top 38
abbrev s_law_is_honest_right : Stmt := top 39
abbrev s_law_is_faced_right : Stmt := top 40
abbrev s_law_are_ones_right : Stmt := top 41
abbrev s_law_right : Stmt := top 42
abbrev s_law : Stmt := top 43
end Spr
namespace Spr
open PySem L2
/-! ### helpers -/
theorem same_upd {H H' : Hp} {D : Addr} {o : HO} (s : Same H H') (h : H D = none) : Same H (upd H' D o) := fun b u e => by
  rw [upd_ne (ne_of_none e h)]
  exact s b u e
theorem same_new {H : Hp} {D : Addr} {o : HO} (h : H D = none) : Same H (upd H D o) := same_upd (Same.refl H) h
theorem sTup {K : PySem.W.Frag} {H H' : Hp} {a : Addr} {xs : List V} (e : Same H H') (h : SqT K H a xs) : SqT K H' a xs := by
  rcases h with (h | ⟨o, h⟩) | h
  · exact .inl (.inl (e _ _ h))
  · exact .inl (.inr ⟨o, e _ _ h⟩)
  · exact .inr h
/-- all that stood stands, and at D a list of ys i -/
def PvS (H1 : Hp) (D : Addr) (ys : Nat → List V) (i : Nat) (H : Hp) : Prop := Same H1 H ∧ H D = some (.lst (ys i))
theorem pv0 {H1 : Hp} {D : Addr} {ys : Nat → List V} (hD : H1 D = none) (y0 : ys 0 = []) : PvS H1 D ys 0 (upd H1 D (.lst [])) := ⟨same_new hD, by rw [upd_same, y0]⟩
theorem pvStep {H1 H4 : Hp} {D : Addr} {ys : Nat → List V} {i : Nat} {y : V} (hD : H1 D = none) (s : Same H1 H4) (h : H4 D = some (.lst (ys i))) (hl : (ys i).length < sizeLine) (e : ys (i + 1) = ys i ++ [y]) :
    ∃ acc, H4 D = some (.lst acc) ∧ acc.length < sizeLine ∧ PvS H1 D ys (i + 1) (upd H4 D (.lst (acc ++ [y]))) := ⟨ys i, h, hl, same_upd s hD, by rw [upd_same, e]⟩
theorem pvSkip {H1 H4 : Hp} {D : Addr} {ys : Nat → List V} {i : Nat} (s : Same H1 H4) (h : H4 D = some (.lst (ys i))) (e : ys (i + 1) = ys i) : PvS H1 D ys (i + 1) H4 := ⟨s, by rw [e]; exact h⟩
theorem walk_zipT {K : PySem.W.Frag} {a b : Addr} {xs ys : List V} {n : Nat} (hn : n = min xs.length ys.length) : Walk (RZ.ItzT K a b) n (fun H => SqT K H a xs ∧ SqT K H b ys) (YPair (fun i => xs[i]?) (fun i => ys[i]?)) := by
  subst hn
  refine ⟨fun i _ hi q => ?_, fun _ q => ⟨xs, ys, q.1, q.2, by omega⟩, fun i H v H' _ q y => ?_⟩
  · have h1 : i < xs.length := by omega
    have h2 : i < ys.length := by omega
    exact ⟨xs, ys, xs[i], ys[i], q.1, q.2, by simp [h1], by simp [h2]⟩
  · obtain ⟨T, x, z, h1, h2, h3, h4, h5⟩ := y
    exact ⟨T, x, z, h1, h2, h3, h4 xs q.1, h5 ys q.2⟩

/-- a def of the top that may be called by its name -/
structure Ca (P : Program) (w : World) (K : PySem.W.Frag) (mg : Str → Option Value) (base : Heap) (k : Nat) (x : Str) (ps : List Str) (sp : Sp) (f : Addr) (fd : FuncData) : Prop where
  ok : FnOk P w K mg base CX0 k f fd ps sp
  m : mg x = some (.ref f)
  kp : PySem.W.keepIn K (.ref f) = true
  b : Binds K fd ps []
/-- such a method -/
structure Me (P : Program) (w : World) (K : PySem.W.Frag) (mg : Str → Option Value) (base : Heap) (k : Nat) (C : Addr) (x : Str) (ps : List Str) (sp : Sp) (f : Addr) (fd : FuncData) : Prop where
  ok : FnOk P w K mg base CX0 k f fd ps sp
  m : Meth K C x f
  b : Binds K fd ps []
section
variable {X : Cx} {k : Nat} {f C : Addr} {fd : FuncData} {ps : List Str} {sp : Sp} {x : Str} {p pos apos : Pos} {e o : PySem.Expr} {es : List PySem.Expr} {t : TA} {ta : TE}
theorem pe_ca (c : Ca X.prog X.w X.K X.mg X.base k x ps sp f fd) (hr : Room k X.A) (ha : PA X (e :: es) t) (hg : Gl X x := by rfl) (hdb : (x == ("__debug__" : Str)) = false := by decide)
    (he : starEach (e :: es) X.env = (false, eval e X.env) :: starEach es X.env := by rfl) (hpl : (backTo pos (starEach es X.env)).any (·.1) = false := by rfl) : PE X (.Call (.Name x p) (e :: es) [] pos) (tCall sp [] E0 t) :=
  pe_call c.ok hr hg c.m c.kp c.b .nil pass0 ha hdb he hpl
theorem pe_me {pl : Sem Bool} (he : PE X o ta) (cl : Cls X.K C) (c : Me X.prog X.w X.K X.mg X.base k C x ps sp f fd) (hr : Room k X.A) (ha : PA X (e :: es) t) (hst : starEach (e :: es) X.env = (false, eval e X.env) :: starEach es X.env := by rfl) (hpl : (backTo pos (starEach es X.env)).any (·.1) = false := by rfl)
    (ht : eval (.Call (.Attribute o x apos) (e :: es) [] pos) X.env = (do
      let ov ← eval o X.env
      standAt apos.atName
      let (f, first) ← holding [ov] (getMethod ov x pl)
      callWith pos f first (backTo pos (starEach (e :: es) X.env)) (backToKw pos (keywordEach [] X.env))) := by rfl) : PE X (.Call (.Attribute o x apos) (e :: es) [] pos) (tMeth C x sp [] E0 ta t) :=
  pe_meth he cl c.m c.ok hr c.b .nil pass0 ha hst hpl ht
theorem pe_me0 {pl : Sem Bool} (he : PE X o ta) (cl : Cls X.K C) (c : Me X.prog X.w X.K X.mg X.base k C x ps sp f fd) (hr : Room k X.A)
    (ht : eval (.Call (.Attribute o x apos) [] [] pos) X.env = (do
      let ov ← eval o X.env
      standAt apos.atName
      let (f, first) ← holding [ov] (getMethod ov x pl)
      callWith pos f first (backTo pos (starEach [] X.env)) (backToKw pos (keywordEach [] X.env))) := by rfl) : PE X (.Call (.Attribute o x apos) [] [] pos) (tMeth C x sp [] E0 ta tNil) :=
  pe_meth0 he cl c.m c.ok hr c.b .nil pass0 ht
end
theorem Ca.up {P : Program} {w : World} {K : PySem.W.Frag} {mg : Str → Option Value} {base : Heap} {k : Nat} {x : Str} {ps : List Str} {sp : Sp} {f : Addr} {fd : FuncData} (c : FnOk P w K mg base CX0 k f fd ps sp) (m : mg x = some (.ref f)) (kp : PySem.W.keepIn K (.ref f) = true) (b : Binds K fd ps []) : Ca P w K mg base k x ps sp f fd := ⟨c, m, kp, b⟩
end Spr
namespace Spr
open PySem L2
/-- the built-in names that the text leaves alone -/
structure Bn (mg : Str → Option Value) : Prop where
  isi : mg "isinstance" = none
  int : mg "int" = none
  bool : mg "bool" = none
  tuple : mg "tuple" = none
  str : mg "str" = none
  list : mg "list" = none
  all : mg "all" = none
  zip : mg "zip" = none
  len : mg "len" = none
  range : mg "range" = none
  sorted : mg "sorted" = none
  enumerate : mg "enumerate" = none
  min : mg "min" = none
  max : mg "max" = none
  sum : mg "sum" = none
  abs : mg "abs" = none
section
variable {P : Program} {w : World} {K : PySem.W.Frag} {mg : Str → Option Value} {base : Heap}

/-! ### terms.py -/
def spIsInt : Sp := fun vs H Q _ => ∃ i : Int, vs = [.int i] ∧ Q (.bl true) H
theorem scIsInt : FnScope ["value"] ["value"] (defScope s_is_integer) := ⟨rfl, rfl, rfl, by decide +kernel, rfl, by decide +kernel, by decide +kernel⟩
theorem ok_is_integer {f : Addr} {fd : FuncData} (F : Fun K "is_integer" "is_integer" s_is_integer f fd) (T : Bn mg) : FnOk P w K mg base CX0 1 f fd ["value"] spIsInt := by
  refine F.ok scIsInt (fun vs H Q E h => ?_) (fun cdv A outer s H vs Q E hr h => ?_)
  · obtain ⟨i, rfl, _⟩ := h
    rfl
  · obtain ⟨i, rfl, k⟩ := h
    refine ⟨_, pss_one (ps_ret (pe_and (pe_callB call_isi (by rfl) T.isi (by decide +kernel) (pa_cons (pv 0) (pa_cons (pe_bltn (v := .ty "int") (by rfl) T.int (by decide +kernel) rfl) pa_nil)))
      (pe_one (pe_not (pe_callB call_isi (by rfl) T.isi (by decide +kernel) (pa_cons (pv 0) (pa_cons (pe_bltn (v := .ty "bool") (by rfl) T.bool (by decide +kernel) rfl) pa_nil))))))), ?_⟩
    refine ⟨_, rfl, .int i, _, _, _, true, rfl, .ty "int", .base (.int i), kit_ty (by decide +kernel), true, rfl, ?_⟩
    refine iteT ⟨_, rfl, .int i, _, _, _, false, rfl, .ty "bool", .base (.int i), kit_ty (by decide +kernel), false, rfl, ?_⟩
    exact k
def spIsFrom : Sp := fun vs H Q _ => ∃ v l h : Int, vs = [.int v, .int l, .int h] ∧ Q (.bl (decide (l ≤ v ∧ v ≤ h))) H
theorem scIsFrom : FnScope ["value", "low", "high"] ["value", "low", "high"] (defScope s_is_from) := ⟨rfl, rfl, rfl, by decide +kernel, rfl, by decide +kernel, by decide +kernel⟩
theorem ok_is_from {f fI : Addr} {fd fdI : FuncData} (F : Fun K "is_from" "is_from" s_is_from f fd) (cI : Ca P w K mg base 1 "is_integer" ["value"] spIsInt fI fdI) : FnOk P w K mg base CX0 2 f fd ["value", "low", "high"] spIsFrom := by
  refine F.ok scIsFrom (fun vs H Q E h => ?_) (fun cdv A outer s H vs Q E hr h => ?_)
  · obtain ⟨v, l, hh, rfl, _⟩ := h
    rfl
  · obtain ⟨v, l, hh, rfl, k⟩ := h
    refine ⟨_, pss_one (ps_ret (pe_and (pe_ca cI hr (pa_cons (pv 0) pa_nil)) (pe_one (pe_chain op_le op_le (pv 1) (pv 0) (pv 2))))), ?_⟩
    refine ⟨_, rfl, v, rfl, true, rfl, iteT ?_⟩
    refine ⟨_, rfl, _, rfl, _, _, rfl, rfl, _, rfl, ?_⟩
    by_cases h1 : l ≤ v
    · have e : decide (l ≤ v ∧ v ≤ hh) = decide (v ≤ hh) := by simp [h1]
      rw [e] at k
      rw [if_pos (decide_eq_true h1)]
      exact ⟨_, rfl, _, _, rfl, rfl, k⟩
    · have e : decide (l ≤ v ∧ v ≤ hh) = false := by simp [h1]
      rw [e] at k
      rw [if_neg (by simp [h1])]
      exact k
def spIsHand : Sp := fun vs H Q _ => ∃ v n : Int, vs = [.int v, .int n] ∧ Q (.bl (decide (0 ≤ v ∧ v < n))) H
theorem scIsHand : FnScope ["value", "n"] ["value", "n"] (defScope s_is_hand) := ⟨rfl, rfl, rfl, by decide +kernel, rfl, by decide +kernel, by decide +kernel⟩
theorem ok_is_hand {f fI : Addr} {fd fdI : FuncData} (F : Fun K "is_hand" "is_hand" s_is_hand f fd) (cI : Ca P w K mg base 2 "is_from" ["value", "low", "high"] spIsFrom fI fdI) : FnOk P w K mg base CX0 3 f fd ["value", "n"] spIsHand := by
  refine F.ok scIsHand (fun vs H Q E h => ?_) (fun cdv A outer s H vs Q E hr h => ?_)
  · obtain ⟨v, n, rfl, _⟩ := h
    rfl
  · obtain ⟨v, n, rfl, k⟩ := h
    refine ⟨_, pss_one (ps_ret (pe_ca cI hr (pa_cons (pv 0) (pa_cons pe_int (pa_cons (pe_op op_sub (pv 1) pe_int) pa_nil))))), ?_⟩
    refine ⟨_, rfl, _, rfl, _, _, rfl, rfl, v, 0, n - 1, rfl, ?_⟩
    have e : decide (0 ≤ v ∧ v ≤ n - 1) = decide (0 ≤ v ∧ v < n) := by
      congr 1
      apply propext
      omega
    rw [e]
    exact k
def spChkHand : Sp := fun vs H Q _ => ∃ v n : Int, vs = [.int v, .int n] ∧ 0 ≤ v ∧ v < n ∧ Q .non H
theorem scChkHand : FnScope ["hand", "n"] ["hand", "n"] (defScope s_check_hand) := ⟨rfl, rfl, rfl, by decide +kernel, rfl, by decide +kernel, by decide +kernel⟩
theorem ok_check_hand {f fI : Addr} {fd fdI : FuncData} (F : Fun K "check_hand" "check_hand" s_check_hand f fd) (cI : Ca P w K mg base 3 "is_hand" ["value", "n"] spIsHand fI fdI) : FnOk P w K mg base CX0 4 f fd ["hand", "n"] spChkHand := by
  refine F.ok scChkHand (fun vs H Q E h => ?_) (fun cdv A outer s H vs Q E hr h => ?_)
  · obtain ⟨v, n, rfl, _⟩ := h
    rfl
  · obtain ⟨v, n, rfl, h0, h1, k⟩ := h
    refine ⟨_, pss_one (ps_if (pt_not (pt_val (pe_ca cI hr (pa_cons (pv 0) (pa_cons (pv 1) pa_nil))))) pss_never pss_nil), ?_⟩
    refine ⟨_, rfl, _, rfl, v, n, rfl, _, rfl, ?_⟩
    rw [decide_eq_true (show 0 ≤ v ∧ v < n from ⟨h0, h1⟩)]
    exact iteF k
def Asc (ls : List Int) : Prop := ls.Pairwise (· < ·)
def spIsHands : Sp := fun vs H Q _ => ∃ (a : Addr) (ls : List Int) (n : Int), vs = [.ref a, .int n] ∧ H a = some (.tup (ls.map V.int)) ∧ (∀ l ∈ ls, 0 ≤ l ∧ l < n) ∧ Asc ls ∧ ls.length ≤ 1000 ∧ ∀ H', Same H H' → Q (.bl true) H'
theorem scIsHands : FnScope ["value", "n", "hand", "one", "other"] ["value", "n"] (defScope s_is_hands) := ⟨rfl, rfl, rfl, by decide +kernel, rfl, by decide +kernel, by decide +kernel⟩
theorem map_at {ls : List Int} {i : Nat} {x : V} (h : (ls.map V.int)[i]? = some x) : ∃ l, ls[i]? = some l ∧ x = V.int l := by
  rw [List.getElem?_map] at h
  cases e : ls[i]? with
  | none => rw [e] at h; cases h
  | some l => rw [e] at h; exact ⟨l, rfl, (Option.some.inj h).symm⟩
theorem bl_all_replicate (n : Nat) : ((List.replicate n true).all id) = true := by
  induction n with
  | zero => rfl
  | succ n ih => rw [List.replicate_succ, List.all_cons, ih]; rfl
theorem ok_is_hands {f fI : Addr} {fd fdI : FuncData} (F : Fun K "is_hands" "is_hands" s_is_hands f fd) (T : Bn mg) (cI : Ca P w K mg base 3 "is_hand" ["value", "n"] spIsHand fI fdI) : FnOk P w K mg base CX0 4 f fd ["value", "n"] spIsHands := by
  refine F.ok scIsHands (fun vs H Q E h => ?_) (fun cdv A outer s H vs Q E hr h => ?_)
  · obtain ⟨a, ls, n, rfl, _⟩ := h
    rfl
  · obtain ⟨a, ls, n, rfl, ha, hb, hasc, hlen, k⟩ := h
    refine ⟨_, pss_cons (ps_if (PW.pt (pw_or (pt_not (pt_val (pe_callB call_isi (by rfl) T.isi (by decide +kernel) (pa_cons (pv 0) (pa_cons (pe_bltn (v := .ty "tuple") (by rfl) T.tuple (by decide +kernel) rfl) pa_nil)))))
        (pw_or1 (pt_not (pt_val (pe_callB (cr_all rfl) (by rfl) T.all (by decide +kernel) (pa_cons (pe_lc (own := [("hand", 2)]) (g := gName 2) (tt := tYes) rfl scIsHands.nd (pi_tup (pv 0)) (blkOk_by (N := ["value", "n", "hand", "one", "other"]) (sc := defScope s_is_hands) (by decide +kernel))
          (fun _ _ _ _ _ => pg_name (i := 2) scIsHands.nd rfl (Or.inl rfl)) (fun _ _ _ _ _ => pts_nil) (fun _ _ _ _ _ => pe_ca cI (by assumption) (pa_cons (pv 2) (pa_cons (pv 1) pa_nil)))) pa_nil)))))))
        (pss_one (ps_ret pe_bl)) pss_nil)
      (pss_one (ps_ret (pe_callB (cr_all rfl) (by rfl) T.all (by decide +kernel) (pa_cons (pe_lc (own := [("one", 3), ("other", 4)]) (g := gTup K 2 (gCons (gName 3) (gCons (gName 4) gNil))) (tt := tYes) rfl scIsHands.nd (RZ.pi_zipA (by rfl) T.zip (pa_cons (pv 0) (pa_cons (pe_slice sl_tupA (pv 0) (po_some pe_int) po_none) pa_nil))) (blkOk_by (N := ["value", "n", "hand", "one", "other"]) (sc := defScope s_is_hands) (by decide +kernel))
          (fun _ _ _ _ _ => pg_tup rfl (pgs_cons (pg_name (i := 3) scIsHands.nd rfl (Or.inl rfl)) (pgs_cons (pg_name (i := 4) scIsHands.nd rfl (Or.inl rfl)) pgs_nil))) (fun _ _ _ _ _ => pts_nil) (fun _ _ _ _ _ => pe_cmpR op_lt (pv 3) (pv 4) (nomark _))) pa_nil)))), ?_⟩
    refine ⟨_, rfl, .ref a, _, _, _, true, rfl, .ty "tuple", .base (.tup ha), kit_ty (by decide +kernel), true, rfl, ?_⟩
    refine iteF ⟨_, rfl, a, rfl, ⟨_, SqT.of ha⟩, fun D hD => ?_⟩
    refine lc_it walk_tup (PvS H D fun i => List.replicate i (.bl true)) (pv0 hD rfl) (fun i H' _ p => sTup p.1 (SqT.of ha)) (fun i x H1 H2 hi p y => ?_) (fun H1 p => ?_)
    · obtain ⟨rfl, hx⟩ := y
      obtain ⟨l, hl, rfl⟩ := map_at hx
      have hil : i < ls.length := by rw [List.length_map] at hi; exact hi
      refine ⟨rfl, _, rfl, _, rfl, l, n, rfl, ?_⟩
      rw [decide_eq_true (hb l (List.mem_of_getElem? hl))]
      exact pvStep hD p.1 p.2 (by rw [List.length_replicate]; exact small1000 (by omega)) List.replicate_succ'
    · refine ⟨D, _, rfl, SqL.of (by rw [p.2, List.map_replicate]), true, by rw [bl_all_replicate], iteF ?_⟩
      have hcut : cutV (ls.map V.int) (some 1) Option.none = (ls.drop 1).map V.int := by
        show ((ls.map V.int).drop (HT.sIx (ls.map V.int).length 0 (some ((1 : Nat) : Int)))).take ((ls.map V.int).length - HT.sIx (ls.map V.int).length 0 (some ((1 : Nat) : Int))) = _
        rw [HT.sIx_nat, List.length_map, ← List.map_drop]
        cases ls with
        | nil => rfl
        | cons z r =>
          have e : min 1 (z :: r).length = 1 := by simp
          rw [e]
          apply List.take_of_length_le
          simp
      refine ⟨_, rfl, _, rfl, 1, rfl, a, _, rfl, sTup p.1 (SqT.of ha), fun hw => ?_, fun hw b hb2 => ?_⟩
      · have hls : ls = [] := by
          cases ls with
          | nil => rfl
          | cons z r =>
            have := hw.1
            rw [show (some (1 : Int)) = some ((1 : Nat) : Int) from rfl, HT.sIx_nat] at this
            simp at this
        subst hls
        refine ⟨a, a, _, _, rfl, .inr ⟨sTup p.1 (SqT.of ha), sTup p.1 (SqT.of ha), fun D2 hD2 => ?_⟩⟩
        refine lc_it (walk_zipT rfl) (PvS H1 D2 fun i => List.replicate i (.bl true)) (pv0 hD2 rfl) (fun i H' _ q => ⟨sTup q.1 (sTup p.1 (SqT.of ha)), sTup q.1 (sTup p.1 (SqT.of ha))⟩) (fun i x H2 H3 hi q y => absurd hi (Nat.not_lt_zero i)) (fun H2 q => ?_)
        refine ⟨D2, _, rfl, SqL.of (by rw [q.2, List.map_replicate]), ?_⟩
        rw [bl_all_replicate]
        exact k H2 (Same.trans p.1 q.1)
      · have s2 : Same H (upd H1 b (.tup (cutV (ls.map V.int) (some 1) Option.none))) := Same.trans p.1 (same_new hb2)
        have hb3 : SqT K (upd H1 b (.tup (cutV (ls.map V.int) (some 1) Option.none))) b ((ls.drop 1).map V.int) := by
          rw [← hcut]
          exact SqT.of upd_same
        refine ⟨a, b, _, _, rfl, .inr ⟨sTup s2 (SqT.of ha), hb3, fun D2 hD2 => ?_⟩⟩
        refine lc_it (walk_zipT rfl) (PvS _ D2 fun i => List.replicate i (.bl true)) (pv0 hD2 rfl) (fun i H' _ q => ⟨sTup q.1 (sTup s2 (SqT.of ha)), sTup q.1 hb3⟩) (fun i x H2 H3 hi q y => ?_) (fun H2 q => ?_)
        · obtain ⟨T', x1, x2, rfl, hT, rfl, e1, e2⟩ := y
          obtain ⟨l1, g1, rfl⟩ := map_at e1
          obtain ⟨l2, g2, rfl⟩ := map_at e2
          have hlt : l1 < l2 := by
            rw [List.getElem?_drop] at g2
            obtain ⟨b1, c1⟩ := List.getElem?_eq_some_iff.mp g1
            obtain ⟨b2, c2⟩ := List.getElem?_eq_some_iff.mp g2
            have := List.pairwise_iff_getElem.mp hasc i (1 + i) b1 b2 (by omega)
            rw [c1, c2] at this
            exact this
          have hil : i < ls.length := (List.getElem?_eq_some_iff.mp g1).1
          refine ⟨T', _, rfl, SqT.of upd_same, rfl, _, _, rfl, _, _, rfl, rfl, rfl, _, rfl, _, rfl, _, _, rfl, rfl, ?_⟩
          dsimp only
          rw [decide_eq_true hlt]
          refine pvStep hD2 (same_upd q.1 ?_) ?_ (by rw [List.length_replicate]; exact small1000 (by omega)) List.replicate_succ'
          · cases e : upd H1 b (.tup (cutV (ls.map V.int) (some 1) Option.none)) T' with
            | none => rfl
            | some o => rw [q.1 _ _ e] at hT; cases hT
          · rw [upd_ne (ne_of_none q.2 hT)]
            exact q.2
        · refine ⟨D2, _, rfl, SqL.of (by rw [q.2, List.map_replicate]), ?_⟩
          rw [bl_all_replicate]
          exact k H2 (Same.trans s2 q.1)
end
end Spr
namespace Spr
open PySem L2
/-- the top's constants -/
structure Cn (mg : Str → Option Value) : Prop where
  c20 : ∃ t, mg "GREATEST_COUNT" = some (.int 20 t)
  c99 : ∃ t, mg "GREATEST_SPREAD" = some (.int 99 t)
  c2 : ∃ t, mg "FEWEST_SPREAD" = some (.int 2 t)
  c12 : ∃ t, mg "MOST_SPREAD" = some (.int 12 t)
  c9 : ∃ t, mg "MOST_USUAL_STOPS" = some (.int 9 t)
section
variable {P : Program} {w : World} {K : PySem.W.Frag} {mg : Str → Option Value} {base : Heap}
def spIsCounts : Sp := fun vs H Q _ => ∃ (a : Addr) (cs : List Int), vs = [.ref a] ∧ H a = some (.tup (cs.map V.int)) ∧ cs.length = 3 ∧ (∀ c ∈ cs, 1 ≤ c ∧ c ≤ 20) ∧ ∀ H', Same H H' → Q (.bl true) H'
theorem scIsCounts : FnScope ["value", "count"] ["value"] (defScope s_is_counts) := ⟨rfl, rfl, rfl, by decide +kernel, rfl, by decide +kernel, by decide +kernel⟩
theorem ok_is_counts {f fI : Addr} {fd fdI : FuncData} (F : Fun K "is_counts" "is_counts" s_is_counts f fd) (T : Bn mg) (N : Cn mg) (cI : Ca P w K mg base 2 "is_from" ["value", "low", "high"] spIsFrom fI fdI) : FnOk P w K mg base CX0 3 f fd ["value"] spIsCounts := by
  refine F.ok scIsCounts (fun vs H Q E h => ?_) (fun cdv A outer s H vs Q E hr h => ?_)
  · obtain ⟨a, cs, rfl, _⟩ := h
    rfl
  · obtain ⟨a, cs, rfl, ha, h3, hb, k⟩ := h
    obtain ⟨t20, m20⟩ := N.c20
    refine ⟨_, pss_cons (ps_if (PW.pt (pw_or (pt_not (pt_val (pe_callB call_isi (by rfl) T.isi (by decide +kernel) (pa_cons (pv 0) (pa_cons (pe_bltn (v := .ty "tuple") (by rfl) T.tuple (by decide +kernel) rfl) pa_nil)))))
        (pw_or1 (pt_cmpR op_ne (pe_callB call_len_seq (by rfl) T.len PySem.boot_len (pa_cons (pv 0) pa_nil)) pe_int (nomark _)))))
        (pss_one (ps_ret pe_bl)) pss_nil)
      (pss_one (ps_ret (pe_callB (cr_all rfl) (by rfl) T.all (by decide +kernel) (pa_cons (pe_lc (own := [("count", 1)]) (g := gName 1) (tt := tYes) rfl scIsCounts.nd (pi_tup (pv 0)) (blkOk_by (N := ["value", "count"]) (sc := defScope s_is_counts) (by decide +kernel))
          (fun _ _ _ _ _ => pg_name (i := 1) scIsCounts.nd rfl (Or.inl rfl)) (fun _ _ _ _ _ => pts_nil) (fun _ _ _ _ _ => pe_ca cI (by assumption) (pa_cons (pv 1) (pa_cons pe_int (pa_cons (pe_glob (v := .int 20) rfl m20 ⟨_, rfl⟩) pa_nil))))) pa_nil)))), ?_⟩
    refine ⟨_, rfl, .ref a, _, _, _, true, rfl, .ty "tuple", .base (.tup ha), kit_ty (by decide +kernel), true, rfl, ?_⟩
    refine iteF ⟨_, rfl, a, _, rfl, .inr (SqT.of ha), rfl, _, rfl, ?_⟩
    rw [List.length_map, h3]
    refine ⟨_, rfl, a, rfl, ⟨_, SqT.of ha⟩, fun D hD => ?_⟩
    refine lc_it walk_tup (PvS H D fun i => List.replicate i (.bl true)) (pv0 hD rfl) (fun i H' _ p => sTup p.1 (SqT.of ha)) (fun i x H1 H2 hi p y => ?_) (fun H1 p => ?_)
    · obtain ⟨rfl, hx⟩ := y
      obtain ⟨l, hl, rfl⟩ := map_at hx
      have hil : i < cs.length := by rw [List.length_map] at hi; exact hi
      refine ⟨rfl, _, rfl, l, 1, 20, rfl, ?_⟩
      rw [decide_eq_true (hb l (List.mem_of_getElem? hl))]
      exact pvStep hD p.1 p.2 (by rw [List.length_replicate]; exact small1000 (by omega)) List.replicate_succ'
    · refine ⟨D, _, rfl, SqL.of (by rw [p.2, List.map_replicate]), ?_⟩
      rw [bl_all_replicate]
      exact k H1 p.1
def spIsSpread : Sp := fun vs H Q _ => ∃ v : Int, vs = [.int v] ∧ Q (.bl (decide (0 ≤ v ∧ v ≤ 99))) H
theorem scIsSpread : FnScope ["value"] ["value"] (defScope s_is_spread) := ⟨rfl, rfl, rfl, by decide +kernel, rfl, by decide +kernel, by decide +kernel⟩
theorem ok_is_spread {f fI : Addr} {fd fdI : FuncData} (F : Fun K "is_spread" "is_spread" s_is_spread f fd) (N : Cn mg) (cI : Ca P w K mg base 2 "is_from" ["value", "low", "high"] spIsFrom fI fdI) : FnOk P w K mg base CX0 3 f fd ["value"] spIsSpread := by
  refine F.ok scIsSpread (fun vs H Q E h => ?_) (fun cdv A outer s H vs Q E hr h => ?_)
  · obtain ⟨v, rfl, _⟩ := h
    rfl
  · obtain ⟨v, rfl, k⟩ := h
    obtain ⟨t99, m99⟩ := N.c99
    refine ⟨_, pss_one (ps_ret (pe_ca cI hr (pa_cons (pv 0) (pa_cons pe_int (pa_cons (pe_glob (v := .int 99) rfl m99 ⟨_, rfl⟩) pa_nil))))), ?_⟩
    exact ⟨_, rfl, v, 0, 99, rfl, k⟩
def spChkNumber : Sp := fun vs H Q _ => ∃ n : Int, vs = [.int n] ∧ 2 ≤ n ∧ n ≤ 12 ∧ Q .non H
theorem scChkNumber : FnScope ["n"] ["n"] (defScope s_check_number) := ⟨rfl, rfl, rfl, by decide +kernel, rfl, by decide +kernel, by decide +kernel⟩
theorem ok_check_number {f fI : Addr} {fd fdI : FuncData} (F : Fun K "check_number" "check_number" s_check_number f fd) (N : Cn mg) (cI : Ca P w K mg base 2 "is_from" ["value", "low", "high"] spIsFrom fI fdI) : FnOk P w K mg base CX0 3 f fd ["n"] spChkNumber := by
  refine F.ok scChkNumber (fun vs H Q E h => ?_) (fun cdv A outer s H vs Q E hr h => ?_)
  · obtain ⟨v, rfl, _⟩ := h
    rfl
  · obtain ⟨v, rfl, h0, h1, k⟩ := h
    obtain ⟨t2, m2⟩ := N.c2
    obtain ⟨t12, m12⟩ := N.c12
    refine ⟨_, pss_one (ps_if (pt_not (pt_val (pe_ca cI hr (pa_cons (pv 0) (pa_cons (pe_glob (v := .int 2) rfl m2 ⟨_, rfl⟩) (pa_cons (pe_glob (v := .int 12) rfl m12 ⟨_, rfl⟩) pa_nil)))))) pss_never pss_nil), ?_⟩
    refine ⟨_, rfl, v, 2, 12, rfl, _, rfl, ?_⟩
    rw [decide_eq_true (show 2 ≤ v ∧ v ≤ 12 from ⟨h0, h1⟩)]
    exact iteF k
/-- the value of an option -/
def ov : Option Int → V
  | none => .non
  | some i => .int i
theorem ov_none (o : Option Int) : decide (ov o = .non) = o.isNone := by
  cases o with
  | none => rfl
  | some i => rfl
def inI (i : Int) (ls : List Int) : Bool := decide (i ∈ ls)
theorem inV_int (i : Int) (ls : List Int) : inV (.int i) (ls.map V.int) = inI i ls := by
  unfold inI inV
  induction ls with
  | nil => rfl
  | cons z r ih =>
    rw [List.map_cons, List.any_cons, ih]
    show ((z == i) || _) = _
    by_cases h : z = i
    · subst h
      simp
    · have h' : ¬ i = z := fun q => h q.symm
      simp [h, h']
theorem flat_ints (ls : List Int) : (ls.map V.int).all flatV = true := by
  rw [List.all_map]
  apply List.all_eq_true.mpr
  intro x _
  rfl
def spChkSpread : Sp := fun vs H Q _ => ∃ (n : Int) (tc tl : Addr) (cs ls : List Int) (first : Int) (v : Option Int), vs = [.int n, .ref tc, .ref tl, .int first, ov v] ∧ 2 ≤ n ∧ n ≤ 12 ∧ H tc = some (.tup (cs.map V.int)) ∧ cs.length = 3 ∧ (∀ c ∈ cs, 1 ≤ c ∧ c ≤ 20) ∧
  H tl = some (.tup (ls.map V.int)) ∧ (∀ l ∈ ls, 0 ≤ l ∧ l < n) ∧ Asc ls ∧ (ls.length : Int) < n ∧ 0 ≤ first ∧ first < n ∧ (first ∈ ls → v = none) ∧ (first ∉ ls → ∃ i, v = some i ∧ 0 ≤ i ∧ i ≤ 99) ∧ ∀ H', Same H H' → Q .non H'
theorem scChkSpread : FnScope ["n", "counts", "liars", "first", "value"] ["n", "counts", "liars", "first", "value"] (defScope s_check_spread) := ⟨rfl, rfl, rfl, by decide +kernel, rfl, by decide +kernel, by decide +kernel⟩
theorem ok_check_spread {f f1 f2 f3 f4 f5 : Addr} {fd d1 d2 d3 d4 d5 : FuncData} (F : Fun K "check_spread" "check_spread" s_check_spread f fd) (T : Bn mg) (c1 : Ca P w K mg base 3 "check_number" ["n"] spChkNumber f1 d1) (c2 : Ca P w K mg base 3 "is_counts" ["value"] spIsCounts f2 d2)
    (c3 : Ca P w K mg base 4 "is_hands" ["value", "n"] spIsHands f3 d3) (c4 : Ca P w K mg base 4 "check_hand" ["hand", "n"] spChkHand f4 d4) (c5 : Ca P w K mg base 3 "is_spread" ["value"] spIsSpread f5 d5) : FnOk P w K mg base CX0 5 f fd ["n", "counts", "liars", "first", "value"] spChkSpread := by
  refine F.ok scChkSpread (fun vs H Q E h => ?_) (fun cdv A outer s H vs Q E hr h => ?_)
  · obtain ⟨n, tc, tl, cs, ls, first, v, rfl, _⟩ := h
    rfl
  · obtain ⟨n, tc, tl, cs, ls, first, v, rfl, hn1, hn2, htc, hc3, hcb, htl, hlb, hasc, hln, hf0, hf1, hv0, hv1, k⟩ := h
    have hr3 := hr.mono (show 3 ≤ 4 by decide)
    refine ⟨_, pss_cons (ps_expr (pe_ca c1 hr3 (pa_cons (pv 0) pa_nil)))
      (pss_cons (ps_if (pt_not (pt_val (pe_ca c2 hr3 (pa_cons (pv 1) pa_nil)))) pss_never pss_nil)
      (pss_cons (ps_if (PW.pt (pw_or (pt_not (pt_val (pe_ca c3 hr (pa_cons (pv 2) (pa_cons (pv 0) pa_nil))))) (pw_or1 (pt_cmpR op_eq (pe_callB call_len_seq (by rfl) T.len PySem.boot_len (pa_cons (pv 2) pa_nil)) (pv 0) (nomark _))))) pss_never pss_nil)
      (pss_cons (ps_expr (pe_ca c4 hr (pa_cons (pv 3) (pa_cons (pv 0) pa_nil))))
      (pss_one (ps_if (PW.pt (pw_or (PW.pt (pw_and (pt_cmpR op_in_seq (pv 3) (pv 2) (by rfl)) (pw_and1 (pt_cmp (pc_notN (pv 4))))))
        (pw_or1 (PW.pt (pw_and (pt_cmpR op_notIn_seq (pv 3) (pv 2) (by rfl)) (pw_and1 (pt_not (pt_val (pe_ca c5 hr3 (pa_cons (pv 4) pa_nil))))))))))
        pss_never pss_nil))))), ?_⟩
    refine ⟨_, rfl, n, rfl, hn1, hn2, ?_⟩
    refine ⟨_, rfl, tc, cs, rfl, htc, hc3, hcb, fun H1 s1 => ⟨true, rfl, iteF ?_⟩⟩
    refine ⟨_, rfl, _, rfl, tl, ls, n, rfl, s1 _ _ htl, hlb, hasc, by omega, fun H2 s2 => ⟨true, rfl, iteF ?_⟩⟩
    have e2 := Same.trans s1 s2
    refine ⟨_, rfl, tl, _, rfl, .inr (SqT.of (e2 _ _ htl)), _, rfl, rfl, _, rfl, ?_⟩
    rw [List.length_map, decide_eq_false (show ¬ V.int (ls.length : Int) = V.int n from fun q => by injection q with q; omega)]
    refine iteF ⟨_, rfl, _, rfl, first, n, rfl, hf0, hf1, ?_⟩
    refine ⟨_, rfl, _, rfl, tl, _, rfl, .inr (SqT.of (e2 _ _ htl)), rfl, flat_ints ls, _, rfl, ?_⟩
    rw [inV_int]
    by_cases hf : first ∈ ls
    · rw [show inI first ls = true from decide_eq_true hf, hv0 hf]
      refine iteT ⟨_, rfl, _, rfl, iteF ?_⟩
      refine ⟨_, rfl, _, rfl, tl, _, rfl, .inr (SqT.of (e2 _ _ htl)), rfl, flat_ints ls, _, rfl, ?_⟩
      rw [inV_int, show inI first ls = true from decide_eq_true hf]
      exact iteF (iteF (k H2 e2))
    · obtain ⟨i, ei, hi0, hi1⟩ := hv1 hf
      rw [show inI first ls = false from decide_eq_false hf, ei]
      refine iteF (iteF ?_)
      refine ⟨_, rfl, _, rfl, tl, _, rfl, .inr (SqT.of (e2 _ _ htl)), rfl, flat_ints ls, _, rfl, ?_⟩
      rw [inV_int, show inI first ls = false from decide_eq_false hf]
      refine iteT ⟨_, rfl, i, rfl, _, rfl, ?_⟩
      rw [decide_eq_true (show 0 ≤ i ∧ i ≤ 99 from ⟨hi0, hi1⟩)]
      exact iteF (k H2 e2)
end
end Spr
namespace Spr
open PySem L2
/-! ### the mirror -/
abbrev Pm := List (Int × Int)
def dk (m : Pm) : List (Key × V) := m.map fun p => (Sum.inl p.1, V.int p.2)
structure ME where
  told : Option Int
  ef : Pm
  pf : Pm
  echoed : Option Int
  promised : Option Int
  took : Option Int
def votes (m : Pm) (v : Int) : Nat := (m.filter fun p => decide (p.2 = v)).length
inductive Kd where | said | echo | prom
  deriving DecidableEq
def ks : Kd → Str
  | .said => "said"
  | .echo => "echo"
  | .prom => "promise"
def hasK (m : Pm) (k : Int) : Bool := m.any fun p => decide (p.1 = k)
/-- setdefault -/
def setd (m : Pm) (k v : Int) : Pm := if hasK m k = true then m else m ++ [(k, v)]
/-- what is due: the three steps -/
def due1 (hand : Int) (E : ME) : ME × List (Kd × Int) := match E.told, E.echoed with
  | some u, none => ({ E with echoed := some u, ef := E.ef ++ [(hand, u)] }, [(.echo, u)])
  | _, _ => (E, [])
def due2 (hand e r v : Int) (E : ME) : ME × List (Kd × Int) :=
  if (e ≤ (votes E.ef v : Int) ∨ r ≤ (votes E.pf v : Int)) ∧ E.promised = none then ({ E with promised := some v, pf := E.pf ++ [(hand, v)] }, [(.prom, v)]) else (E, [])
def due3 (d v : Int) (E : ME) : ME := if d ≤ (votes E.pf v : Int) ∧ E.took = none then { E with took := some v } else E
def doDue (hand e r d v : Int) (E : ME) : ME × List (Kd × Int) :=
  (due3 d v (due2 hand e r v (due1 hand E).1).1, (due1 hand E).2 ++ (due2 hand e r v (due1 hand E).1).2)
def hear0 (first : Int) (k : Kd) (snd v : Int) (E : ME) : ME := match k with
  | .said => if snd = first ∧ E.told = none then { E with told := some v } else E
  | .echo => { E with ef := setd E.ef snd v }
  | .prom => { E with pf := setd E.pf snd v }
def hear (hand first e r d : Int) (k : Kd) (snd v : Int) (E : ME) : ME × List (Kd × Int) := doDue hand e r d v (hear0 first k snd v E)

theorem dk_length (m : Pm) : (dk m).length = m.length := by
  unfold dk
  rw [List.length_map]
theorem valV_dk (m : Pm) (k : Int) : (valV (dk m) (Sum.inl k : Key)).isSome = hasK m k := by
  rw [← valV_any]
  unfold dk hasK
  rw [List.any_map]
  congr 1
  funext p
  show decide ((Sum.inl p.1 : Key) = Sum.inl k) = decide (p.1 = k)
  by_cases h : p.1 = k
  · rw [h]
    simp
  · rw [decide_eq_false h, decide_eq_false fun q => h (Sum.inl.inj q)]
theorem valV_none (m : Pm) (k : Int) (h : hasK m k = false) : valV (dk m) (Sum.inl k : Key) = none := by
  have := valV_dk m k
  rw [h] at this
  cases e : valV (dk m) (Sum.inl k : Key) with
  | none => rfl
  | some v => rw [e] at this; cases this
theorem putK_dk (m : Pm) (k v : Int) (h : hasK m k = false) : putK (dk m) (Sum.inl k : Key) (.int v) = dk (m ++ [(k, v)]) := by
  rw [putK_new _ (valV_none m k h)]
  unfold dk
  rw [List.map_append]
  rfl
theorem votes_le (m : Pm) (v : Int) : votes m v ≤ m.length := List.length_filter_le _ _
end Spr
namespace Spr
open PySem L2
section
variable {P : Program} {w : World} {K : PySem.W.Frag} {mg : Str → Option Value} {base : Heap}
def spVotes : Sp := fun vs H Q _ => ∃ (d : Addr) (m : Pm) (v : Int), vs = [.ref d, .int v] ∧ H d = some (.dK (dk m)) ∧ m.length ≤ 1000 ∧ ∀ H', Same H H' → Q (.int (votes m v)) H'
theorem scVotes : FnScope ["told", "value", "one"] ["told", "value"] (defScope s_votes) := ⟨rfl, rfl, rfl, by decide +kernel, rfl, by decide +kernel, by decide +kernel⟩
theorem filter_take_succ {m : Pm} {i : Nat} {p : Int × Int} (h : m[i]? = some p) (f : Int × Int → Bool) : (m.take (i + 1)).filter f = (m.take i).filter f ++ (if f p = true then [p] else []) := by
  rw [List.take_add_one, h, List.filter_append]
  congr 1
  show [p].filter f = _
  rw [List.filter_cons]
  split <;> rfl
theorem ok_votes {f : Addr} {fd : FuncData} (F : Fun K "votes" "votes" s_votes f fd) (T : Bn mg) : FnOk P w K mg base CX0 1 f fd ["told", "value"] spVotes := by
  refine F.ok scVotes (fun vs H Q E h => ?_) (fun cdv A outer s H vs Q E hr h => ?_)
  · obtain ⟨d, m, v, rfl, _⟩ := h
    rfl
  · obtain ⟨d, m, v, rfl, hd, hm, k⟩ := h
    refine ⟨_, pss_one (ps_ret (pe_callB call_len_seq (by rfl) T.len PySem.boot_len (pa_cons (pe_lock (pe_lc (own := [("one", 2)]) (g := gName 2) rfl scVotes.nd (pi_values (pv 0)) (blkOk_by (N := ["told", "value", "one"]) (sc := defScope s_votes) (by decide +kernel))
          (fun _ _ _ _ _ => pg_name (i := 2) scVotes.nd rfl (Or.inl rfl)) (fun _ _ _ _ _ => pts_one (pt_cmpR op_eq (pv 2) (pv 1) (nomark _))) (fun _ _ _ _ _ => pv 2))) pa_nil))), ?_⟩
    refine ⟨d, _, hd, True.intro, fun od => ?_⟩
    refine ⟨_, rfl, d, od, _, rfl, upd_same, fun D hD => ?_⟩
    have hDd : D ≠ d := fun q => by rw [q, upd_same] at hD; cases hD
    refine lc_it walk_values (PvS _ D fun i => ((m.take i).filter fun p => decide (p.2 = v)).map fun p => V.int p.2) (pv0 hD rfl) (fun i H' _ p => p.1 _ _ upd_same) (fun i x H1 H2 hi p y => ?_) (fun H1 p => ?_)
    · obtain ⟨rfl, kk, hx⟩ := y
      have : ∃ q, m[i]? = some q ∧ x = V.int q.2 := by
        unfold dk at hx
        rw [List.getElem?_map] at hx
        cases e : m[i]? with
        | none => rw [e] at hx; cases hx
        | some q => rw [e] at hx; exact ⟨q, rfl, by injection hx with hx; injection hx with _ hx; exact hx.symm⟩
      obtain ⟨q, hq, rfl⟩ := this
      refine ⟨rfl, _, rfl, _, rfl, rfl, _, rfl, ?_⟩
      dsimp only
      by_cases hqv : q.2 = v
      · rw [decide_eq_true (show V.int q.2 = V.int v by rw [hqv])]
        refine iteT ⟨_, rfl, ?_⟩
        refine pvStep hD p.1 p.2 ?_ ?_
        · rw [List.length_map]
          exact small1000 (Nat.le_trans (List.length_filter_le _ _) (Nat.le_trans (List.length_take_le _ _) (by rw [dk_length] at hi; omega)))
        · show ((m.take (i + 1)).filter fun p => decide (p.2 = v)).map (fun p => V.int p.2) = _
          rw [filter_take_succ hq, if_pos (decide_eq_true hqv), List.map_append]
          rfl
      · rw [decide_eq_false (show ¬ V.int q.2 = V.int v from fun z => hqv (by injection z))]
        refine iteF ?_
        refine pvSkip p.1 p.2 ?_
        show ((m.take (i + 1)).filter fun p => decide (p.2 = v)).map (fun p => V.int p.2) = _
        rw [filter_take_succ hq, if_neg (by simp [hqv]), List.append_nil]
    · refine ⟨p.1 _ _ upd_same, D, _, rfl, .inl (SqL.of (by rw [upd_ne hDd]; exact p.2)), ?_⟩
      rw [List.length_map, dk_length, List.take_of_length_le (Nat.le_refl _)]
      refine k _ fun b o e => ?_
      by_cases hb : b = d
      · rw [hb, upd_same]
        rw [hb, hd] at e
        exact e
      · rw [upd_ne hb]
        exact p.1 _ _ (by rw [upd_ne hb]; exact e)
end
end Spr
namespace Spr
open PySem L2
section
variable {P : Program} {w : World} {K : PySem.W.Frag} {mg : Str → Option Value} {base : Heap}
def earF (hand : Int) (tc : Addr) (first : Int) (d1 d2 : Addr) (E : ME) : List (Str × V) := [("hand", .int hand), ("counts", .ref tc), ("first", .int first), ("told", ov E.told), ("echo_from", .ref d1), ("promise_from", .ref d2), ("echoed", ov E.echoed), ("promised", ov E.promised), ("took", ov E.took)]
structure EarAt (CE : Addr) (H : Hp) (a dx d1 d2 : Addr) (hand : Int) (tc : Addr) (first : Int) (E : ME) : Prop where
  ob : H a = some (.ins CE dx (earF hand tc first d1 d2 E))
  h1 : H d1 = some (.dK (dk E.ef))
  h2 : H d2 = some (.dK (dk E.pf))
  ne : d1 ≠ d2
/-- what the text says of the class Ear -/
structure TxE (K : PySem.W.Frag) (CE : Addr) : Prop where
  cl : Cls K CE
  hand : NoAttr K CE "hand"
  counts : NoAttr K CE "counts"
  first : NoAttr K CE "first"
  told : NoAttr K CE "told"
  ef : NoAttr K CE "echo_from"
  pf : NoAttr K CE "promise_from"
  echoed : NoAttr K CE "echoed"
  promised : NoAttr K CE "promised"
  took : NoAttr K CE "took"
def Sends (H : Hp) : List Addr → List (Kd × Int) → Prop
  | [], [] => True
  | a :: as, x :: xs => H a = some (.tup [.str (ks x.1), .int x.2]) ∧ Sends H as xs
  | _, _ => False
theorem Sends.mono {H H' : Hp} (h : ∀ b xs, H b = some (.tup xs) → H' b = some (.tup xs)) : ∀ {as : List Addr} {xs : List (Kd × Int)}, Sends H as xs → Sends H' as xs
  | [], [], _ => True.intro
  | _ :: _, _ :: _, q => ⟨h _ _ q.1, Sends.mono h q.2⟩
  | [], _ :: _, q => q.elim
  | _ :: _, [], q => q.elim
theorem Sends.snoc {H : Hp} {a : Addr} {x : Kd × Int} (h : H a = some (.tup [.str (ks x.1), .int x.2])) : ∀ {as : List Addr} {xs : List (Kd × Int)}, Sends H as xs → Sends H (as ++ [a]) (xs ++ [x])
  | [], [], _ => ⟨h, True.intro⟩
  | _ :: _, _ :: _, q => ⟨q.1, Sends.snoc h q.2⟩
  | [], _ :: _, q => q.elim
  | _ :: _, [], q => q.elim
theorem Sends.len {H : Hp} : ∀ {as : List Addr} {xs : List (Kd × Int)}, Sends H as xs → as.length = xs.length
  | [], [], _ => rfl
  | _ :: _, _ :: _, q => by rw [List.length_cons, List.length_cons, Sends.len q.2]
  | [], _ :: _, q => q.elim
  | _ :: _, [], q => q.elim
theorem Sends.at {H : Hp} : ∀ {as : List Addr} {xs : List (Kd × Int)} {i : Nat} {a : Addr}, Sends H as xs → as[i]? = some a → ∃ x, xs[i]? = some x ∧ H a = some (.tup [.str (ks x.1), .int x.2])
  | [], [], i, a, _, e => by simp at e
  | b :: _, x :: _, 0, a, q, e => ⟨x, rfl, by rw [← Option.some.inj e]; exact q.1⟩
  | b :: _, x :: _, i + 1, a, q, e => Sends.at (i := i) q.2 e
  | [], _ :: _, _, _, q, _ => q.elim
  | _ :: _, [], _, _, q, _ => q.elim
/-- all but an ear's own three objects is kept -/
def KeepE (H H' : Hp) (a d1 d2 : Addr) : Prop := ∀ b o, H b = some o → b ≠ a → b ≠ d1 → b ≠ d2 → H' b = some o
structure WfE (hand : Int) (E : ME) (n : Nat) : Prop where
  l1 : E.ef.length ≤ n
  l2 : E.pf.length ≤ n
  n1 : E.echoed = none → hasK E.ef hand = false
  n2 : E.promised = none → hasK E.pf hand = false
structure DD (CE : Addr) (H0 : Hp) (a dx d1 d2 : Addr) (hand : Int) (tc : Addr) (first : Int) (E' : ME) (xs : List (Kd × Int)) (l : Addr) (H' : Hp) : Prop where
  keep : KeepE H0 H' a d1 d2
  l0 : H0 l = none
  ear : EarAt CE H' a dx d1 d2 hand tc first E'
  lst : ∃ as : List Addr, H' l = some (.lst (as.map V.ref)) ∧ Sends H' as xs
def spDue (CE : Addr) : Sp := fun vs H Q _ => ∃ (a dx d1 d2 tc : Addr) (hand first e r d v : Int) (E : ME), vs = [.ref a, .int v] ∧ EarAt CE H a dx d1 d2 hand tc first E ∧ H tc = some (.tup [.int e, .int r, .int d]) ∧ WfE hand E 500 ∧
  ∀ (l : Addr) (H' : Hp), DD CE H a dx d1 d2 hand tc first (doDue hand e r d v E).1 (doDue hand e r d v E).2 l H' → Q (.ref l) H'
abbrev nDue : List Str := ["self", "value", "e", "r", "d", "sends", "enough"]
theorem scDue : FnScope nDue ["self", "value"] (defScope s_Ear_do_due) := ⟨rfl, rfl, rfl, by decide +kernel, rfl, by decide +kernel, by decide +kernel⟩
/-- a step that changes the ear alone -/
theorem KeepE.trans {H H1 H2 : Hp} {a d1 d2 : Addr} (p : KeepE H H1 a d1 d2) (q : KeepE H1 H2 a d1 d2) : KeepE H H2 a d1 d2 := fun b o e x y z => q b o (p b o e x y z) x y z
theorem keepE_upd {H H' : Hp} {a d1 d2 c : Addr} {o : HO} (p : KeepE H H' a d1 d2) (h : c = a ∨ c = d1 ∨ c = d2 ∨ H c = none) : KeepE H (upd H' c o) a d1 d2 := fun b u e x y z => by
  have : b ≠ c := by
    rcases h with h | h | h | h
    · rw [h]; exact x
    · rw [h]; exact y
    · rw [h]; exact z
    · exact ne_of_none e h
  rw [upd_ne this]
  exact p b u e x y z
theorem EarAt.of {CE : Addr} {H H' : Hp} {a dx d1 d2 : Addr} {hand : Int} {tc : Addr} {first : Int} {E : ME} (x : EarAt CE H a dx d1 d2 hand tc first E) (ha : H' a = H a) (h1 : H' d1 = H d1) (h2 : H' d2 = H d2) : EarAt CE H' a dx d1 d2 hand tc first E :=
  ⟨ha.trans x.ob, h1.trans x.h1, h2.trans x.h2, x.ne⟩
theorem KeepE.free {CE : Addr} {H H' : Hp} {a dx d1 d2 t : Addr} {hand : Int} {tc : Addr} {first : Int} {E : ME} (p : KeepE H H' a d1 d2) (x : EarAt CE H' a dx d1 d2 hand tc first E) (h : H' t = none) : H t = none := by
  cases e : H t with
  | none => rfl
  | some o =>
    have n1 : t ≠ a := fun q => by rw [q, x.ob] at h; cases h
    have n2 : t ≠ d1 := fun q => by rw [q, x.h1] at h; cases h
    have n3 : t ≠ d2 := fun q => by rw [q, x.h2] at h; cases h
    rw [p t o e n1 n2 n3] at h
    cases h
theorem EarAt.ad1 {CE : Addr} {H : Hp} {a dx d1 d2 : Addr} {hand : Int} {tc : Addr} {first : Int} {E : ME} (x : EarAt CE H a dx d1 d2 hand tc first E) : a ≠ d1 := ne_of x.ob x.h1 (by intro q; cases q)
theorem EarAt.ad2 {CE : Addr} {H : Hp} {a dx d1 d2 : Addr} {hand : Int} {tc : Addr} {first : Int} {E : ME} (x : EarAt CE H a dx d1 d2 hand tc first E) : a ≠ d2 := ne_of x.ob x.h2 (by intro q; cases q)
theorem tup_keep {H H' : Hp} {a d1 d2 : Addr} {CE dx : Addr} {hand : Int} {tc : Addr} {first : Int} {E : ME} (p : KeepE H H' a d1 d2) (x : EarAt CE H a dx d1 d2 hand tc first E) : ∀ b xs, H b = some (.tup xs) → H' b = some (.tup xs) := fun b xs h =>
  p b _ h (ne_of h x.ob (by intro q; cases q)) (ne_of h x.h1 (by intro q; cases q)) (ne_of h x.h2 (by intro q; cases q))
theorem EarAt.same {CE : Addr} {H H' : Hp} {a dx d1 d2 : Addr} {hand : Int} {tc : Addr} {first : Int} {E : ME} (x : EarAt CE H a dx d1 d2 hand tc first E) (s : Same H H') : EarAt CE H' a dx d1 d2 hand tc first E := ⟨s _ _ x.ob, s _ _ x.h1, s _ _ x.h2, x.ne⟩
theorem DD.same {CE : Addr} {H0 H H' : Hp} {a dx d1 d2 : Addr} {hand : Int} {tc : Addr} {first : Int} {E : ME} {xs : List (Kd × Int)} {l : Addr} (x : DD CE H0 a dx d1 d2 hand tc first E xs l H) (s : Same H H') : DD CE H0 a dx d1 d2 hand tc first E xs l H' :=
  ⟨fun b o e p q r => s _ _ (x.keep b o e p q r), x.l0, x.ear.same s, let ⟨as, h1, h2⟩ := x.lst; ⟨as, s _ _ h1, h2.mono fun b xs e => s _ _ e⟩⟩
theorem due1_wf {hand : Int} {E : ME} (wf : WfE hand E 500) : WfE hand (due1 hand E).1 501 ∨ ((due1 hand E).1.ef.length ≤ 501 ∧ (due1 hand E).1.pf.length ≤ 501 ∧ ((due1 hand E).1.promised = none → hasK (due1 hand E).1.pf hand = false)) := by
  unfold due1
  obtain ⟨told, ef, pf, ec, pr, tk⟩ := E
  obtain ⟨w1, w2, w3, w4⟩ := wf
  refine .inr ?_
  cases told with
  | none => exact ⟨Nat.le_succ_of_le w1, Nat.le_succ_of_le w2, w4⟩
  | some u =>
    cases ec with
    | some z => exact ⟨Nat.le_succ_of_le w1, Nat.le_succ_of_le w2, w4⟩
    | none => exact ⟨by rw [List.length_append]; exact Nat.succ_le_succ w1, Nat.le_succ_of_le w2, w4⟩
theorem due1_x {hand : Int} {E : ME} : (due1 hand E).2.length ≤ 1 := by
  unfold due1
  obtain ⟨told, ef, pf, ec, pr, tk⟩ := E
  cases told with
  | none => exact Nat.zero_le _
  | some u =>
    cases ec with
    | some z => exact Nat.zero_le _
    | none => exact Nat.le_refl _
theorem due1_p {hand : Int} {E : ME} (wf : WfE hand E 500) : (due1 hand E).1.ef.length ≤ 501 ∧ (due1 hand E).1.pf.length ≤ 501 ∧ ((due1 hand E).1.promised = none → hasK (due1 hand E).1.pf hand = false) := (due1_wf wf).elim (fun q => ⟨q.l1, q.l2, q.n2⟩) id
theorem ok_due {f fV CE : Addr} {fd fdV : FuncData} (F : Fun K "do_due" "Ear.do_due" s_Ear_do_due f fd) (T : Bn mg) (TE : TxE K CE) (cV : Ca P w K mg base 1 "votes" ["told", "value"] spVotes fV fdV) : FnOk P w K mg base CX0 2 f fd ["self", "value"] (spDue CE) := by
  refine F.ok scDue (fun vs H Q E h => ?_) (fun cdv A outer s H vs Q E hr h => ?_)
  · obtain ⟨a, dx, d1, d2, tc, hand, first, e, r, d, v, E, rfl, _⟩ := h
    rfl
  · obtain ⟨a, dx, d1, d2, tc, hand, first, e, r, d, v, E, rfl, hE, htc, wf, k⟩ := h
    have hu := hu_of hr
    refine ⟨_, pss_cons (ps_asg (pe_fld (pv 0) rfl) (pg_tup (by rfl) (pgs_cons (pg_name (i := 2) scDue.nd rfl (Or.inl rfl)) (pgs_cons (pg_name (i := 3) scDue.nd rfl (Or.inl rfl)) (pgs_cons (pg_name (i := 4) scDue.nd rfl (Or.inl rfl)) pgs_nil)))))
      (pss_cons (ps_set (i := 5) scDue.nd rfl (Or.inl rfl) (pe_lst pa_nil))
      (C8.pss_cut (ps_if (PW.pt (pw_and (pt_cmp (pc_notN (pe_fld (pv 0) rfl))) (pw_and1 (pt_cmp (pc_isN (pe_fld (pv 0) rfl))))))
          (pss_cons (ps_fld (pv 0) (pe_fld (pv 0) rfl) rfl)
          (pss_cons (ps_dput hu (pe_fld (pv 0) rfl) (pe_fld (pv 0) rfl) (pe_fld (pv 0) rfl) rfl)
          (pss_one (ps_expr (pe_bm PySem.F.plainAttrs_list PySem.F.slot_list_append PySem.F.type_list_append mt_append (pv 5) (pa_cons (pe_tup (pa_cons pe_str (pa_cons (pe_fld (pv 0) rfl) pa_nil))) pa_nil)))))) pss_nil)
      (C8.pss_cut (ps_set (i := 6) scDue.nd rfl (Or.inl rfl) (pe_or (pe_cmpR op_ge (pe_ca cV hr (pa_cons (pe_fld (pv 0) rfl) (pa_cons (pv 1) pa_nil))) (pv 2) (nomark _)) (pe_one (pe_cmpR op_ge (pe_ca cV hr (pa_cons (pe_fld (pv 0) rfl) (pa_cons (pv 1) pa_nil))) (pv 3) (nomark _)))))
      (C8.pss_cut (ps_if (PW.pt (pw_and (pt_val (pv 6)) (pw_and1 (pt_cmp (pc_isN (pe_fld (pv 0) rfl))))))
          (pss_cons (ps_fld (pv 0) (pv 1) rfl)
          (pss_cons (ps_dput hu (pe_fld (pv 0) rfl) (pe_fld (pv 0) rfl) (pv 1) rfl)
          (pss_one (ps_expr (pe_bm PySem.F.plainAttrs_list PySem.F.slot_list_append PySem.F.type_list_append mt_append (pv 5) (pa_cons (pe_tup (pa_cons pe_str (pa_cons (pv 1) pa_nil))) pa_nil)))))) pss_nil)
      (pss_cons (ps_if (PW.pt (pw_and (pt_cmpR op_ge (pe_ca cV hr (pa_cons (pe_fld (pv 0) rfl) (pa_cons (pv 1) pa_nil))) (pv 4) (nomark _)) (pw_and1 (pt_cmp (pc_isN (pe_fld (pv 0) rfl))))))
          (pss_one (ps_fld (pv 0) (pv 1) rfl)) pss_nil)
      (pss_one (ps_ret (pv 5)))))))), ?_⟩
    -- e, r, d = self.counts; sends = []
    refine ⟨_, rfl, a, CE, dx, _, _, rfl, hE.ob, TE.cl, TE.counts, rfl, tc, _, rfl, SqT.of htc, rfl, _, _, rfl, _, _, rfl, _, _, rfl, rfl, ?_⟩
    refine ⟨Nat.zero_le _, fun l hl => ?_⟩
    have la : l ≠ a := fun q => by rw [q, hE.ob] at hl; cases hl
    have l1 : l ≠ d1 := fun q => by rw [q, hE.h1] at hl; cases hl
    have l2 : l ≠ d2 := fun q => by rw [q, hE.h2] at hl; cases hl
    have ad1 := hE.ad1
    have ad2 := hE.ad2
    have hE1 : EarAt CE (upd H l (.lst [])) a dx d1 d2 hand tc first E := hE.of (upd_ne la.symm) (upd_ne l1.symm) (upd_ne l2.symm)
    have kp1 : KeepE H (upd H l (.lst [])) a d1 d2 := keepE_upd (fun b o e _ _ _ => e) (.inr (.inr (.inr hl)))
    -- the first due
    refine ⟨fun σ' H' => σ' = [some (.ref a), some (.int v), some (.int e), some (.int r), some (.int d), some (.ref l), none] ∧ DD CE H a dx d1 d2 hand tc first (due1 hand E).1 (due1 hand E).2 l H', ?_, ?_⟩
    · refine ⟨_, rfl, a, CE, dx, _, _, rfl, hE1.ob, TE.cl, TE.told, rfl, _, rfl, ?_⟩
      have none_case : (due1 hand E) = (E, []) → DD CE H a dx d1 d2 hand tc first (due1 hand E).1 (due1 hand E).2 l (upd H l (.lst [])) := fun q => by
        rw [q]
        exact ⟨kp1, hl, hE1, [], upd_same, True.intro⟩
      rw [ov_none]
      cases ht : E.told with
      | none =>
        refine iteF (iteF ⟨rfl, none_case ?_⟩)
        unfold due1
        rw [ht]
      | some u =>
        refine iteT ⟨_, rfl, a, CE, dx, _, _, rfl, hE1.ob, TE.cl, TE.echoed, rfl, _, rfl, ?_⟩
        rw [ov_none]
        cases hec : E.echoed with
        | some z =>
          refine iteF ⟨rfl, none_case ?_⟩
          unfold due1
          rw [ht, hec]
        | none =>
          refine iteT ?_
          have hk : hasK E.ef hand = false := wf.n1 hec
          obtain ⟨told, ef, pf, ec, pr, tk⟩ := E
          have ht : told = some u := ht
          have hec : ec = none := hec
          subst ht hec
          refine ⟨_, rfl, a, CE, dx, _, _, rfl, hE1.ob, TE.cl, TE.told, rfl, _, rfl, a, CE, dx, _, rfl, hE1.ob, TE.cl, TE.echoed, (by show 9 < 1000; decide), ?_⟩
          refine ⟨_, rfl, a, CE, dx, _, _, rfl, upd_same, TE.cl, TE.told, rfl, _, rfl, a, CE, dx, _, _, rfl, upd_same, TE.cl, TE.ef, rfl, _, rfl, a, CE, dx, _, _, rfl, upd_same, TE.cl, TE.hand, rfl, d1, _, rfl, DPut.k (k := Sum.inl hand) ((upd_ne ad1.symm).trans hE1.h1) (by rw [dk_length]; exact small1000 (by have := wf.l1; omega)), ?_⟩
          refine ⟨_, rfl, .inl ⟨rfl, _, SqL.of ((upd_ne l1).trans ((upd_ne la).trans upd_same))⟩, _, rfl, a, CE, dx, _, _, rfl, (upd_ne ad1).trans upd_same, TE.cl, TE.told, rfl, (by show 2 ≤ sizeLine; decide), fun t ht' => ?_⟩
          have hE' : EarAt CE (upd (upd (upd H l (.lst [])) a (.ins CE dx (earF hand tc first d1 d2 ⟨some u, ef, pf, some u, pr, tk⟩))) d1 (.dK (putK (dk ef) (Sum.inl hand : Key) (.int u)))) a dx d1 d2 hand tc first ⟨some u, ef ++ [(hand, u)], pf, some u, pr, tk⟩ :=
            ⟨(upd_ne ad1).trans upd_same, by rw [upd_same, putK_dk _ _ _ hk], (upd_ne hE.ne.symm).trans ((upd_ne ad2.symm).trans hE1.h2), hE.ne⟩
          have kp3 := keepE_upd (o := .dK (putK (dk ef) (Sum.inl hand : Key) (.int u))) (c := d1) (keepE_upd (o := .ins CE dx (earF hand tc first d1 d2 ⟨some u, ef, pf, some u, pr, tk⟩)) (c := a) kp1 (.inl rfl)) (.inr (.inl rfl))
          have hst : H t = none := kp3.free hE' ht'
          have ta : t ≠ a := fun q => by rw [q, hE.ob] at hst; cases hst
          have t1 : t ≠ d1 := fun q => by rw [q, hE.h1] at hst; cases hst
          have t2 : t ≠ d2 := fun q => by rw [q, hE.h2] at hst; cases hst
          have tl : t ≠ l := fun q => by
            rw [q, upd_ne l1, upd_ne la, upd_same] at ht'
            cases ht'
          refine ⟨l, _, _, rfl, rfl, (upd_ne tl.symm).trans ((upd_ne l1).trans ((upd_ne la).trans upd_same)), (by decide), rfl, ?_⟩
          refine ⟨keepE_upd (keepE_upd kp3 (.inr (.inr (.inr hst)))) (.inr (.inr (.inr hl))), hl, hE'.of ?_ ?_ ?_, [t], upd_same, ?_, True.intro⟩
          · exact (upd_ne la.symm).trans (upd_ne ta.symm)
          · exact (upd_ne l1.symm).trans (upd_ne t1.symm)
          · exact (upd_ne l2.symm).trans (upd_ne t2.symm)
          · rw [upd_ne tl, upd_same]
            rfl
    · rintro σ' H' ⟨rfl, d1d⟩
      have hp := due1_p wf
      have hx := due1_x (hand := hand) (E := E)
      have hdd : doDue hand e r d v E = (due3 d v (due2 hand e r v (due1 hand E).1).1, (due1 hand E).2 ++ (due2 hand e r v (due1 hand E).1).2) := rfl
      rw [hdd] at k
      generalize (due1 hand E).1 = E1 at k d1d hp
      generalize (due1 hand E).2 = x1 at k d1d hx
      -- enough
      refine ⟨fun σ2 H2 => σ2 = [some (.ref a), some (.int v), some (.int e), some (.int r), some (.int d), some (.ref l), some (.bl (decide (e ≤ (votes E1.ef v : Int) ∨ r ≤ (votes E1.pf v : Int))))] ∧ DD CE H a dx d1 d2 hand tc first E1 x1 l H2, ?_, ?_⟩
      · refine ⟨_, rfl, a, CE, dx, _, _, rfl, d1d.ear.ob, TE.cl, TE.ef, rfl, _, rfl, d1, E1.ef, v, rfl, d1d.ear.h1, by omega, fun H2 s2 => ⟨_, rfl, _, _, rfl, rfl, _, rfl, ?_⟩⟩
        have D2 := d1d.same s2
        by_cases c1 : e ≤ (votes E1.ef v : Int)
        · rw [decide_eq_true c1]
          exact iteT ⟨by rw [decide_eq_true (.inl c1)]; rfl, D2⟩
        · rw [decide_eq_false c1]
          refine iteF ⟨_, rfl, a, CE, dx, _, _, rfl, D2.ear.ob, TE.cl, TE.pf, rfl, _, rfl, d2, E1.pf, v, rfl, D2.ear.h2, by omega, fun H3 s3 => ⟨_, rfl, _, _, rfl, rfl, ?_, D2.same s3⟩⟩
          have : decide (e ≤ (votes E1.ef v : Int) ∨ r ≤ (votes E1.pf v : Int)) = decide (r ≤ (votes E1.pf v : Int)) := by simp [c1]
          rw [this]
          rfl
      · rintro σ2 H2 ⟨rfl, d2d⟩
        refine ⟨fun σ3 H3 => (∃ q, σ3 = [some (.ref a), some (.int v), some (.int e), some (.int r), some (.int d), some (.ref l), q]) ∧ DD CE H a dx d1 d2 hand tc first (due2 hand e r v E1).1 (x1 ++ (due2 hand e r v E1).2) l H3, ?_, ?_⟩
        · have none2 : due2 hand e r v E1 = (E1, []) → DD CE H a dx d1 d2 hand tc first (due2 hand e r v E1).1 (x1 ++ (due2 hand e r v E1).2) l H2 := fun q => by
            rw [q, List.append_nil]
            exact d2d
          refine ⟨_, rfl, _, rfl, ?_⟩
          by_cases c : e ≤ (votes E1.ef v : Int) ∨ r ≤ (votes E1.pf v : Int)
          · rw [decide_eq_true c]
            refine iteT ⟨_, rfl, a, CE, dx, _, _, rfl, d2d.ear.ob, TE.cl, TE.promised, rfl, _, rfl, ?_⟩
            rw [ov_none]
            cases hpr : E1.promised with
            | some z =>
              refine iteF ⟨⟨_, rfl⟩, none2 ?_⟩
              unfold due2
              rw [if_neg fun q => by rw [hpr] at q; cases q.2]
            | none =>
              refine iteT ?_
              have hk : hasK E1.pf hand = false := hp.2.2 hpr
              have e2 : due2 hand e r v E1 = ({ E1 with promised := some v, pf := E1.pf ++ [(hand, v)] }, [(.prom, v)]) := by
                unfold due2
                rw [if_pos ⟨c, hpr⟩]
              rw [e2]
              obtain ⟨told, ef, pf, ec, pr, tk⟩ := E1
              have hpr : pr = none := hpr
              subst hpr
              obtain ⟨kp2, _, hE2, as, hl2, hs2⟩ := d2d
              have lnd : l ≠ d2 := ne_of hl2 hE2.h2 (by intro q; cases q)
              have lna : l ≠ a := ne_of hl2 hE2.ob (by intro q; cases q)
              have lnd1 : l ≠ d1 := ne_of hl2 hE2.h1 (by intro q; cases q)
              refine ⟨_, rfl, _, rfl, a, CE, dx, _, rfl, hE2.ob, TE.cl, TE.promised, (by show 9 < 1000; decide), ?_⟩
              refine ⟨_, rfl, _, rfl, a, CE, dx, _, _, rfl, upd_same, TE.cl, TE.pf, rfl, _, rfl, a, CE, dx, _, _, rfl, upd_same, TE.cl, TE.hand, rfl, d2, _, rfl, DPut.k (k := Sum.inl hand) ((upd_ne ad2.symm).trans hE2.h2) (by rw [dk_length]; exact small1000 (by have := hp.2.1; omega)), ?_⟩
              refine ⟨_, rfl, .inl ⟨rfl, _, SqL.of ((upd_ne lnd).trans ((upd_ne lna).trans hl2))⟩, _, rfl, (by show 2 ≤ sizeLine; decide), fun t ht' => ?_⟩
              have hE' : EarAt CE (upd (upd H2 a (.ins CE dx (earF hand tc first d1 d2 ⟨told, ef, pf, ec, some v, tk⟩))) d2 (.dK (putK (dk pf) (Sum.inl hand : Key) (.int v)))) a dx d1 d2 hand tc first ⟨told, ef, pf ++ [(hand, v)], ec, some v, tk⟩ :=
                ⟨(upd_ne ad2).trans upd_same, (upd_ne hE2.ne).trans ((upd_ne ad1.symm).trans hE2.h1), by rw [upd_same, putK_dk _ _ _ hk], hE2.ne⟩
              have kp3 := keepE_upd (o := .dK (putK (dk pf) (Sum.inl hand : Key) (.int v))) (c := d2) (keepE_upd (o := .ins CE dx (earF hand tc first d1 d2 ⟨told, ef, pf, ec, some v, tk⟩)) (c := a) kp2 (.inl rfl)) (.inr (.inr (.inl rfl)))
              have hst : H t = none := kp3.free hE' ht'
              have ta : t ≠ a := fun q => by rw [q, hE.ob] at hst; cases hst
              have t1 : t ≠ d1 := fun q => by rw [q, hE.h1] at hst; cases hst
              have t2 : t ≠ d2 := fun q => by rw [q, hE.h2] at hst; cases hst
              have tl : t ≠ l := fun q => by
                rw [q, upd_ne lnd, upd_ne lna, hl2] at ht'
                cases ht'
              have aslen : as.length < sizeLine := by
                rw [hs2.len]
                exact small1000 (by omega)
              refine ⟨l, _, _, rfl, rfl, (upd_ne tl.symm).trans ((upd_ne lnd).trans ((upd_ne lna).trans hl2)), (by rw [List.length_map]; exact aslen), ⟨_, rfl⟩, ?_⟩
              refine ⟨keepE_upd (keepE_upd kp3 (.inr (.inr (.inr hst)))) (.inr (.inr (.inr hl))), hl, hE'.of ?_ ?_ ?_, as ++ [t], (by rw [upd_same, List.map_append]; rfl), Sends.snoc ?_ (hs2.mono fun b xs h => ?_)⟩
              · exact (upd_ne lna.symm).trans (upd_ne ta.symm)
              · exact (upd_ne lnd1.symm).trans (upd_ne t1.symm)
              · exact (upd_ne lnd.symm).trans (upd_ne t2.symm)
              · rw [upd_ne tl, upd_same]
                rfl
              · have b1 : b ≠ l := ne_of h hl2 (by intro q; cases q)
                have b2 : b ≠ a := ne_of h hE2.ob (by intro q; cases q)
                have b3 : b ≠ d2 := ne_of h hE2.h2 (by intro q; cases q)
                have b4 : b ≠ t := fun q => by
                  rw [q] at h
                  rw [upd_ne t2, upd_ne ta, h] at ht'
                  cases ht'
                rw [upd_ne b1, upd_ne b4, upd_ne b3, upd_ne b2]
                exact h
          · rw [decide_eq_false c]
            refine iteF (iteF ⟨⟨_, rfl⟩, none2 ?_⟩)
            unfold due2
            rw [if_neg fun q => c q.1]
        · rintro σ3 H3 ⟨⟨q, rfl⟩, d3d⟩
          have hp2 : (due2 hand e r v E1).1.pf.length ≤ 502 := by
            unfold due2
            split
            · show (E1.pf ++ [(hand, v)]).length ≤ 502
              rw [List.length_append]
              exact Nat.succ_le_succ hp.2.1
            · exact Nat.le_succ_of_le hp.2.1
          generalize (due2 hand e r v E1).1 = E2 at k d3d hp2
          generalize x1 ++ (due2 hand e r v E1).2 = x2 at k d3d
          refine ⟨_, rfl, a, CE, dx, _, _, rfl, d3d.ear.ob, TE.cl, TE.pf, rfl, _, rfl, d2, E2.pf, v, rfl, d3d.ear.h2, by omega, fun H4 s4 => ⟨_, rfl, _, _, rfl, rfl, _, rfl, ?_⟩⟩
          have D4 := d3d.same s4
          have none3 : due3 d v E2 = E2 → DD CE H a dx d1 d2 hand tc first (due3 d v E2) x2 l H4 := fun q => by
            rw [q]
            exact D4
          by_cases c : d ≤ (votes E2.pf v : Int)
          · rw [decide_eq_true c]
            refine iteT ⟨_, rfl, a, CE, dx, _, _, rfl, D4.ear.ob, TE.cl, TE.took, rfl, _, rfl, ?_⟩
            rw [ov_none]
            cases htk : E2.took with
            | some z =>
              refine iteF ⟨_, rfl, k l H4 (none3 ?_)⟩
              unfold due3
              rw [if_neg fun q => by rw [htk] at q; cases q.2]
            | none =>
              refine iteT ?_
              have e3 : due3 d v E2 = { E2 with took := some v } := by
                unfold due3
                rw [if_pos ⟨c, htk⟩]
              rw [e3] at k
              obtain ⟨told, ef, pf, ec, pr, tk⟩ := E2
              have htk : tk = none := htk
              subst htk
              obtain ⟨kp2, _, hE2, as, hl2, hs2⟩ := D4
              have lna : l ≠ a := ne_of hl2 hE2.ob (by intro q; cases q)
              refine ⟨_, rfl, _, rfl, a, CE, dx, _, rfl, hE2.ob, TE.cl, TE.took, (by show 9 < 1000; decide), ?_⟩
              refine ⟨_, rfl, k l _ ⟨keepE_upd kp2 (.inl rfl), hl, ⟨upd_same, (upd_ne ad1.symm).trans hE2.h1, (upd_ne ad2.symm).trans hE2.h2, hE2.ne⟩, as, (upd_ne lna).trans hl2, hs2.mono fun b xs h => (upd_ne (ne_of h hE2.ob (by intro q; cases q))).trans h⟩⟩
          · rw [decide_eq_false c]
            refine iteF (iteF ⟨_, rfl, k l H4 (none3 ?_)⟩)
            unfold due3
            rw [if_neg fun q => c q.1]
end
end Spr
namespace Spr
open PySem L2
theorem ks_said_echo : ¬ (V.str (ks .echo) = V.str "said") := by decide +kernel
theorem ks_said_prom : ¬ (V.str (ks .prom) = V.str "said") := by decide +kernel
theorem ks_echo_prom : ¬ (V.str (ks .prom) = V.str "echo") := by decide +kernel
section
variable {P : Program} {w : World} {K : PySem.W.Frag} {mg : Str → Option Value} {base : Heap}
abbrev nHear : List Str := ["self", "kind", "sender", "value"]
theorem scHear : FnScope nHear nHear (defScope s_Ear_hear) := ⟨rfl, rfl, rfl, by decide +kernel, rfl, by decide +kernel, by decide +kernel⟩
def spHear (CE : Addr) : Sp := fun vs H Q _ => ∃ (a dx d1 d2 tc : Addr) (hand first e r d : Int) (k : Kd) (snd v : Int) (E : ME), vs = [.ref a, .str (ks k), .int snd, .int v] ∧ EarAt CE H a dx d1 d2 hand tc first E ∧ H tc = some (.tup [.int e, .int r, .int d]) ∧ WfE hand E 400 ∧ (k ≠ .said → snd ≠ hand) ∧
  ∀ (l : Addr) (H' : Hp), DD CE H a dx d1 d2 hand tc first (hear hand first e r d k snd v E).1 (hear hand first e r d k snd v E).2 l H' → Q (.ref l) H'
theorem setd_len (m : Pm) (k v : Int) : (setd m k v).length ≤ m.length + 1 := by
  unfold setd
  split
  · exact Nat.le_succ _
  · rw [List.length_append]
    exact Nat.le_refl _
theorem hasK_snoc (m : Pm) (k v j : Int) : hasK (m ++ [(k, v)]) j = (hasK m j || decide (k = j)) := by
  unfold hasK
  rw [List.any_append]
  congr 1
  simp
theorem hasK_setd (m : Pm) (k v j : Int) (h : k ≠ j) : hasK (setd m k v) j = hasK m j := by
  unfold setd
  split
  · rfl
  · rw [hasK_snoc, decide_eq_false h, Bool.or_false]
theorem hear0_wf {hand first snd v : Int} {k : Kd} {E : ME} {n : Nat} (wf : WfE hand E n) (h : k ≠ .said → snd ≠ hand) : WfE hand (hear0 first k snd v E) (n + 1) := by
  obtain ⟨w1, w2, w3, w4⟩ := wf
  cases k with
  | said =>
    unfold hear0
    dsimp only
    split
    · exact ⟨Nat.le_succ_of_le w1, Nat.le_succ_of_le w2, w3, w4⟩
    · exact ⟨Nat.le_succ_of_le w1, Nat.le_succ_of_le w2, w3, w4⟩
  | echo => exact ⟨Nat.le_trans (setd_len _ _ _) (Nat.succ_le_succ w1), Nat.le_succ_of_le w2, fun q => (hasK_setd _ _ _ _ (h (by decide))).trans (w3 q), w4⟩
  | prom => exact ⟨Nat.le_succ_of_le w1, Nat.le_trans (setd_len _ _ _) (Nat.succ_le_succ w2), w3, fun q => (hasK_setd _ _ _ _ (h (by decide))).trans (w4 q)⟩
theorem DD.over {CE : Addr} {H0 H H' : Hp} {a dx d1 d2 : Addr} {hand : Int} {tc : Addr} {first : Int} {E E0 : ME} {xs : List (Kd × Int)} {l : Addr} (p : KeepE H0 H a d1 d2) (y : EarAt CE H a dx d1 d2 hand tc first E0) (x : DD CE H a dx d1 d2 hand tc first E xs l H') : DD CE H0 a dx d1 d2 hand tc first E xs l H' :=
  ⟨p.trans x.keep, p.free y x.l0, x.ear, x.lst⟩
theorem ok_hear {f fV CE : Addr} {fd fdV : FuncData} (F : Fun K "hear" "Ear.hear" s_Ear_hear f fd) (TE : TxE K CE) (cV : Me P w K mg base 2 CE "do_due" ["self", "value"] (spDue CE) fV fdV) : FnOk P w K mg base CX0 3 f fd nHear (spHear CE) := by
  refine F.ok scHear (fun vs H Q E h => ?_) (fun cdv A outer s H vs Q E hr h => ?_)
  · obtain ⟨a, dx, d1, d2, tc, hand, first, e, r, d, k, snd, v, E, rfl, _⟩ := h
    rfl
  · obtain ⟨a, dx, d1, d2, tc, hand, first, e, r, d, k, snd, v, E, rfl, hE, htc, wf, hs, kk⟩ := h
    have hu := hu_of hr
    refine ⟨_, C8.pss_cut (ps_if (pt_cmpR op_eq (pv 1) pe_str (nomark _))
          (pss_one (ps_if (PW.pt (pw_and (pt_cmpR op_eq (pv 2) (pe_fld (pv 0) rfl) (nomark _)) (pw_and1 (pt_cmp (pc_isN (pe_fld (pv 0) rfl)))))) (pss_one (ps_fld (pv 0) (pv 3) rfl)) pss_nil))
          (pss_one (ps_if (pt_cmpR op_eq (pv 1) pe_str (nomark _))
            (pss_one (ps_expr (pe_dsetd (pe_fld (pv 0) rfl) (pv 2) (pv 3) ⟨rfl, rfl, rfl, rfl⟩)))
            (pss_one (ps_expr (pe_dsetd (pe_fld (pv 0) rfl) (pv 2) (pv 3) ⟨rfl, rfl, rfl, rfl⟩))))))
      (pss_one (ps_ret (pe_me (pv 0) TE.cl cV hr (pa_cons (pv 3) pa_nil)))), ?_⟩
    have ad1 := hE.ad1
    have ad2 := hE.ad2
    have kp0 : KeepE H H a d1 d2 := fun b o e _ _ _ => e
    refine ⟨fun σ' H' => σ' = [some (.ref a), some (.str (ks k)), some (.int snd), some (.int v)] ∧ KeepE H H' a d1 d2 ∧ EarAt CE H' a dx d1 d2 hand tc first (hear0 first k snd v E), ?_, ?_⟩
    · refine ⟨_, rfl, rfl, _, rfl, ?_⟩
      cases k with
      | said =>
        refine iteT ⟨_, rfl, _, rfl, a, CE, dx, _, _, rfl, hE.ob, TE.cl, TE.first, rfl, rfl, _, rfl, ?_⟩
        by_cases c : snd = first
        · rw [decide_eq_true (show V.int snd = V.int first by rw [c])]
          refine iteT ⟨_, rfl, a, CE, dx, _, _, rfl, hE.ob, TE.cl, TE.told, rfl, _, rfl, ?_⟩
          rw [ov_none]
          cases ht : E.told with
          | some u =>
            refine iteF ⟨rfl, kp0, ?_⟩
            have : hear0 first .said snd v E = E := by
              unfold hear0
              dsimp only
              rw [if_neg fun q => by rw [ht] at q; cases q.2]
            rw [this]
            exact hE
          | none =>
            refine iteT ⟨_, rfl, _, rfl, a, CE, dx, _, rfl, hE.ob, TE.cl, TE.told, (by show 9 < 1000; decide), rfl, keepE_upd kp0 (.inl rfl), ?_⟩
            have : hear0 first .said snd v E = { E with told := some v } := by
              unfold hear0
              dsimp only
              rw [if_pos ⟨c, ht⟩]
            rw [this]
            exact ⟨upd_same, (upd_ne ad1.symm).trans hE.h1, (upd_ne ad2.symm).trans hE.h2, hE.ne⟩
        · rw [decide_eq_false (show ¬ V.int snd = V.int first from fun q => c (by injection q))]
          refine iteF (iteF ⟨rfl, kp0, ?_⟩)
          have : hear0 first .said snd v E = E := by
            unfold hear0
            dsimp only
            rw [if_neg fun q => c q.1]
          rw [this]
          exact hE
      | echo =>
        rw [decide_eq_false ks_said_echo]
        refine iteF ⟨_, rfl, rfl, _, rfl, iteT ?_⟩
        refine ⟨_, rfl, a, CE, dx, _, _, rfl, hE.ob, TE.cl, TE.ef, rfl, d1, rfl, .inl ⟨_, Rd.of hE.h1⟩, _, rfl, _, rfl, _, Sum.inl snd, hE.h1, rfl, (by rw [dk_length]; exact small1000 (by have := wf.l1; omega)), fun z hz => ⟨rfl, kp0, ?_⟩, fun hz => ⟨rfl, keepE_upd kp0 (.inr (.inl rfl)), ?_⟩⟩
        · have hh : hasK E.ef snd = true := by
            rw [← valV_dk, hz]
            rfl
          have : hear0 first .echo snd v E = E := by
            show { E with ef := setd E.ef snd v } = E
            unfold setd
            rw [if_pos hh]
          rw [this]
          exact hE
        · have hh : hasK E.ef snd = false := by
            rw [← valV_dk, hz]
            rfl
          have e1 : hear0 first .echo snd v E = { E with ef := E.ef ++ [(snd, v)] } := by
            show { E with ef := setd E.ef snd v } = _
            unfold setd
            rw [if_neg (by simp [hh])]
          rw [e1]
          exact ⟨(upd_ne ad1).trans hE.ob, by rw [upd_same, putK_dk _ _ _ hh], (upd_ne hE.ne.symm).trans hE.h2, hE.ne⟩
      | prom =>
        rw [decide_eq_false ks_said_prom]
        refine iteF ⟨_, rfl, rfl, _, rfl, ?_⟩
        rw [decide_eq_false ks_echo_prom]
        refine iteF ?_
        refine ⟨_, rfl, a, CE, dx, _, _, rfl, hE.ob, TE.cl, TE.pf, rfl, d2, rfl, .inl ⟨_, Rd.of hE.h2⟩, _, rfl, _, rfl, _, Sum.inl snd, hE.h2, rfl, (by rw [dk_length]; exact small1000 (by have := wf.l2; omega)), fun z hz => ⟨rfl, kp0, ?_⟩, fun hz => ⟨rfl, keepE_upd kp0 (.inr (.inr (.inl rfl))), ?_⟩⟩
        · have hh : hasK E.pf snd = true := by
            rw [← valV_dk, hz]
            rfl
          have : hear0 first .prom snd v E = E := by
            show { E with pf := setd E.pf snd v } = E
            unfold setd
            rw [if_pos hh]
          rw [this]
          exact hE
        · have hh : hasK E.pf snd = false := by
            rw [← valV_dk, hz]
            rfl
          have e1 : hear0 first .prom snd v E = { E with pf := E.pf ++ [(snd, v)] } := by
            show { E with pf := setd E.pf snd v } = _
            unfold setd
            rw [if_neg (by simp [hh])]
          rw [e1]
          exact ⟨(upd_ne ad2).trans hE.ob, (upd_ne hE.ne).trans hE.h1, by rw [upd_same, putK_dk _ _ _ hh], hE.ne⟩
    · rintro σ' H' ⟨rfl, kp, hE'⟩
      have wf' := hear0_wf (first := first) (v := v) wf hs
      refine ⟨_, rfl, a, dx, _, rfl, hE'.ob, rfl, _, rfl, a, dx, d1, d2, tc, hand, first, e, r, d, v, _, rfl, hE', tup_keep kp hE _ _ htc, ⟨Nat.le_trans wf'.l1 (by decide), Nat.le_trans wf'.l2 (by decide), wf'.n1, wf'.n2⟩, fun l H2 dd => ?_⟩
      exact kk l H2 (dd.over kp hE')
abbrev nEInit : List Str := ["self", "hand", "counts", "first"]
theorem scEInit : FnScope nEInit nEInit (defScope s_Ear_init) := ⟨rfl, rfl, rfl, by decide +kernel, rfl, by decide +kernel, by decide +kernel⟩
def ME0 : ME := ⟨none, [], [], none, none, none⟩
def spEInit (CE : Addr) : Sp := fun vs H Q _ => ∃ (a dx tc : Addr) (hand first : Int), vs = [.ref a, .int hand, .ref tc, .int first] ∧ H a = some (.ins CE dx []) ∧
  ∀ (d1 d2 : Addr) (H' : Hp), H d1 = none → H d2 = none → EarAt CE H' a dx d1 d2 hand tc first ME0 → (∀ b o, H b = some o → b ≠ a → H' b = some o) → Q .non H'
theorem ok_einit {f CE : Addr} {fd : FuncData} (F : Fun K "__init__" "Ear.__init__" s_Ear_init f fd) (TE : TxE K CE) : FnOk P w K mg base CX0 1 f fd nEInit (spEInit CE) := by
  refine F.ok scEInit (fun vs H Q E h => ?_) (fun cdv A outer s H vs Q E hr h => ?_)
  · obtain ⟨a, dx, tc, hand, first, rfl, _⟩ := h
    rfl
  · obtain ⟨a, dx, tc, hand, first, rfl, ha, k⟩ := h
    refine ⟨_, pss_cons (ps_fld (pv 0) (pv 1) rfl) (pss_cons (ps_fld (pv 0) (pv 2) rfl) (pss_cons (ps_fld (pv 0) (pv 3) rfl) (pss_cons (ps_fld (pv 0) pe_non rfl) (pss_cons (ps_fld (pv 0) pe_dnewK rfl) (pss_cons (ps_fld (pv 0) pe_dnewK rfl)
      (pss_cons (ps_fld (pv 0) pe_non rfl) (pss_cons (ps_fld (pv 0) pe_non rfl) (pss_one (ps_fld (pv 0) pe_non rfl))))))))), ?_⟩
    refine ⟨_, rfl, _, rfl, a, CE, dx, _, rfl, ha, TE.cl, TE.hand, (by show 0 < 1000; decide), ?_⟩
    refine ⟨_, rfl, _, rfl, a, CE, dx, _, rfl, upd_same, TE.cl, TE.counts, (by show 1 < 1000; decide), ?_⟩
    refine ⟨_, rfl, _, rfl, a, CE, dx, _, rfl, upd_same, TE.cl, TE.first, (by show 2 < 1000; decide), ?_⟩
    refine ⟨_, rfl, a, CE, dx, _, rfl, upd_same, TE.cl, TE.told, (by show 3 < 1000; decide), fun d1 h1 => ?_⟩
    have n1 : a ≠ d1 := ne_of_none upd_same h1
    refine ⟨_, rfl, a, CE, dx, _, rfl, (upd_ne n1).trans upd_same, TE.cl, TE.ef, (by show 4 < 1000; decide), fun d2 h2 => ?_⟩
    have n2 : a ≠ d2 := ne_of_none upd_same h2
    have n12 : d1 ≠ d2 := ne_of_none ((upd_ne n1.symm).trans upd_same) h2
    refine ⟨_, rfl, a, CE, dx, _, rfl, (upd_ne n2).trans upd_same, TE.cl, TE.pf, (by show 5 < 1000; decide), ?_⟩
    refine ⟨_, rfl, a, CE, dx, _, rfl, upd_same, TE.cl, TE.echoed, (by show 6 < 1000; decide), ?_⟩
    refine ⟨_, rfl, a, CE, dx, _, rfl, upd_same, TE.cl, TE.promised, (by show 7 < 1000; decide), ?_⟩
    refine ⟨_, rfl, a, CE, dx, _, rfl, upd_same, TE.cl, TE.took, (by show 8 < 1000; decide), ?_⟩
    have q1 : H d1 = none := by
      rw [upd_ne n1.symm, upd_ne n1.symm, upd_ne n1.symm, upd_ne n1.symm] at h1
      exact h1
    have q2 : H d2 = none := by
      rw [upd_ne n2.symm, upd_ne n12.symm, upd_ne n2.symm, upd_ne n2.symm, upd_ne n2.symm, upd_ne n2.symm] at h2
      exact h2
    refine k d1 d2 _ q1 q2 ⟨upd_same, ?_, ?_, n12⟩ fun b o e hb => ?_
    · rw [upd_ne n1.symm, upd_ne n1.symm, upd_ne n1.symm, upd_ne n1.symm, upd_ne n12, upd_ne n1.symm, upd_same]
      rfl
    · rw [upd_ne n2.symm, upd_ne n2.symm, upd_ne n2.symm, upd_ne n2.symm, upd_same]
      rfl
    · have b1 : b ≠ d1 := ne_of_none e q1
      have b2 : b ≠ d2 := ne_of_none e q2
      rw [upd_ne hb, upd_ne hb, upd_ne hb, upd_ne hb, upd_ne b2, upd_ne hb, upd_ne b1, upd_ne hb, upd_ne hb, upd_ne hb, upd_ne hb]
      exact e
end
end Spr
namespace Spr
open PySem L2
/-! ### the mirror of a Spread -/
structure Sl where
  frm : Int
  to : Int
  kd : Kd
  val : Int
inductive Dd where
  | deliver (k : Int)
  | lie (liar to : Int) (kd : Kd) (v : Int)
structure MS where
  n : Nat
  e : Int
  r : Int
  d : Int
  liars : List Int
  first : Int
  value : Option Int
  ears : List ME
  slips : List (Int × Sl)
  put : Nat
  log : List Dd
def put1 (S : MS) (s : Sl) : MS := { S with slips := S.slips ++ [((S.put : Int), s)], put := S.put + 1 }
/-- who hears what a hand sends to all, of the first i hands -/
def hears (S : MS) (snd : Int) (to : Nat) : Bool := !decide ((to : Int) = snd) && !inI (to : Int) S.liars
def putTo (S : MS) (snd : Int) (k : Kd) (v : Int) : Nat → MS
  | 0 => S
  | i + 1 => if hears S snd i = true then put1 (putTo S snd k v i) ⟨snd, (i : Int), k, v⟩ else putTo S snd k v i
def putAll (S : MS) (snd : Int) (k : Kd) (v : Int) : MS := putTo S snd k v S.n
def putSends (S : MS) (hand : Int) : List (Kd × Int) → MS
  | [] => S
  | x :: xs => putSends (putAll S hand x.1 x.2) hand xs
def earOf (S : MS) (hand : Int) : ME := S.ears.getD hand.toNat ⟨none, [], [], none, none, none⟩
def hearS (S : MS) (hand snd : Int) (k : Kd) (v : Int) : MS :=
  putSends { S with ears := S.ears.set hand.toNat (hear hand S.first S.e S.r S.d k snd v (earOf S hand)).1 } hand (hear hand S.first S.e S.r S.d k snd v (earOf S hand)).2
def dlv (S : MS) (k : Int) (s : Sl) : MS := hearS { S with slips := S.slips.filter fun x => decide (¬ x.1 = k), log := S.log ++ [.deliver k] } s.to s.frm s.kd s.val
def lieS (S : MS) (liar to : Int) (k : Kd) (v : Int) : MS := put1 { S with log := S.log ++ [.lie liar to k v] } ⟨liar, to, k, v⟩
def honest (S : MS) (h : Int) : Bool := decide (0 ≤ h ∧ h < S.n) && !inI h S.liars
def init0 (n : Nat) (e r d : Int) (liars : List Int) (first : Int) (value : Option Int) : MS := ⟨n, e, r, d, liars, first, value, List.replicate n ⟨none, [], [], none, none, none⟩, [], 0, []⟩
def initS (n : Nat) (e r d : Int) (liars : List Int) (first : Int) (value : Option Int) : MS := match value with
  | some v => if inI first liars = true then init0 n e r d liars first value else hearS (putAll (init0 n e r d liars first value) first .said v) first first .said v
  | none => init0 n e r d liars first value
/-! what stays -/
theorem put1_n (S : MS) (s : Sl) : (put1 S s).n = S.n := rfl
theorem putTo_keeps (S : MS) (snd : Int) (k : Kd) (v : Int) (i : Nat) : (putTo S snd k v i).n = S.n ∧ (putTo S snd k v i).e = S.e ∧ (putTo S snd k v i).r = S.r ∧ (putTo S snd k v i).d = S.d ∧ (putTo S snd k v i).liars = S.liars ∧ (putTo S snd k v i).first = S.first ∧ (putTo S snd k v i).value = S.value ∧ (putTo S snd k v i).ears = S.ears ∧ (putTo S snd k v i).log = S.log := by
  induction i with
  | zero => exact ⟨rfl, rfl, rfl, rfl, rfl, rfl, rfl, rfl, rfl⟩
  | succ i ih =>
    unfold putTo
    split
    · exact ih
    · exact ih
theorem putSends_keeps (hand : Int) : ∀ (xs : List (Kd × Int)) (S : MS), (putSends S hand xs).n = S.n ∧ (putSends S hand xs).e = S.e ∧ (putSends S hand xs).r = S.r ∧ (putSends S hand xs).d = S.d ∧ (putSends S hand xs).liars = S.liars ∧ (putSends S hand xs).first = S.first ∧ (putSends S hand xs).value = S.value ∧ (putSends S hand xs).ears = S.ears ∧ (putSends S hand xs).log = S.log
  | [], S => ⟨rfl, rfl, rfl, rfl, rfl, rfl, rfl, rfl, rfl⟩
  | x :: xs, S => by
    have h := putSends_keeps hand xs (putAll S hand x.1 x.2)
    have q := putTo_keeps S hand x.1 x.2 S.n
    unfold putSends
    exact ⟨h.1.trans q.1, h.2.1.trans q.2.1, h.2.2.1.trans q.2.2.1, h.2.2.2.1.trans q.2.2.2.1, h.2.2.2.2.1.trans q.2.2.2.2.1, h.2.2.2.2.2.1.trans q.2.2.2.2.2.1, h.2.2.2.2.2.2.1.trans q.2.2.2.2.2.2.1, h.2.2.2.2.2.2.2.1.trans q.2.2.2.2.2.2.2.1, h.2.2.2.2.2.2.2.2.trans q.2.2.2.2.2.2.2.2⟩
/-! ### what holds of every Spread -/
structure WfEar (n : Nat) (hand : Int) (E : ME) : Prop where
  nd1 : (E.ef.map (·.1)).Nodup
  nd2 : (E.pf.map (·.1)).Nodup
  in1 : ∀ x ∈ E.ef, 0 ≤ x.1 ∧ x.1 < n
  in2 : ∀ x ∈ E.pf, 0 ≤ x.1 ∧ x.1 < n
  n1 : E.echoed = none → hasK E.ef hand = false
  n2 : E.promised = none → hasK E.pf hand = false
structure WfSl (S : MS) (s : Sl) : Prop where
  f0 : 0 ≤ s.frm
  f1 : s.frm < S.n
  t0 : 0 ≤ s.to
  t1 : s.to < S.n
  th : s.to ∉ S.liars
  ne : s.frm ≠ s.to
structure WfS (S : MS) : Prop where
  n2 : 2 ≤ S.n
  n12 : S.n ≤ 12
  el : S.ears.length = S.n
  ears : ∀ (i : Nat) (E : ME), S.ears[i]? = some E → WfEar S.n i E
  sl : ∀ x ∈ S.slips, WfSl S x.2
  asc : (S.slips.map (·.1)).Pairwise (· < ·)
  lt : ∀ x ∈ S.slips, x.1 < S.put
  lin : ∀ l ∈ S.liars, 0 ≤ l ∧ l < S.n
  f0 : 0 ≤ S.first
  f1 : S.first < S.n
theorem nodup_le : ∀ (n : Nat) (l : List Int), l.Nodup → (∀ x ∈ l, 0 ≤ x ∧ x < n) → l.length ≤ n
  | 0, [], _, _ => Nat.le_refl _
  | 0, x :: r, _, h => by
    have := h x (List.mem_cons_self)
    omega
  | n + 1, l, nd, h => by
    have ih := nodup_le n (l.filter fun x => decide (x ≠ (n : Int))) (nd.filter _) fun x hx => by
      obtain ⟨h1, h2⟩ := List.mem_filter.mp hx
      have h2 := of_decide_eq_true h2
      have := h x h1
      omega
    have hc : l.length ≤ (l.filter fun x => decide (x ≠ (n : Int))).length + 1 := by
      clear ih h
      induction l with
      | nil => exact Nat.zero_le _
      | cons x r ihr =>
        obtain ⟨hx, hr⟩ := List.nodup_cons.mp nd
        by_cases e : x = n
        · have : (r.filter fun x => decide (x ≠ (n : Int))) = r := by
            apply List.filter_eq_self.mpr
            intro y hy
            exact decide_eq_true fun q => hx (by rw [e, ← q]; exact hy)
          rw [List.filter_cons, if_neg (by simp [e]), this, List.length_cons]
          exact Nat.le_refl _
        · rw [List.filter_cons, if_pos (by simp [e]), List.length_cons, List.length_cons]
          exact Nat.succ_le_succ (ihr hr)
    omega
theorem WfEar.wfE {n : Nat} {hand : Int} {E : ME} (w : WfEar n hand E) (hn : n ≤ 12) : WfE hand E 12 := by
  refine ⟨?_, ?_, w.n1, w.n2⟩
  · have := nodup_le n (E.ef.map (·.1)) w.nd1 (fun x hx => by obtain ⟨y, hy, rfl⟩ := List.mem_map.mp hx; exact w.in1 y hy)
    rw [List.length_map] at this
    omega
  · have := nodup_le n (E.pf.map (·.1)) w.nd2 (fun x hx => by obtain ⟨y, hy, rfl⟩ := List.mem_map.mp hx; exact w.in2 y hy)
    rw [List.length_map] at this
    omega
theorem hasK_iff {m : Pm} {k : Int} : hasK m k = true ↔ k ∈ m.map (·.1) := by
  unfold hasK
  rw [List.any_eq_true, List.mem_map]
  constructor
  · rintro ⟨x, hx, e⟩
    exact ⟨x, hx, of_decide_eq_true e⟩
  · rintro ⟨x, hx, e⟩
    exact ⟨x, hx, decide_eq_true e⟩
theorem nd_snocK {m : Pm} {k v : Int} (nd : (m.map (·.1)).Nodup) (h : hasK m k = false) : ((m ++ [(k, v)]).map (·.1)).Nodup := by
  rw [List.map_append]
  exact nd_snoc nd fun q => by rw [hasK_iff.mpr q] at h; cases h
theorem setd_nd {m : Pm} {k v : Int} (nd : (m.map (·.1)).Nodup) : ((setd m k v).map (·.1)).Nodup := by
  unfold setd
  by_cases h : hasK m k = true
  · rw [if_pos h]
    exact nd
  · rw [if_neg h]
    exact nd_snocK nd (by simpa using h)
theorem setd_in {m : Pm} {k v : Int} {n : Nat} (h : ∀ x ∈ m, 0 ≤ x.1 ∧ x.1 < n) (h0 : 0 ≤ k) (h1 : k < n) : ∀ x ∈ setd m k v, 0 ≤ x.1 ∧ x.1 < n := by
  unfold setd
  split
  · exact h
  · intro x hx
    rcases List.mem_append.mp hx with q | q
    · exact h x q
    · rw [List.mem_singleton.mp q]
      exact ⟨h0, h1⟩
theorem snoc_in {m : Pm} {k v : Int} {n : Nat} (h : ∀ x ∈ m, 0 ≤ x.1 ∧ x.1 < n) (h0 : 0 ≤ k) (h1 : k < n) : ∀ x ∈ m ++ [(k, v)], 0 ≤ x.1 ∧ x.1 < n := by
  intro x hx
  rcases List.mem_append.mp hx with q | q
  · exact h x q
  · rw [List.mem_singleton.mp q]
    exact ⟨h0, h1⟩
theorem hear_wf {n : Nat} {hand first e r d snd v : Int} {k : Kd} {E : ME} (w : WfEar n hand E) (hs : k ≠ .said → snd ≠ hand) (s0 : 0 ≤ snd) (s1 : snd < n) (h0 : 0 ≤ hand) (h1 : hand < n) : WfEar n hand (hear hand first e r d k snd v E).1 := by
  have w0 : WfEar n hand (hear0 first k snd v E) := by
    cases k with
    | said =>
      unfold hear0
      dsimp only
      split
      · exact ⟨w.nd1, w.nd2, w.in1, w.in2, w.n1, w.n2⟩
      · exact w
    | echo => exact ⟨setd_nd w.nd1, w.nd2, setd_in w.in1 s0 s1, w.in2, fun q => (hasK_setd _ _ _ _ (hs (by decide))).trans (w.n1 q), w.n2⟩
    | prom => exact ⟨w.nd1, setd_nd w.nd2, w.in1, setd_in w.in2 s0 s1, w.n1, fun q => (hasK_setd _ _ _ _ (hs (by decide))).trans (w.n2 q)⟩
  unfold hear doDue
  generalize hear0 first k snd v E = E0 at w0
  have w1 : WfEar n hand (due1 hand E0).1 := by
    unfold due1
    obtain ⟨told, ef, pf, ec, pr, tk⟩ := E0
    cases told with
    | none => exact w0
    | some u =>
      cases ec with
      | some z => exact w0
      | none => exact ⟨nd_snocK w0.nd1 (w0.n1 rfl), w0.nd2, snoc_in w0.in1 h0 h1, w0.in2, (fun q => by cases q), w0.n2⟩
  generalize (due1 hand E0).1 = E1 at w1
  have w2 : WfEar n hand (due2 hand e r v E1).1 := by
    unfold due2
    split
    · rename_i c
      exact ⟨w1.nd1, nd_snocK w1.nd2 (w1.n2 c.2), w1.in1, snoc_in w1.in2 h0 h1, w1.n1, (fun q => by cases q)⟩
    · exact w1
  generalize (due2 hand e r v E1).1 = E2 at w2
  show WfEar n hand (due3 d v E2)
  unfold due3
  split
  · exact ⟨w2.nd1, w2.nd2, w2.in1, w2.in2, w2.n1, w2.n2⟩
  · exact w2
end Spr
namespace Spr
open PySem L2
structure EA where
  a : Addr
  dx : Addr
  d1 : Addr
  d2 : Addr
structure SA where
  p : Addr
  dx : Addr
  tc : Addr
  tl : Addr
  le : Addr
  ds : Addr
  lg : Addr
  es : List EA
def spF (A : SA) (S : MS) : List (Str × V) := [("n", .int (S.n : Int)), ("counts", .ref A.tc), ("liars", .ref A.tl), ("first", .int S.first), ("_value", ov S.value), ("_ears", .ref A.le), ("_slips", .ref A.ds), ("_put_ever", .int (S.put : Int)), ("_log", .ref A.lg)]
def slV (s : Sl) : List V := [.int s.frm, .int s.to, .str (ks s.kd), .int s.val]
def ddV : Dd → List V
  | .deliver k => [.str "deliver", .int k]
  | .lie l t k v => [.str "lie", .int l, .int t, .str (ks k), .int v]
structure SpAt (C CE : Addr) (A : SA) (S : MS) (H : Hp) : Prop where
  ob : H A.p = some (.ins C A.dx (spF A S))
  tc : H A.tc = some (.tup [.int S.e, .int S.r, .int S.d])
  tl : H A.tl = some (.tup (S.liars.map V.int))
  le : H A.le = some (.lst (A.es.map fun x => V.ref x.a))
  el : A.es.length = S.ears.length
  ears : ∀ (i : Nat) (x : EA) (E : ME), A.es[i]? = some x → S.ears[i]? = some E → EarAt CE H x.a x.dx x.d1 x.d2 i A.tc S.first E
  ds : ∃ sg : List ((Int × Sl) × Addr), sg.map (·.1) = S.slips ∧ H A.ds = some (.dK (sg.map fun x => (Sum.inl x.1.1, V.ref x.2))) ∧ ∀ x ∈ sg, H x.2 = some (.tup (slV x.1.2))
  lg : ∃ lz : List (Dd × Addr), lz.map (·.1) = S.log ∧ H A.lg = some (.lst (lz.map fun x => V.ref x.2)) ∧ ∀ x ∈ lz, H x.2 = some (.tup (ddV x.1))
structure Apart (C CE : Addr) (A : SA) : Prop where
  cc : C ≠ CE
  nda : (A.es.map (·.a)).Nodup
  ndd : (A.ds :: (A.es.map (·.d1) ++ A.es.map (·.d2))).Nodup
  ll : A.lg ≠ A.le
def Fp (A : SA) (b : Addr) : Prop := b = A.p ∨ b = A.ds ∨ b = A.lg ∨ ∃ x ∈ A.es, b = x.a ∨ b = x.d1 ∨ b = x.d2
def KeepF (A : SA) (H H' : Hp) : Prop := ∀ b o, H b = some o → ¬ Fp A b → H' b = some o
theorem KeepF.refl (A : SA) (H : Hp) : KeepF A H H := fun _ _ e _ => e
theorem KeepF.trans {A : SA} {H H1 H2 : Hp} (p : KeepF A H H1) (q : KeepF A H1 H2) : KeepF A H H2 := fun b o e h => q b o (p b o e h) h
theorem KeepF.same {A : SA} {H H1 H2 : Hp} (p : KeepF A H H1) (q : Same H1 H2) : KeepF A H H2 := fun b o e h => q b o (p b o e h)
theorem keepF_upd {A : SA} {H H' : Hp} {c : Addr} {o : HO} (p : KeepF A H H') (h : Fp A c ∨ H c = none) : KeepF A H (upd H' c o) := fun b u e nf => by
  have : b ≠ c := by
    rcases h with h | h
    · exact fun q => nf (q ▸ h)
    · exact ne_of_none e h
  rw [upd_ne this]
  exact p b u e nf
theorem keepE_F {A : SA} {H H' : Hp} {x : EA} (hx : x ∈ A.es) (p : KeepE H H' x.a x.d1 x.d2) : KeepF A H H' := fun b o e nf =>
  p b o e (fun q => nf (.inr (.inr (.inr ⟨x, hx, .inl q⟩)))) (fun q => nf (.inr (.inr (.inr ⟨x, hx, .inr (.inl q)⟩)))) (fun q => nf (.inr (.inr (.inr ⟨x, hx, .inr (.inr q)⟩))))
theorem es_at {A : SA} {S : MS} (el : A.es.length = S.ears.length) {x : EA} (hx : x ∈ A.es) : ∃ (i : Nat) (E : ME), A.es[i]? = some x ∧ S.ears[i]? = some E := by
  obtain ⟨i, hi⟩ := List.mem_iff_getElem?.mp hx
  obtain ⟨hl, _⟩ := List.getElem?_eq_some_iff.mp hi
  exact ⟨i, S.ears[i]'(by omega), hi, List.getElem?_eq_getElem (by omega)⟩
section
variable {C CE : Addr} {A : SA} {S : MS} {H H' : Hp}
/-- all that is of the footprint stands -/
theorem SpAt.fp (x : SpAt C CE A S H) {b : Addr} (h : H b = none) : ¬ Fp A b := by
  rintro (e | e | e | ⟨y, hy, e⟩)
  · rw [e, x.ob] at h; cases h
  · obtain ⟨sg, _, h1, _⟩ := x.ds
    rw [e, h1] at h; cases h
  · obtain ⟨lz, _, h1, _⟩ := x.lg
    rw [e, h1] at h; cases h
  · obtain ⟨i, E, h1, h2⟩ := es_at x.el hy
    have q := x.ears i y E h1 h2
    rcases e with e | e | e
    · rw [e, q.ob] at h; cases h
    · rw [e, q.h1] at h; cases h
    · rw [e, q.h2] at h; cases h
theorem SpAt.tupF (x : SpAt C CE A S H) {b : Addr} {ys : List V} (h : H b = some (.tup ys)) : ¬ Fp A b := by
  rintro (e | e | e | ⟨y, hy, e⟩)
  · rw [e, x.ob] at h; cases h
  · obtain ⟨sg, _, h1, _⟩ := x.ds
    rw [e, h1] at h; cases h
  · obtain ⟨lz, _, h1, _⟩ := x.lg
    rw [e, h1] at h; cases h
  · obtain ⟨i, E, h1, h2⟩ := es_at x.el hy
    have q := x.ears i y E h1 h2
    rcases e with e | e | e
    · rw [e, q.ob] at h; cases h
    · rw [e, q.h1] at h; cases h
    · rw [e, q.h2] at h; cases h
theorem SpAt.same (x : SpAt C CE A S H) (s : Same H H') : SpAt C CE A S H' :=
  ⟨s _ _ x.ob, s _ _ x.tc, s _ _ x.tl, s _ _ x.le, x.el, fun i y E h1 h2 => (x.ears i y E h1 h2).same s,
   let ⟨sg, e1, e2, e3⟩ := x.ds; ⟨sg, e1, s _ _ e2, fun y hy => s _ _ (e3 y hy)⟩, let ⟨lz, e1, e2, e3⟩ := x.lg; ⟨lz, e1, s _ _ e2, fun y hy => s _ _ (e3 y hy)⟩⟩
/-- other objects may be written -/
theorem SpAt.other (x : SpAt C CE A S H) (s : ∀ b o, H b = some o → (Fp A b ∨ b = A.tc ∨ b = A.tl ∨ b = A.le ∨ ∃ ys, o = .tup ys) → H' b = some o) : SpAt C CE A S H' := by
  refine ⟨s _ _ x.ob (.inl (.inl rfl)), s _ _ x.tc (.inr (.inl rfl)), s _ _ x.tl (.inr (.inr (.inl rfl))), s _ _ x.le (.inr (.inr (.inr (.inl rfl)))), x.el, fun i y E h1 h2 => ?_, ?_, ?_⟩
  · have q := x.ears i y E h1 h2
    have hy := List.mem_of_getElem? h1
    exact ⟨s _ _ q.ob (.inl (.inr (.inr (.inr ⟨y, hy, .inl rfl⟩)))), s _ _ q.h1 (.inl (.inr (.inr (.inr ⟨y, hy, .inr (.inl rfl)⟩)))), s _ _ q.h2 (.inl (.inr (.inr (.inr ⟨y, hy, .inr (.inr rfl)⟩)))), q.ne⟩
  · obtain ⟨sg, e1, e2, e3⟩ := x.ds
    exact ⟨sg, e1, s _ _ e2 (.inl (.inr (.inl rfl))), fun y hy => s _ _ (e3 y hy) (.inr (.inr (.inr (.inr ⟨_, rfl⟩))))⟩
  · obtain ⟨lz, e1, e2, e3⟩ := x.lg
    exact ⟨lz, e1, s _ _ e2 (.inl (.inr (.inr (.inl rfl)))), fun y hy => s _ _ (e3 y hy) (.inr (.inr (.inr (.inr ⟨_, rfl⟩))))⟩
/-- the ears are kept, the rest is told anew -/
theorem SpAt.re (x : SpAt C CE A S H) (ap : Apart C CE A) {sl : List (Int × Sl)} {pt : Nat} {lo : List Dd} (hk : ∀ b o, H b = some o → b ≠ A.p → b ≠ A.ds → b ≠ A.lg → H' b = some o)
    (ob : H' A.p = some (.ins C A.dx (spF A { S with slips := sl, put := pt, log := lo })))
    (ds : ∃ sg : List ((Int × Sl) × Addr), sg.map (·.1) = sl ∧ H' A.ds = some (.dK (sg.map fun x => (Sum.inl x.1.1, V.ref x.2))) ∧ ∀ x ∈ sg, H' x.2 = some (.tup (slV x.1.2)))
    (lg : ∃ lz : List (Dd × Addr), lz.map (·.1) = lo ∧ H' A.lg = some (.lst (lz.map fun x => V.ref x.2)) ∧ ∀ x ∈ lz, H' x.2 = some (.tup (ddV x.1))) : SpAt C CE A { S with slips := sl, put := pt, log := lo } H' := by
  obtain ⟨sg0, _, hds, _⟩ := x.ds
  obtain ⟨lz0, _, hlg, _⟩ := x.lg
  refine ⟨ob, hk _ _ x.tc (ne_of x.tc x.ob (by intro q; cases q)) (ne_of x.tc hds (by intro q; cases q)) (ne_of x.tc hlg (by intro q; cases q)), hk _ _ x.tl (ne_of x.tl x.ob (by intro q; cases q)) (ne_of x.tl hds (by intro q; cases q)) (ne_of x.tl hlg (by intro q; cases q)),
    hk _ _ x.le (ne_of x.le x.ob (by intro q; cases q)) (ne_of x.le hds (by intro q; cases q)) (Ne.symm ap.ll), x.el, fun i y E h1 h2 => ?_, ds, lg⟩
  have q := x.ears i y E h1 h2
  have hy := List.mem_of_getElem? h1
  obtain ⟨nds, _⟩ := List.nodup_cons.mp ap.ndd
  refine ⟨hk _ _ q.ob (ne_of q.ob x.ob (by intro z; injection z with z; exact ap.cc z.symm)) (ne_of q.ob hds (by intro z; cases z)) (ne_of q.ob hlg (by intro z; cases z)),
    hk _ _ q.h1 (ne_of q.h1 x.ob (by intro z; cases z)) (fun z => nds (by rw [← z]; exact List.mem_append_left _ (List.mem_map_of_mem hy))) (ne_of q.h1 hlg (by intro z; cases z)),
    hk _ _ q.h2 (ne_of q.h2 x.ob (by intro z; cases z)) (fun z => nds (by rw [← z]; exact List.mem_append_right _ (List.mem_map_of_mem hy))) (ne_of q.h2 hlg (by intro z; cases z)), q.ne⟩
end
/-- what the text says of the class Spread -/
structure TxS (K : PySem.W.Frag) (C : Addr) : Prop where
  cl : Cls K C
  n : NoAttr K C "n"
  counts : NoAttr K C "counts"
  liars : NoAttr K C "liars"
  first : NoAttr K C "first"
  value : NoAttr K C "_value"
  ears : NoAttr K C "_ears"
  slips : NoAttr K C "_slips"
  put : NoAttr K C "_put_ever"
  log : NoAttr K C "_log"
section
variable {P : Program} {w : World} {K : PySem.W.Frag} {mg : Str → Option Value} {base : Heap}
def spHon (C CE : Addr) : Sp := fun vs H Q _ => ∃ (A : SA) (S : MS) (h : Int), vs = [.ref A.p, .int h] ∧ SpAt C CE A S H ∧ Q (.bl (honest S h)) H
theorem scHon : FnScope ["self", "hand"] ["self", "hand"] (defScope s_Spread_is_honest) := ⟨rfl, rfl, rfl, by decide +kernel, rfl, by decide +kernel, by decide +kernel⟩
theorem ok_hon {f C CE fI : Addr} {fd fdI : FuncData} (F : Fun K "_is_honest" "Spread._is_honest" s_Spread_is_honest f fd) (TS : TxS K C) (cI : Ca P w K mg base 3 "is_hand" ["value", "n"] spIsHand fI fdI) : FnOk P w K mg base CX0 4 f fd ["self", "hand"] (spHon C CE) := by
  refine F.ok scHon (fun vs H Q E h => ?_) (fun cdv A outer s H vs Q E hr h => ?_)
  · obtain ⟨A, S, h, rfl, _⟩ := h
    rfl
  · obtain ⟨A, S, h, rfl, x, k⟩ := h
    refine ⟨_, pss_one (ps_ret (pe_and (pe_ca cI hr (pa_cons (pv 1) (pa_cons (pe_fld (pv 0) rfl) pa_nil))) (pe_one (pe_cmpR op_notIn_seq (pv 1) (pe_fld (pv 0) rfl) (by rfl))))), ?_⟩
    refine ⟨_, rfl, _, rfl, A.p, C, A.dx, _, _, rfl, x.ob, TS.cl, TS.n, rfl, h, (S.n : Int), rfl, _, rfl, ?_⟩
    unfold honest at k
    by_cases c : 0 ≤ h ∧ h < (S.n : Int)
    · rw [decide_eq_true c] at k ⊢
      refine iteT ⟨_, rfl, _, rfl, A.p, C, A.dx, _, _, rfl, x.ob, TS.cl, TS.liars, rfl, A.tl, _, rfl, .inr (SqT.of x.tl), rfl, flat_ints _, ?_⟩
      rw [inV_int]
      exact k
    · rw [decide_eq_false c] at k ⊢
      exact iteF k
abbrev nPut : List Str := ["self", "sender", "to", "kind", "value", "number"]
theorem scPut : FnScope nPut ["self", "sender", "to", "kind", "value"] (defScope s_Spread_put) := ⟨rfl, rfl, rfl, by decide +kernel, rfl, by decide +kernel, by decide +kernel⟩
def spPut (C CE : Addr) : Sp := fun vs H Q _ => ∃ (A : SA) (S : MS) (s : Sl), vs = [.ref A.p, .int s.frm, .int s.to, .str (ks s.kd), .int s.val] ∧ SpAt C CE A S H ∧ Apart C CE A ∧ S.slips.length ≤ 10000 ∧ (∀ x ∈ S.slips, x.1 < S.put) ∧
  ∀ H', SpAt C CE A (put1 S s) H' → KeepF A H H' → Q (.int S.put) H'
theorem ok_put {f C CE : Addr} {fd : FuncData} (F : Fun K "_put" "Spread._put" s_Spread_put f fd) (TS : TxS K C) : FnOk P w K mg base CX0 1 f fd ["self", "sender", "to", "kind", "value"] (spPut C CE) := by
  refine F.ok scPut (fun vs H Q E h => ?_) (fun cdv A outer s H vs Q E hr h => ?_)
  · obtain ⟨A, S, s, rfl, _⟩ := h
    rfl
  · obtain ⟨A, S, sl, rfl, x, ap, hlen, hlt, k⟩ := h
    have hu := hu_of hr
    obtain ⟨sg, es, hds, hsg⟩ := x.ds
    obtain ⟨lz, el, hlg, hlz⟩ := x.lg
    have pds : A.p ≠ A.ds := ne_of x.ob hds (by intro z; cases z)
    have plg : A.p ≠ A.lg := ne_of x.ob hlg (by intro z; cases z)
    have dlg : A.ds ≠ A.lg := ne_of hds hlg (by intro z; cases z)
    refine ⟨_, pss_cons (ps_set (i := 5) scPut.nd rfl (Or.inl rfl) (pe_fld (pv 0) rfl))
      (pss_cons (ps_dput hu (pe_fld (pv 0) rfl) (pv 5) (pe_tup (pa_cons (pv 1) (pa_cons (pv 2) (pa_cons (pv 3) (pa_cons (pv 4) pa_nil))))) rfl)
      (pss_cons (ps_fldaug (pv 0) pe_int in_add)
      (pss_one (ps_ret (pv 5))))), ?_⟩
    refine ⟨_, rfl, A.p, C, A.dx, _, _, rfl, x.ob, TS.cl, TS.put, rfl, ?_⟩
    refine ⟨_, rfl, _, rfl, _, rfl, _, rfl, (by show 4 ≤ sizeLine; decide), fun t ht => ?_⟩
    have tp : t ≠ A.p := fun q => by rw [q, x.ob] at ht; cases ht
    have td : t ≠ A.ds := fun q => by rw [q, hds] at ht; cases ht
    have tg : t ≠ A.lg := fun q => by rw [q, hlg] at ht; cases ht
    refine ⟨_, rfl, A.p, C, A.dx, _, _, rfl, (upd_ne tp.symm).trans x.ob, TS.cl, TS.slips, rfl, _, rfl, A.ds, _, rfl, DPut.k (k := Sum.inl (S.put : Int)) ((upd_ne td.symm).trans hds) ?_, ?_⟩
    · have : sg.length = S.slips.length := by rw [← es, List.length_map]
      rw [List.length_map, this]
      exact Nat.lt_of_le_of_lt hlen (by decide)
    have hp2 : ∀ o, (upd (upd H t (.tup (slV sl))) A.ds o) A.p = some (.ins C A.dx (spF A S)) := fun o => (upd_ne pds).trans ((upd_ne tp.symm).trans x.ob)
    refine ⟨_, rfl, A.p, C, A.dx, _, _, rfl, hp2 _, TS.cl, TS.put, rfl, _, _, rfl, rfl, A.dx, _, hp2 _, (by show 9 < 1000; decide), _, rfl, ?_⟩
    have hv : valV (sg.map fun x => (Sum.inl x.1.1, V.ref x.2)) (Sum.inl (S.put : Int) : Key) = none := by
      cases e : valV (sg.map fun x => ((Sum.inl x.1.1 : Key), V.ref x.2)) (Sum.inl (S.put : Int) : Key) with
      | none => rfl
      | some v =>
        have m := valV_in e
        rw [List.map_map] at m
        obtain ⟨y, hy, ey⟩ := List.mem_map.mp m
        have ey : y.1.1 = (S.put : Int) := Sum.inl.inj ey
        have := hlt y.1 (by rw [← es]; exact List.mem_map_of_mem hy)
        omega
    refine k _ (x.re ap (fun b o e h1 h2 h3 => ?_) ?_ ⟨sg ++ [(((S.put : Int), sl), t)], by rw [List.map_append, es]; rfl, ?_, ?_⟩ ⟨lz, el, ?_, fun y hy => ?_⟩) ?_
    · rw [upd_ne h1, upd_ne h2, upd_ne (ne_of_none e ht)]
      exact e
    · rw [upd_same]
      rfl
    · rw [upd_ne pds.symm, upd_same, putK_new _ hv, List.map_append]
      rfl
    · intro y hy
      rcases List.mem_append.mp hy with q | q
      · have h := hsg y q
        rw [upd_ne (ne_of h x.ob (by intro z; cases z)), upd_ne (ne_of h hds (by intro z; cases z)), upd_ne (ne_of_none h ht)]
        exact h
      · rw [List.mem_singleton.mp q]
        show upd _ A.p _ t = _
        rw [upd_ne tp, upd_ne td, upd_same]
        rfl
    · rw [upd_ne plg.symm, upd_ne dlg.symm, upd_ne tg.symm]
      exact hlg
    · have h := hlz y hy
      rw [upd_ne (ne_of h x.ob (by intro z; cases z)), upd_ne (ne_of h hds (by intro z; cases z)), upd_ne (ne_of_none h ht)]
      exact h
    · exact keepF_upd (keepF_upd (keepF_upd (KeepF.refl A H) (.inr ht)) (.inl (.inr (.inl rfl)))) (.inl (.inl rfl))
end
end Spr
namespace Spr
open PySem L2
theorem putTo_len (S : MS) (snd : Int) (k : Kd) (v : Int) (i : Nat) : (putTo S snd k v i).slips.length ≤ S.slips.length + i := by
  induction i with
  | zero => exact Nat.le_refl _
  | succ i ih =>
    unfold putTo
    split
    · show ((putTo S snd k v i).slips ++ [_]).length ≤ _
      rw [List.length_append]
      show _ + 1 ≤ _
      omega
    · omega
theorem put1_wf {S : MS} {s : Sl} (w : WfS S) (h : WfSl S s) : WfS (put1 S s) := by
  refine ⟨w.n2, w.n12, w.el, w.ears, fun x hx => ?_, ?_, fun x hx => ?_, w.lin, w.f0, w.f1⟩
  · rcases List.mem_append.mp hx with q | q
    · obtain ⟨a, b, c, d, e, f⟩ := w.sl x q
      exact ⟨a, b, c, d, e, f⟩
    · rw [List.mem_singleton.mp q]
      exact ⟨h.f0, h.f1, h.t0, h.t1, h.th, h.ne⟩
  · show ((S.slips ++ [((S.put : Int), s)]).map (·.1)).Pairwise (· < ·)
    rw [List.map_append]
    refine List.pairwise_append.mpr ⟨w.asc, List.pairwise_singleton _ _, fun a ha b hb => ?_⟩
    obtain ⟨x, hx, rfl⟩ := List.mem_map.mp ha
    rw [List.mem_singleton.mp hb]
    exact w.lt x hx
  · show x.1 < ((S.put + 1 : Nat) : Int)
    rcases List.mem_append.mp hx with q | q
    · have := w.lt x q
      omega
    · rw [List.mem_singleton.mp q]
      show (S.put : Int) < _
      omega
theorem hears_iff {S : MS} {snd : Int} {i : Nat} : hears S snd i = true ↔ (i : Int) ≠ snd ∧ (i : Int) ∉ S.liars := by
  unfold hears inI
  simp
theorem hears_putTo (S : MS) (snd snd' : Int) (k : Kd) (v : Int) (i j : Nat) : hears (putTo S snd k v i) snd' j = hears S snd' j := by
  unfold hears
  rw [(putTo_keeps S snd k v i).2.2.2.2.1]
theorem putTo_wf {S : MS} {snd : Int} {k : Kd} {v : Int} (w : WfS S) (h0 : 0 ≤ snd) (h1 : snd < S.n) : ∀ i, i ≤ S.n → WfS (putTo S snd k v i)
  | 0, _ => w
  | i + 1, hi => by
    have ih := putTo_wf w h0 h1 (k := k) (v := v) i (by omega)
    unfold putTo
    split
    · rename_i c
      obtain ⟨c1, c2⟩ := hears_iff.mp c
      have q := putTo_keeps S snd k v i
      refine put1_wf ih ⟨h0, by rw [q.1]; exact h1, Int.natCast_nonneg i, by rw [q.1]; show (i : Int) < _; omega, by rw [q.2.2.2.2.1]; exact c2, fun z => c1 z.symm⟩
    · exact ih
theorem putAll_wf {S : MS} {snd : Int} {k : Kd} {v : Int} (w : WfS S) (h0 : 0 ≤ snd) (h1 : snd < S.n) : WfS (putAll S snd k v) := putTo_wf w h0 h1 S.n (Nat.le_refl _)
theorem putSends_wf {hand : Int} : ∀ (xs : List (Kd × Int)) {S : MS}, WfS S → 0 ≤ hand → hand < S.n → WfS (putSends S hand xs)
  | [], _, w, _, _ => w
  | x :: xs, S, w, h0, h1 => by
    unfold putSends
    exact putSends_wf xs (putAll_wf w h0 h1) h0 (by show hand < ((putAll S hand x.1 x.2).n : Int); rw [show (putAll S hand x.1 x.2).n = S.n from (putTo_keeps S hand x.1 x.2 S.n).1]; exact h1)
theorem putSends_snoc (hand : Int) : ∀ (xs : List (Kd × Int)) (x : Kd × Int) (S : MS), putSends S hand (xs ++ [x]) = putAll (putSends S hand xs) hand x.1 x.2
  | [], _, _ => rfl
  | y :: ys, x, S => by
    show putSends (putAll S hand y.1 y.2) hand (ys ++ [x]) = _
    rw [putSends_snoc hand ys x]
    rfl
theorem putSends_len (hand : Int) : ∀ (xs : List (Kd × Int)) (S : MS), S.n ≤ 12 → (putSends S hand xs).slips.length ≤ S.slips.length + 12 * xs.length
  | [], S, _ => Nat.le_refl _
  | x :: xs, S, h => by
    have h1 := putTo_len S hand x.1 x.2 S.n
    have e : (putAll S hand x.1 x.2).n = S.n := (putTo_keeps S hand x.1 x.2 S.n).1
    have h2 := putSends_len hand xs (putAll S hand x.1 x.2) (by rw [e]; exact h)
    unfold putSends
    rw [List.length_cons]
    have h3 : (putAll S hand x.1 x.2).slips.length ≤ S.slips.length + S.n := h1
    omega
theorem doDue_len (hand e r d v : Int) (E : ME) : (doDue hand e r d v E).2.length ≤ 2 := by
  have h1 := due1_x (hand := hand) (E := E)
  have h2 : (due2 hand e r v (due1 hand E).1).2.length ≤ 1 := by
    unfold due2
    split
    · exact Nat.le_refl _
    · exact Nat.zero_le _
  show ((due1 hand E).2 ++ _).length ≤ 2
  rw [List.length_append]
  omega
theorem setEar_wf {S : MS} {j : Nat} {E' : ME} (w : WfS S) (h : WfEar S.n j E') : WfS { S with ears := S.ears.set j E' } := by
  refine ⟨w.n2, w.n12, by show (S.ears.set j E').length = S.n; rw [List.length_set]; exact w.el, fun i E hi => ?_, fun x hx => ?_, w.asc, w.lt, w.lin, w.f0, w.f1⟩
  · by_cases e : j = i
    · subst e
      have hl : j < S.ears.length := by
        have := (List.getElem?_eq_some_iff.mp hi).1
        rw [List.length_set] at this
        exact this
      have hi : (S.ears.set j E')[j]? = some E := hi
      rw [List.getElem?_set_self hl] at hi
      rw [← Option.some.inj hi]
      exact h
    · have hi : (S.ears.set j E')[i]? = some E := hi
      rw [List.getElem?_set_ne e] at hi
      exact w.ears i E hi
  · obtain ⟨a, b, c, d, e, f⟩ := w.sl x hx
    exact ⟨a, b, c, d, e, f⟩
theorem earOf_at {S : MS} (w : WfS S) {hand : Int} (h0 : 0 ≤ hand) (h1 : hand < S.n) : S.ears[hand.toNat]? = some (earOf S hand) := by
  unfold earOf
  have : hand.toNat < S.ears.length := by
    have := w.el
    omega
  rw [List.getD_eq_getElem?_getD, List.getElem?_eq_getElem this]
  rfl
theorem hearS_wf {S : MS} (w : WfS S) {hand snd : Int} {k : Kd} {v : Int} (h0 : 0 ≤ hand) (h1 : hand < S.n) (s0 : 0 ≤ snd) (s1 : snd < S.n) (hs : k ≠ .said → snd ≠ hand) : WfS (hearS S hand snd k v) := by
  have e := earOf_at w h0 h1
  have we := w.ears _ _ e
  rw [Int.toNat_of_nonneg h0] at we
  unfold hearS
  refine putSends_wf _ (setEar_wf w ?_) h0 h1
  rw [Int.toNat_of_nonneg h0]
  exact hear_wf we hs s0 s1 h0 h1
section
variable {C CE : Addr} {A : SA} {S : MS} {H H' : Hp}
theorem nodup_at {α : Type} {l : List α} (h : l.Nodup) {i j : Nat} {x y : α} (a : l[i]? = some x) (b : l[j]? = some y) (ne : i ≠ j) : x ≠ y := fun q => ne (nd_ix h a (q ▸ b))
/-- an ear hears -/
theorem SpAt.ear (x : SpAt C CE A S H) (ap : Apart C CE A) {j : Nat} {y : EA} {E' : ME} (hy : A.es[j]? = some y) (kp : KeepE H H' y.a y.d1 y.d2) (ea : EarAt CE H' y.a y.dx y.d1 y.d2 j A.tc S.first E') : SpAt C CE A { S with ears := S.ears.set j E' } H' := by
  have hl : j < S.ears.length := by
    rw [← x.el]
    exact (List.getElem?_eq_some_iff.mp hy).1
  have q0 := x.ears j y _ hy (List.getElem?_eq_getElem hl)
  obtain ⟨sg, es, hds, hsg⟩ := x.ds
  obtain ⟨lz, el, hlg, hlz⟩ := x.lg
  obtain ⟨nds, ndd⟩ := List.nodup_cons.mp ap.ndd
  have hym := List.mem_of_getElem? hy
  have dsd1 : A.ds ≠ y.d1 := fun z => nds (by rw [z]; exact List.mem_append_left _ (List.mem_map_of_mem hym))
  have dsd2 : A.ds ≠ y.d2 := fun z => nds (by rw [z]; exact List.mem_append_right _ (List.mem_map_of_mem hym))
  have kt : ∀ {b : Addr} {o : HO}, H b = some o → (∀ C' dx fs, o ≠ .ins C' dx fs) → (∀ m, o ≠ .dK m) → H' b = some o := fun {b o} e n1 n2 => kp b o e (ne_of e q0.ob (n1 _ _ _)) (ne_of e q0.h1 (n2 _)) (ne_of e q0.h2 (n2 _))
  refine ⟨kp _ _ x.ob (ne_of x.ob q0.ob (by intro z; injection z with z; exact ap.cc z)) (ne_of x.ob q0.h1 (by intro z; cases z)) (ne_of x.ob q0.h2 (by intro z; cases z)), kt x.tc (by intro _ _ _ z; cases z) (by intro _ z; cases z), kt x.tl (by intro _ _ _ z; cases z) (by intro _ z; cases z), kt x.le (by intro _ _ _ z; cases z) (by intro _ z; cases z),
    by show A.es.length = (S.ears.set j E').length; rw [List.length_set]; exact x.el, fun i z E h1 h2 => ?_, ⟨sg, es, kp _ _ hds (ne_of hds q0.ob (by intro z; cases z)) dsd1 dsd2, fun z hz => kt (hsg z hz) (by intro _ _ _ z; cases z) (by intro _ z; cases z)⟩,
    ⟨lz, el, kt hlg (by intro _ _ _ z; cases z) (by intro _ z; cases z), fun z hz => kt (hlz z hz) (by intro _ _ _ z; cases z) (by intro _ z; cases z)⟩⟩
  have h2 : (S.ears.set j E')[i]? = some E := h2
  by_cases e : j = i
  · subst e
    rw [List.getElem?_set_self hl] at h2
    rw [hy] at h1
    cases h1
    rw [← Option.some.inj h2]
    exact ea
  · rw [List.getElem?_set_ne e] at h2
    have q := x.ears i z E h1 h2
    have mp : ∀ (f : EA → Addr), (A.es.map f)[i]? = some (f z) := fun f => by rw [List.getElem?_map, h1]; rfl
    have mj : ∀ (f : EA → Addr), (A.es.map f)[j]? = some (f y) := fun f => by rw [List.getElem?_map, hy]; rfl
    obtain ⟨n1, n2, n3⟩ := List.nodup_append.mp ndd
    have za : z.a ≠ y.a := nodup_at ap.nda (mp (·.a)) (mj (·.a)) (Ne.symm e)
    have z1 : z.d1 ≠ y.d1 := nodup_at n1 (mp (·.d1)) (mj (·.d1)) (Ne.symm e)
    have z2 : z.d2 ≠ y.d2 := nodup_at n2 (mp (·.d2)) (mj (·.d2)) (Ne.symm e)
    have z12 : z.d1 ≠ y.d2 := n3 _ (List.mem_of_getElem? (mp (·.d1))) _ (List.mem_of_getElem? (mj (·.d2)))
    have z21 : z.d2 ≠ y.d1 := Ne.symm (n3 _ (List.mem_of_getElem? (mj (·.d1))) _ (List.mem_of_getElem? (mp (·.d2))))
    exact ⟨kp _ _ q.ob za (ne_of q.ob q0.h1 (by intro z; cases z)) (ne_of q.ob q0.h2 (by intro z; cases z)), kp _ _ q.h1 (ne_of q.h1 q0.ob (by intro z; cases z)) z1 z12, kp _ _ q.h2 (ne_of q.h2 q0.ob (by intro z; cases z)) z21 z2, q.ne⟩
end
section
variable {P : Program} {w : World} {K : PySem.W.Frag} {mg : Str → Option Value} {base : Heap}
abbrev nPutAll : List Str := ["self", "sender", "kind", "value", "to"]
theorem scPutAll : FnScope nPutAll ["self", "sender", "kind", "value"] (defScope s_Spread_put_to_all) := ⟨rfl, rfl, rfl, by decide +kernel, rfl, by decide +kernel, by decide +kernel⟩
def spPutAll (C CE : Addr) : Sp := fun vs H Q _ => ∃ (A : SA) (S : MS) (snd : Int) (k : Kd) (v : Int), vs = [.ref A.p, .int snd, .str (ks k), .int v] ∧ SpAt C CE A S H ∧ Apart C CE A ∧ WfS S ∧ 0 ≤ snd ∧ snd < S.n ∧ S.slips.length ≤ 9000 ∧
  ∀ H', SpAt C CE A (putAll S snd k v) H' → KeepF A H H' → Q .non H'
theorem ok_putAll {f C CE fP : Addr} {fd fdP : FuncData} (F : Fun K "_put_to_all" "Spread._put_to_all" s_Spread_put_to_all f fd) (T : Bn mg) (TS : TxS K C) (cP : Me P w K mg base 1 C "_put" ["self", "sender", "to", "kind", "value"] (spPut C CE) fP fdP) : FnOk P w K mg base CX0 2 f fd ["self", "sender", "kind", "value"] (spPutAll C CE) := by
  refine F.ok scPutAll (fun vs H Q E h => ?_) (fun cdv A outer s H vs Q E hr h => ?_)
  · obtain ⟨A, S, snd, k, v, rfl, _⟩ := h
    rfl
  · obtain ⟨A, S, snd, k, v, rfl, x, ap, wf, s0, s1, hlen, kk⟩ := h
    refine ⟨_, pss_one (ps_for PassesOwn.never rfl (pi_range1 rfl T.range (pa_cons (pe_fld (pv 0) rfl) pa_nil)) (pg_name (i := 4) scPutAll.nd rfl (Or.inl rfl))
      (pss_one (ps_if (PW.pt (pw_and (pt_cmpR op_ne (pv 4) (pv 1) (nomark _)) (pw_and1 (pt_cmpR op_notIn_seq (pv 4) (pe_fld (pv 0) rfl) (by rfl)))))
        (pss_one (ps_expr (pe_me (pv 0) TS.cl cP hr (pa_cons (pv 1) (pa_cons (pv 4) (pa_cons (pv 2) (pa_cons (pv 3) pa_nil))))))) pss_nil))), ?_⟩
    have n12 := wf.n12
    refine ⟨_, rfl, A.p, C, A.dx, _, _, rfl, x.ob, TS.cl, TS.n, rfl, (S.n : Int), rfl, by omega, by omega, ?_⟩
    refine for_range (lo := 0) (n := S.n) (fun i σ H' => ∃ v4, σ = [some (.ref A.p), some (.int snd), some (.str (ks k)), some (.int v), v4] ∧ SpAt C CE A (putTo S snd k v i) H' ∧ KeepF A H H') ⟨none, rfl, x, KeepF.refl A H⟩ ?_ ?_
    · rintro i σ H' hi ⟨v4, rfl, x', kp⟩
      have e0 : (0 : Int) + (i : Int) = (i : Int) := Int.zero_add _
      rw [e0]
      refine ⟨_, rfl, _, rfl, rfl, _, rfl, ?_⟩
      have q := putTo_keeps S snd k v i
      have stay : hears S snd i = false → putTo S snd k v (i + 1) = putTo S snd k v i := fun z => by
        show (if hears S snd i = true then _ else _) = _
        rw [z]
        rfl
      by_cases c1 : (i : Int) = snd
      · rw [decide_eq_true (show V.int (i : Int) = V.int snd by rw [c1])]
        refine iteF (iteF ⟨_, rfl, ?_, kp⟩)
        rw [stay (by unfold hears; rw [decide_eq_true c1]; rfl)]
        exact x'
      · rw [decide_eq_false (show ¬ V.int (i : Int) = V.int snd from fun z => c1 (by injection z))]
        refine iteT ⟨_, rfl, _, rfl, A.p, C, A.dx, _, _, rfl, x'.ob, TS.cl, TS.liars, rfl, A.tl, _, rfl, .inr (SqT.of x'.tl), rfl, flat_ints _, _, rfl, ?_⟩
        rw [inV_int, q.2.2.2.2.1]
        by_cases c2 : (i : Int) ∈ S.liars
        · rw [show inI (i : Int) S.liars = true from decide_eq_true c2]
          refine iteF ⟨_, rfl, ?_, kp⟩
          rw [stay (by unfold hears inI; rw [decide_eq_true c2]; simp)]
          exact x'
        · rw [show inI (i : Int) S.liars = false from decide_eq_false c2]
          have go : putTo S snd k v (i + 1) = put1 (putTo S snd k v i) ⟨snd, (i : Int), k, v⟩ := by
            show (if hears S snd i = true then _ else _) = _
            rw [hears_iff.mpr ⟨c1, c2⟩]
            rfl
          refine iteT ⟨_, rfl, A.p, A.dx, _, rfl, x'.ob, rfl, _, rfl, _, rfl, _, rfl, _, rfl, A, putTo S snd k v i, ⟨snd, (i : Int), k, v⟩, rfl, x', ap, ?_, (putTo_wf wf s0 s1 i (by omega)).lt, fun H2 x2 kp2 => ⟨_, rfl, ?_, kp.trans kp2⟩⟩
          · have := putTo_len S snd k v i
            omega
          · rw [go]
            exact x2
    · rintro σ H' ⟨v4, rfl, x', kp⟩
      exact kk H' x' kp
abbrev nHearS : List Str := ["self", "hand", "sender", "kind", "value", "due_kind", "due_value"]
theorem scHearS : FnScope nHearS ["self", "hand", "sender", "kind", "value"] (defScope s_Spread_hear) := ⟨rfl, rfl, rfl, by decide +kernel, rfl, by decide +kernel, by decide +kernel⟩
def spHearS (C CE : Addr) : Sp := fun vs H Q _ => ∃ (A : SA) (S : MS) (hand snd : Int) (k : Kd) (v : Int), vs = [.ref A.p, .int hand, .int snd, .str (ks k), .int v] ∧ SpAt C CE A S H ∧ Apart C CE A ∧ WfS S ∧ 0 ≤ hand ∧ hand < S.n ∧ 0 ≤ snd ∧ snd < S.n ∧ (k ≠ .said → snd ≠ hand) ∧ S.slips.length ≤ 8000 ∧
  ∀ H', SpAt C CE A (hearS S hand snd k v) H' → KeepF A H H' → Q .non H'
theorem ok_hearS {f C CE fP fH : Addr} {fd fdP fdH : FuncData} (F : Fun K "_hear" "Spread._hear" s_Spread_hear f fd) (TS : TxS K C) (TE : TxE K CE) (cP : Me P w K mg base 2 C "_put_to_all" ["self", "sender", "kind", "value"] (spPutAll C CE) fP fdP) (cH : Me P w K mg base 3 CE "hear" nHear (spHear CE) fH fdH) : FnOk P w K mg base CX0 4 f fd ["self", "hand", "sender", "kind", "value"] (spHearS C CE) := by
  refine F.ok scHearS (fun vs H Q E h => ?_) (fun cdv A outer s H vs Q E hr h => ?_)
  · obtain ⟨A, S, hand, snd, k, v, rfl, _⟩ := h
    rfl
  · obtain ⟨A, S, hand, snd, k, v, rfl, x, ap, wf, h0, h1, s0, s1, hs, hlen, kk⟩ := h
    have hr2 := hr.mono (show 2 ≤ 3 by decide)
    refine ⟨_, pss_one (ps_for PassesOwn.never rfl (pi_list (pe_me (pe_ix ix_list (pe_fld (pv 0) rfl) (pv 1) (fun _ _ => rfl)) TE.cl cH hr (pa_cons (pv 3) (pa_cons (pv 2) (pa_cons (pv 4) pa_nil))))) (pg_tup rfl (pgs_cons (pg_name (i := 5) scHearS.nd rfl (Or.inl rfl)) (pgs_cons (pg_name (i := 6) scHearS.nd rfl (Or.inl rfl)) pgs_nil)))
      (pss_one (ps_expr (pe_me (pv 0) TS.cl cP hr2 (pa_cons (pv 1) (pa_cons (pv 5) (pa_cons (pv 6) pa_nil))))))), ?_⟩
    obtain ⟨j, rfl⟩ : ∃ j : Nat, hand = (j : Int) := ⟨hand.toNat, by omega⟩
    have hj : j < A.es.length := by
      rw [x.el, wf.el]
      omega
    obtain ⟨y, hy⟩ : ∃ y, A.es[j]? = some y := ⟨A.es[j], List.getElem?_eq_getElem hj⟩
    have he := earOf_at wf h0 h1
    rw [Int.toNat_natCast] at he
    have q := x.ears j y _ hy he
    have we := (wf.ears _ _ he).wfE wf.n12
    refine ⟨_, rfl, A.p, C, A.dx, _, _, rfl, x.ob, TS.cl, TS.ears, rfl, _, rfl, A.le, _, _, _, rfl, rfl, SqL.of x.le, at_of (j := j) (v := .ref y.a) rfl (by rw [List.getElem?_map, hy]; rfl), y.a, y.dx, _, rfl, q.ob, rfl, _, rfl, _, rfl, _, rfl,
      y.a, y.dx, y.d1, y.d2, A.tc, (j : Int), S.first, S.e, S.r, S.d, k, snd, v, _, rfl, q, x.tc, ⟨Nat.le_trans we.l1 (by decide), Nat.le_trans we.l2 (by decide), we.n1, we.n2⟩, hs, fun l H1 dd => ?_⟩
    obtain ⟨as, hl, hsn⟩ := dd.lst
    have hlen2 : (hear (j : Int) S.first S.e S.r S.d k snd v (earOf S (j : Int))).2.length ≤ 2 := doDue_len _ _ _ _ _ _
    have x1 : SpAt C CE A { S with ears := S.ears.set j (hear (j : Int) S.first S.e S.r S.d k snd v (earOf S (j : Int))).1 } H1 := x.ear ap hy dd.keep dd.ear
    have w1 : WfS { S with ears := S.ears.set j (hear (j : Int) S.first S.e S.r S.d k snd v (earOf S (j : Int))).1 } := setEar_wf wf (hear_wf (wf.ears _ _ he) hs s0 s1 h0 h1)
    have eq : hearS S (j : Int) snd k v = putSends { S with ears := S.ears.set j (hear (j : Int) S.first S.e S.r S.d k snd v (earOf S (j : Int))).1 } (j : Int) (hear (j : Int) S.first S.e S.r S.d k snd v (earOf S (j : Int))).2 := rfl
    have kp1 : KeepF A H H1 := keepE_F (List.mem_of_getElem? hy) dd.keep
    have nl : ¬ Fp A l := x.fp dd.l0
    rw [eq] at kk
    generalize (hear (j : Int) S.first S.e S.r S.d k snd v (earOf S (j : Int))).2 = xs at kk hsn hlen2
    generalize hS1 : ({ S with ears := S.ears.set j (hear (j : Int) S.first S.e S.r S.d k snd v (earOf S (j : Int))).1 } : MS) = S1 at kk x1 w1
    have n1 : S1.n = S.n := by rw [← hS1]
    have sl1 : S1.slips = S.slips := by rw [← hS1]
    refine ⟨l, rfl, ⟨_, SqL.of hl⟩, for_list (K := K) (a := l) (xs := as.map V.ref) (fun i σ H' => ∃ v5 v6, σ = [some (.ref A.p), some (.int (j : Int)), some (.int snd), some (.str (ks k)), some (.int v), v5, v6] ∧ SpAt C CE A (putSends S1 (j : Int) (xs.take i)) H' ∧ KeepF A H1 H')
      ⟨none, none, rfl, x1, KeepF.refl A H1⟩ (fun i σ H' _ ⟨_, _, _, _, kp⟩ => SqL.of (kp _ _ hl nl)) ?_ ?_⟩
    · rintro i u σ H' hi ⟨v5, v6, rfl, x', kp⟩
      rw [List.getElem?_map] at hi
      obtain ⟨t, ht, rfl⟩ : ∃ t, as[i]? = some t ∧ u = V.ref t := by
        cases e : as[i]? with
        | none => rw [e] at hi; cases hi
        | some t => rw [e] at hi; exact ⟨t, rfl, (Option.some.inj hi).symm⟩
      obtain ⟨z, hz, htu⟩ := hsn.at ht
      have htk := x1.tupF htu
      have hil : i < xs.length := (List.getElem?_eq_some_iff.mp hz).1
      have tl := putSends_len (j : Int) (xs.take i) S1 (by rw [n1]; exact wf.n12)
      have nk := (putSends_keeps (j : Int) (xs.take i) S1).1
      refine ⟨t, _, rfl, SqT.of (kp _ _ htu htk), rfl, _, _, rfl, _, _, rfl, rfl, ?_⟩
      refine ⟨_, rfl, A.p, A.dx, _, rfl, x'.ob, rfl, _, rfl, _, rfl, _, rfl, A, putSends S1 (j : Int) (xs.take i), (j : Int), z.1, z.2, rfl, x', ap, putSends_wf _ w1 h0 (by rw [n1]; exact h1), h0, by rw [nk, n1]; exact h1, ?_, fun H2 x2 kp2 => ⟨_, _, rfl, ?_, kp.trans kp2⟩⟩
      · rw [List.length_take] at tl
        rw [sl1] at tl
        omega
      · rw [List.take_add_one, hz]
        show SpAt C CE A (putSends S1 (j : Int) (xs.take i ++ [z])) H2
        rw [putSends_snoc]
        exact x2
    · rintro σ H' ⟨v5, v6, rfl, x', kp⟩
      rw [List.length_map, hsn.len, List.take_of_length_le (Nat.le_refl _)] at x'
      exact kk H' x' (kp1.trans kp)
end
end Spr
namespace Spr
open PySem L2
/-! ### deliver -/
def popLog (S : MS) (k : Int) : MS := { S with slips := S.slips.filter (fun x => decide (¬ x.1 = k)), put := S.put, log := S.log ++ [.deliver k] }
theorem dlv_eq (S : MS) (k : Int) (s : Sl) : dlv S k s = hearS (popLog S k) s.to s.frm s.kd s.val := rfl
theorem popLog_wf {S : MS} (w : WfS S) (k : Int) : WfS (popLog S k) := by
  refine ⟨w.n2, w.n12, w.el, w.ears, fun x hx => ?_, ?_, fun x hx => w.lt x (List.mem_filter.mp hx).1, w.lin, w.f0, w.f1⟩
  · obtain ⟨a, b, c, d, e, f⟩ := w.sl x (List.mem_filter.mp hx).1
    exact ⟨a, b, c, d, e, f⟩
  · exact List.Pairwise.sublist (List.Sublist.map _ List.filter_sublist) w.asc
theorem dlv_wf {S : MS} (w : WfS S) {k : Int} {s : Sl} (h : (k, s) ∈ S.slips) : WfS (dlv S k s) := by
  obtain ⟨a, b, c, d, e, f⟩ := w.sl _ h
  rw [dlv_eq]
  exact hearS_wf (popLog_wf w k) c d a b fun _ => f
theorem valV_mem {kvs : List (Key × V)} {k : Key} {v : V} (nd : (kvs.map (·.1)).Nodup) (h : (k, v) ∈ kvs) : valV kvs k = some v := by
  unfold valV
  induction kvs with
  | nil => cases h
  | cons p r ih =>
    obtain ⟨n1, n2⟩ := List.nodup_cons.mp nd
    by_cases e : p.1 = k
    · rw [List.find?_cons_of_pos (by simp [e])]
      rcases List.mem_cons.mp h with q | q
      · rw [← q]
        rfl
      · exact absurd (List.mem_map_of_mem (f := (·.1)) q) (by rw [← e] at *; exact n1)
    · rw [List.find?_cons_of_neg (by simp [e])]
      rcases List.mem_cons.mp h with q | q
      · exact absurd (by rw [← q]) e
      · exact ih n2 q
theorem asc_nodup {l : List Int} (h : l.Pairwise (· < ·)) : l.Nodup := h.imp fun h => by omega
section
variable {P : Program} {w : World} {K : PySem.W.Frag} {mg : Str → Option Value} {base : Heap}
abbrev nDel : List Str := ["self", "number", "sender", "to", "kind", "value"]
theorem scDel : FnScope nDel ["self", "number"] (defScope s_Spread_deliver) := ⟨rfl, rfl, rfl, by decide +kernel, rfl, by decide +kernel, by decide +kernel⟩
def spDel (C CE : Addr) : Sp := fun vs H Q _ => ∃ (A : SA) (S : MS) (k : Int) (s : Sl), vs = [.ref A.p, .int k] ∧ SpAt C CE A S H ∧ Apart C CE A ∧ WfS S ∧ (k, s) ∈ S.slips ∧ S.slips.length ≤ 7000 ∧ S.log.length ≤ 7000 ∧
  ∀ H', SpAt C CE A (dlv S k s) H' → KeepF A H H' → Q .non H'
theorem ok_del {f C CE fI fH : Addr} {fd fdI fdH : FuncData} (F : Fun K "deliver" "Spread.deliver" s_Spread_deliver f fd) (TS : TxS K C) (cI : Ca P w K mg base 1 "is_integer" ["value"] spIsInt fI fdI) (cH : Me P w K mg base 4 C "_hear" ["self", "hand", "sender", "kind", "value"] (spHearS C CE) fH fdH) : FnOk P w K mg base CX0 5 f fd ["self", "number"] (spDel C CE) := by
  refine F.ok scDel (fun vs H Q E h => ?_) (fun cdv A outer s H vs Q E hr h => ?_)
  · obtain ⟨A, S, k, s, rfl, _⟩ := h
    rfl
  · obtain ⟨A, S, k, s, rfl, x, ap, wf, hm, hlen, hlog, kk⟩ := h
    have hu := hu_of hr
    have hr1 := hr.mono (show 1 ≤ 4 by decide)
    refine ⟨_, pss_cons (ps_if (PW.pt (pw_or (pt_not (pt_val (pe_ca cI hr1 (pa_cons (pv 1) pa_nil)))) (pw_or1 (pt_cmp (pc_dnotin hu (pv 1) (pe_fld (pv 0) rfl)))))) pss_never pss_nil)
      (pss_cons (ps_asg (pe_dpop1 (pe_fld (pv 0) rfl) (pv 1) ⟨rfl, rfl, rfl, rfl⟩) (pg_tup rfl (pgs_cons (pg_name (i := 2) scDel.nd rfl (Or.inl rfl)) (pgs_cons (pg_name (i := 3) scDel.nd rfl (Or.inl rfl)) (pgs_cons (pg_name (i := 4) scDel.nd rfl (Or.inl rfl)) (pgs_cons (pg_name (i := 5) scDel.nd rfl (Or.inl rfl)) pgs_nil))))))
      (pss_cons (ps_expr (pe_bm PySem.F.plainAttrs_list PySem.F.slot_list_append PySem.F.type_list_append mt_append (pe_fld (pv 0) rfl) (pa_cons (pe_tup (pa_cons pe_str (pa_cons (pv 1) pa_nil))) pa_nil)))
      (pss_one (ps_expr (pe_me (pv 0) TS.cl cH hr (pa_cons (pv 3) (pa_cons (pv 2) (pa_cons (pv 4) (pa_cons (pv 5) pa_nil))))))))), ?_⟩
    obtain ⟨sg, es, hds, hsg⟩ := x.ds
    obtain ⟨lz, el, hlg, hlz⟩ := x.lg
    have pds : A.p ≠ A.ds := ne_of x.ob hds (by intro z; cases z)
    have plg : A.p ≠ A.lg := ne_of x.ob hlg (by intro z; cases z)
    have dlg : A.ds ≠ A.lg := ne_of hds hlg (by intro z; cases z)
    obtain ⟨y, hy, ey⟩ : ∃ y, y ∈ sg ∧ y.1 = (k, s) := by
      rw [← es] at hm
      obtain ⟨y, hy, e⟩ := List.mem_map.mp hm
      exact ⟨y, hy, e⟩
    have ndk : ((sg.map fun x => ((Sum.inl x.1.1 : Key), V.ref x.2)).map (·.1)).Nodup := by
      have := asc_nodup wf.asc
      rw [← es, List.map_map] at this
      rw [List.map_map]
      have e2 : (sg.map ((·.1) ∘ fun x => ((Sum.inl x.1.1 : Key), V.ref x.2))) = (sg.map ((·.1) ∘ (·.1))).map (fun i => (Sum.inl i : Key)) := by
        rw [List.map_map]
        rfl
      rw [e2]
      exact List.Pairwise.map _ (fun a b h q => h (Sum.inl.inj q)) this
    have hv : valV (sg.map fun x => ((Sum.inl x.1.1 : Key), V.ref x.2)) (Sum.inl k : Key) = some (.ref y.2) := by
      refine valV_mem ndk ?_
      refine List.mem_map.mpr ⟨y, hy, ?_⟩
      rw [ey]
    have hty := hsg y hy
    rw [ey] at hty
    refine ⟨_, rfl, k, rfl, true, rfl, iteF ?_⟩
    refine ⟨_, rfl, _, rfl, A.p, C, A.dx, _, _, rfl, x.ob, TS.cl, TS.slips, rfl, A.ds, _, rfl, DGet.k (k := Sum.inl k) hds, _, rfl, ?_⟩
    rw [hv]
    refine iteF ?_
    refine ⟨_, rfl, A.p, C, A.dx, _, _, rfl, x.ob, TS.cl, TS.slips, rfl, A.ds, rfl, .inl ⟨_, Rd.of hds⟩, _, rfl, _, Sum.inl k, _, hds, rfl, hv, ?_⟩
    have td : y.2 ≠ A.ds := ne_of hty hds (by intro z; cases z)
    refine ⟨y.2, _, rfl, SqT.of ((upd_ne td).trans hty), rfl, _, _, rfl, _, _, rfl, _, _, rfl, _, _, rfl, rfl, ?_⟩
    refine ⟨_, rfl, A.p, C, A.dx, _, _, rfl, (upd_ne pds).trans x.ob, TS.cl, TS.log, rfl, .inl ⟨rfl, _, SqL.of ((upd_ne dlg.symm).trans hlg)⟩, _, rfl, (by show 2 ≤ sizeLine; decide), fun t ht => ?_⟩
    have tds : t ≠ A.ds := fun q => by rw [q, upd_same] at ht; cases ht
    have tlg : t ≠ A.lg := fun q => by rw [q, upd_ne dlg.symm, hlg] at ht; cases ht
    have tp : t ≠ A.p := fun q => by rw [q, upd_ne pds, x.ob] at ht; cases ht
    have h0 : H t = none := by
      rw [upd_ne tds] at ht
      exact ht
    refine ⟨A.lg, _, _, rfl, rfl, (upd_ne tlg.symm).trans ((upd_ne dlg.symm).trans hlg), ?_, ?_⟩
    · rw [List.length_map]
      have : lz.length = S.log.length := by rw [← el, List.length_map]
      exact Nat.lt_of_le_of_lt (by rw [this]; exact hlog) (by decide)
    have x1 : SpAt C CE A (popLog S k) (upd (upd (upd H A.ds (.dK (dropK (sg.map fun x => ((Sum.inl x.1.1 : Key), V.ref x.2)) (Sum.inl k)))) t (.tup [.str "deliver", .int k])) A.lg (.lst ((lz.map fun x => V.ref x.2) ++ [.ref t]))) := by
      refine x.re ap (fun b o e h1 h2 h3 => ?_) ?_ ⟨sg.filter (fun x => decide (¬ x.1.1 = k)), ?_, ?_, fun z hz => ?_⟩ ⟨lz ++ [(.deliver k, t)], by rw [List.map_append, el]; rfl, by rw [upd_same, List.map_append]; rfl, fun z hz => ?_⟩
      · rw [upd_ne h3, upd_ne (ne_of_none e h0), upd_ne h2]
        exact e
      · rw [upd_ne plg, upd_ne tp.symm, upd_ne pds]
        exact x.ob
      · rw [← es, List.filter_map]
        rfl
      · rw [upd_ne dlg, upd_ne tds.symm, upd_same]
        congr 2
        unfold dropK
        rw [List.filter_map]
        congr 1
        apply List.filter_congr
        intro z _
        show decide ((Sum.inl z.1.1 : Key) ≠ Sum.inl k) = decide (¬ z.1.1 = k)
        by_cases q : z.1.1 = k
        · rw [q]; simp
        · rw [decide_eq_true (show (Sum.inl z.1.1 : Key) ≠ Sum.inl k from fun u => q (Sum.inl.inj u)), decide_eq_true q]
      · have h := hsg z (List.mem_filter.mp hz).1
        rw [upd_ne (ne_of h hlg (by intro z; cases z)), upd_ne (ne_of_none h h0), upd_ne (ne_of h hds (by intro z; cases z))]
        exact h
      · rcases List.mem_append.mp hz with q | q
        · have h := hlz z q
          rw [upd_ne (ne_of h hlg (by intro z; cases z)), upd_ne (ne_of_none h h0), upd_ne (ne_of h hds (by intro z; cases z))]
          exact h
        · rw [List.mem_singleton.mp q]
          show upd _ A.lg _ t = _
          rw [upd_ne tlg, upd_same]
          rfl
    obtain ⟨a0, a1, b0, b1, _, ne⟩ := wf.sl _ hm
    refine ⟨_, rfl, A.p, A.dx, _, rfl, x1.ob, rfl, _, rfl, _, rfl, _, rfl, _, rfl, A, popLog S k, s.to, s.frm, s.kd, s.val, rfl, x1, ap, popLog_wf wf k, b0, b1, a0, a1, fun _ => ne, ?_, fun H2 x2 kp2 => ?_⟩
    · exact Nat.le_trans (List.length_filter_le _ _) (Nat.le_trans hlen (by decide))
    · refine kk H2 x2 (KeepF.trans ?_ kp2)
      exact keepF_upd (keepF_upd (keepF_upd (KeepF.refl A H) (.inl (.inr (.inl rfl)))) (.inr h0)) (.inl (.inr (.inr (.inl rfl))))
end
end Spr
namespace Spr
open PySem L2
/-! ### rest -/
def potE (E : ME) : Nat := (if E.echoed = none then 1 else 0) + (if E.promised = none then 1 else 0)
def sumN : List Nat → Nat
  | [] => 0
  | x :: xs => x + sumN xs
def pot (S : MS) : Nat := S.slips.length + 12 * sumN (S.ears.map potE)
theorem sumN_set {f : ME → Nat} : ∀ {l : List ME} {j : Nat} {x y : ME}, l[j]? = some x → sumN ((l.set j y).map f) + f x = sumN (l.map f) + f y
  | [], j, x, y, h => by simp at h
  | a :: r, 0, x, y, h => by
    have e : a = x := Option.some.inj h
    subst e
    show f y + sumN (r.map f) + f a = f a + sumN (r.map f) + f y
    omega
  | a :: r, j + 1, x, y, h => by
    have ih := sumN_set (f := f) (l := r) (j := j) (x := x) (y := y) h
    show f a + sumN ((r.set j y).map f) + f x = f a + sumN (r.map f) + f y
    omega
theorem due1_pot (hand : Int) (E : ME) : (due1 hand E).2.length + potE (due1 hand E).1 = potE E := by
  unfold due1 potE
  obtain ⟨told, ef, pf, ec, pr, tk⟩ := E
  cases told with
  | none => simp
  | some u =>
    cases ec with
    | some z => simp
    | none =>
      show 1 + (0 + (if pr = none then 1 else 0)) = 1 + (if pr = none then 1 else 0)
      omega
theorem due2_pot (hand e r v : Int) (E : ME) : (due2 hand e r v E).2.length + potE (due2 hand e r v E).1 = potE E := by
  unfold due2
  split
  · rename_i c
    unfold potE
    rw [c.2]
    simp
    omega
  · simp
theorem due3_pot (d v : Int) (E : ME) : potE (due3 d v E) = potE E := by
  unfold due3
  split <;> rfl
theorem hear0_pot (first : Int) (k : Kd) (snd v : Int) (E : ME) : potE (hear0 first k snd v E) = potE E := by
  cases k with
  | said =>
    unfold hear0
    dsimp only
    split <;> rfl
  | echo => rfl
  | prom => rfl
theorem hear_pot (hand first e r d : Int) (k : Kd) (snd v : Int) (E : ME) : (hear hand first e r d k snd v E).2.length + potE (hear hand first e r d k snd v E).1 = potE E := by
  unfold hear doDue
  have h1 := due1_pot hand (hear0 first k snd v E)
  have h2 := due2_pot hand e r v (due1 hand (hear0 first k snd v E)).1
  rw [due3_pot, List.length_append]
  have h0 := hear0_pot first k snd v E
  omega
theorem hearS_pot {S : MS} (w : WfS S) {hand snd : Int} {k : Kd} {v : Int} (h0 : 0 ≤ hand) (h1 : hand < S.n) : pot (hearS S hand snd k v) ≤ pot S := by
  have e := earOf_at w h0 h1
  have hp := hear_pot hand S.first S.e S.r S.d k snd v (earOf S hand)
  have hs := sumN_set (f := potE) (y := (hear hand S.first S.e S.r S.d k snd v (earOf S hand)).1) e
  unfold hearS
  generalize (hear hand S.first S.e S.r S.d k snd v (earOf S hand)).2 = xs at hp
  generalize (hear hand S.first S.e S.r S.d k snd v (earOf S hand)).1 = E' at hp hs
  have hl := putSends_len hand xs { S with ears := S.ears.set hand.toNat E' } w.n12
  have hk := (putSends_keeps hand xs { S with ears := S.ears.set hand.toNat E' }).2.2.2.2.2.2.2.1
  unfold pot
  rw [hk]
  dsimp only at *
  omega
theorem filter_lt {S : MS} {k : Int} {s : Sl} (h : (k, s) ∈ S.slips) : (S.slips.filter fun x => decide (¬ x.1 = k)).length < S.slips.length := by
  have : ∀ l : List (Int × Sl), (k, s) ∈ l → (l.filter fun x => decide (¬ x.1 = k)).length < l.length := by
    intro l
    induction l with
    | nil => intro h; cases h
    | cons x r ih =>
      intro h
      by_cases e : x.1 = k
      · rw [List.filter_cons, if_neg (by simp [e]), List.length_cons]
        exact Nat.lt_succ_of_le (List.length_filter_le _ _)
      · rw [List.filter_cons, if_pos (by simp [e]), List.length_cons, List.length_cons]
        rcases List.mem_cons.mp h with q | q
        · exact absurd (by rw [← q]) e
        · exact Nat.succ_lt_succ (ih q)
  exact this _ h
theorem dlv_pot {S : MS} (w : WfS S) {k : Int} {s : Sl} (h : (k, s) ∈ S.slips) : pot (dlv S k s) < pot S := by
  obtain ⟨a, b, c, d, e, f⟩ := w.sl _ h
  rw [dlv_eq]
  refine Nat.lt_of_le_of_lt (hearS_pot (popLog_wf w k) c d) ?_
  show (S.slips.filter fun x => decide (¬ x.1 = k)).length + 12 * sumN (S.ears.map potE) < S.slips.length + 12 * sumN (S.ears.map potE)
  have := filter_lt h
  omega
def stepR (S : MS) : MS := match S.slips with
  | [] => S
  | x :: _ => dlv S x.1 x.2
def restN : Nat → MS → MS
  | 0, S => S
  | i + 1, S => restN i (stepR S)
theorem restN_succ : ∀ (i : Nat) (S : MS), restN (i + 1) S = stepR (restN i S)
  | 0, _ => rfl
  | i + 1, S => by
    show restN (i + 1) (stepR S) = stepR (restN i (stepR S))
    exact restN_succ i (stepR S)
theorem hearS_keeps (S : MS) (hand snd : Int) (k : Kd) (v : Int) : (hearS S hand snd k v).n = S.n ∧ (hearS S hand snd k v).e = S.e ∧ (hearS S hand snd k v).r = S.r ∧ (hearS S hand snd k v).d = S.d ∧ (hearS S hand snd k v).liars = S.liars ∧ (hearS S hand snd k v).first = S.first ∧ (hearS S hand snd k v).value = S.value ∧ (hearS S hand snd k v).log = S.log := by
  have h := putSends_keeps hand (hear hand S.first S.e S.r S.d k snd v (earOf S hand)).2 { S with ears := S.ears.set hand.toNat (hear hand S.first S.e S.r S.d k snd v (earOf S hand)).1 }
  exact ⟨h.1, h.2.1, h.2.2.1, h.2.2.2.1, h.2.2.2.2.1, h.2.2.2.2.2.1, h.2.2.2.2.2.2.1, h.2.2.2.2.2.2.2.2⟩
theorem dlv_log (S : MS) (k : Int) (s : Sl) : (dlv S k s).log = S.log ++ [.deliver k] := (hearS_keeps (popLog S k) s.to s.frm s.kd s.val).2.2.2.2.2.2.2
section
variable {P : Program} {w : World} {K : PySem.W.Frag} {mg : Str → Option Value} {base : Heap}
theorem scRest : FnScope ["self", "many"] ["self"] (defScope s_Spread_rest) := ⟨rfl, rfl, rfl, by decide +kernel, rfl, by decide +kernel, by decide +kernel⟩
def spRest (C CE : Addr) : Sp := fun vs H Q _ => ∃ (A : SA) (S : MS), vs = [.ref A.p] ∧ SpAt C CE A S H ∧ Apart C CE A ∧ WfS S ∧ S.log.length + pot S ≤ 7000 ∧
  ∀ (m : Nat) H', (restN m S).slips = [] → (∀ j, j < m → (restN j S).slips ≠ []) → WfS (restN m S) → (restN m S).log.length + pot (restN m S) ≤ S.log.length + pot S → SpAt C CE A (restN m S) H' → KeepF A H H' → Q (.int m) H'
theorem ok_rest {f C CE fD : Addr} {fd fdD : FuncData} (F : Fun K "rest" "Spread.rest" s_Spread_rest f fd) (T : Bn mg) (TS : TxS K C) (cD : Me P w K mg base 5 C "deliver" ["self", "number"] (spDel C CE) fD fdD) : FnOk P w K mg base CX0 6 f fd ["self"] (spRest C CE) := by
  refine F.ok scRest (fun vs H Q E h => ?_) (fun cdv A outer s H vs Q E hr h => ?_)
  · obtain ⟨A, S, rfl, _⟩ := h
    rfl
  · obtain ⟨A, S, rfl, x, ap, wf, hb, kk⟩ := h
    refine ⟨_, pss_cons (ps_set (i := 1) scRest.nd rfl (Or.inl rfl) pe_int)
      (pss_cons (ps_while PassesOwn.never (pt_truth (pe_fld (pv 0) rfl) (by intro _; rfl))
        (pss_cons (ps_expr (pe_me (pv 0) TS.cl cD hr (pa_cons (pe_callB (cr_min rfl) (by rfl) T.min (by decide +kernel) (pa_cons (pe_callTy (call_listD rfl) (by rfl) T.list (by decide +kernel) (pa_cons (pe_fld (pv 0) rfl) pa_nil)) pa_nil)) pa_nil)))
        (pss_one (ps_aug (i := 1) scRest.nd rfl (Or.inl rfl) pe_int ip_add))))
      (pss_one (ps_ret (pv 1)))), ?_⟩
    refine ⟨fun m σ H' => ∃ i : Nat, m = pot (restN i S) ∧ σ = [some (.ref A.p), some (.int (i : Int))] ∧ SpAt C CE A (restN i S) H' ∧ WfS (restN i S) ∧ (restN i S).log.length + pot (restN i S) ≤ S.log.length + pot S ∧ (∀ j, j < i → (restN j S).slips ≠ []) ∧ KeepF A H H',
      ⟨pot S, 0, rfl, rfl, x, wf, Nat.le_refl _, fun j hj => absurd hj (Nat.not_lt_zero j), KeepF.refl A H⟩, ?_⟩
    rintro m σ H' ⟨i, rfl, rfl, x', w', hb', hne, kp⟩
    obtain ⟨sg, es, hds, hsg⟩ := x'.ds
    refine ⟨_, rfl, A.p, C, A.dx, _, _, rfl, x'.ob, TS.cl, TS.slips, rfl, _, .inr (.inr ⟨_, hds, rfl⟩), ?_⟩
    have hlen : sg.length = (restN i S).slips.length := by rw [← es, List.length_map]
    cases hsl : (restN i S).slips with
    | nil =>
      rw [hsl] at hlen
      have : sg = [] := List.length_eq_zero_iff.mp hlen
      subst this
      refine iteF ⟨_, rfl, ?_⟩
      exact kk i H' hsl hne w' hb' x' kp
    | cons y ys =>
      have hgt : (!(sg.map fun x => ((Sum.inl x.1.1 : Key), V.ref x.2)).isEmpty) = true := by
        cases sg with
        | nil => rw [hsl] at es; cases es
        | cons z zs => rfl
      rw [hgt]
      refine iteT ⟨fun σ2 H2 => σ2 = [some (.ref A.p), some (.int ((i + 1 : Nat) : Int))] ∧ SpAt C CE A (dlv (restN i S) y.1 y.2) H2 ∧ KeepF A H H2, ?_, ?_⟩
      · rintro σ2 H2 ⟨rfl, x2, kp2⟩
        have hy : (y.1, y.2) ∈ (restN i S).slips := by rw [hsl]; exact List.mem_cons_self
        have e1 : restN (i + 1) S = dlv (restN i S) y.1 y.2 := by
          rw [restN_succ]
          unfold stepR
          rw [hsl]
        have hp := dlv_pot w' hy
        refine ⟨pot (dlv (restN i S) y.1 y.2), hp, i + 1, by rw [e1], rfl, by rw [e1]; exact x2, by rw [e1]; exact dlv_wf w' hy, ?_, fun j hj => ?_, kp2⟩
        · rw [e1, dlv_log, List.length_append]
          show (restN i S).log.length + 1 + _ ≤ _
          omega
        · by_cases q : j = i
          · rw [q, hsl]
            exact List.cons_ne_nil _ _
          · exact hne j (by omega)
      · have hy : (y.1, y.2) ∈ (restN i S).slips := by rw [hsl]; exact List.mem_cons_self
        have hpl : (restN i S).slips.length ≤ pot (restN i S) := Nat.le_add_right _ _
        refine ⟨_, rfl, A.p, A.dx, _, rfl, x'.ob, rfl, _, rfl, A.p, C, A.dx, _, _, rfl, x'.ob, TS.cl, TS.slips, rfl, A.ds, _, rfl, Rd.of hds, fun t ht => ?_⟩
        have sm : Same H' (upd H' t (.lst ((sg.map fun x => ((Sum.inl x.1.1 : Key), V.ref x.2)).map fun kv => kV kv.1))) := same_new ht
        have ens : ((sg.map fun x => ((Sum.inl x.1.1 : Key), V.ref x.2)).map fun kv => kV kv.1) = ((restN i S).slips.map (·.1)).map V.int := by
          rw [← es, List.map_map, List.map_map, List.map_map]
          rfl
        refine ⟨t, (restN i S).slips.map (·.1), rfl, SqL.of (by rw [upd_same, ens]), by rw [hsl]; exact Nat.succ_pos _, fun mn hm1 hm2 => ?_⟩
        have emn : mn = y.1 := by
          have asc := w'.asc
          rw [hsl] at asc hm1 hm2
          have h1 := hm2 y.1 (List.mem_cons_self)
          rcases List.mem_cons.mp hm1 with q | q
          · exact q
          · have : y.1 < mn := (List.pairwise_cons.mp asc).1 _ q
            omega
        subst emn
        refine ⟨A, restN i S, y.1, y.2, rfl, x'.same sm, ap, w', hy, by omega, by omega, fun H2 x2 kp2 => ?_⟩
        exact ⟨_, rfl, _, _, rfl, rfl, rfl, x2, KeepF.trans (kp.same sm) kp2⟩
end
end Spr
namespace Spr
open PySem L2
def logLie (S : MS) (l t : Int) (k : Kd) (v : Int) : MS := { S with slips := S.slips, put := S.put, log := S.log ++ [.lie l t k v] }
theorem lieS_eq (S : MS) (l t : Int) (k : Kd) (v : Int) : lieS S l t k v = put1 (logLie S l t k v) ⟨l, t, k, v⟩ := rfl
theorem honest_iff {S : MS} {h : Int} : honest S h = true ↔ 0 ≤ h ∧ h < S.n ∧ h ∉ S.liars := by
  unfold honest inI
  simp [and_assoc]
theorem lieS_wf {S : MS} (w : WfS S) {l t : Int} {k : Kd} {v : Int} (hl : l ∈ S.liars) (ht : honest S t = true) : WfS (lieS S l t k v) := by
  obtain ⟨t0, t1, t2⟩ := honest_iff.mp ht
  obtain ⟨l0, l1⟩ := w.lin l hl
  rw [lieS_eq]
  exact put1_wf (S := logLie S l t k v) ⟨w.n2, w.n12, w.el, w.ears, fun x hx => by obtain ⟨a, b, c, d, e, f⟩ := w.sl x hx; exact ⟨a, b, c, d, e, f⟩, w.asc, w.lt, w.lin, w.f0, w.f1⟩ ⟨l0, l1, t0, t1, t2, fun q => t2 (by have q : l = t := q; rw [← q]; exact hl)⟩
/-- the text's table of kinds -/
structure Kt (K : PySem.W.Frag) (mg : Str → Option Value) : Prop where
  k : ∃ a, mg "KINDS" = some (.ref a) ∧ ∀ H, SqT K H a [.str "said", .str "echo", .str "promise"]
theorem ks_in (k : Kd) : inV (.str (ks k)) [.str "said", .str "echo", .str "promise"] = true := by
  cases k <;> decide +kernel
section
variable {P : Program} {w : World} {K : PySem.W.Frag} {mg : Str → Option Value} {base : Heap}
abbrev nLie : List Str := ["self", "liar", "to", "kind", "value"]
theorem scLie : FnScope nLie nLie (defScope s_Spread_lie) := ⟨rfl, rfl, rfl, by decide +kernel, rfl, by decide +kernel, by decide +kernel⟩
def spLie (C CE : Addr) : Sp := fun vs H Q _ => ∃ (A : SA) (S : MS) (l t : Int) (k : Kd) (v : Int), vs = [.ref A.p, .int l, .int t, .str (ks k), .int v] ∧ SpAt C CE A S H ∧ Apart C CE A ∧ WfS S ∧ l ∈ S.liars ∧ honest S t = true ∧ 0 ≤ v ∧ v ≤ 99 ∧ S.slips.length ≤ 7000 ∧ S.log.length ≤ 7000 ∧
  ∀ H', SpAt C CE A (lieS S l t k v) H' → KeepF A H H' → Q (.int S.put) H'
theorem ok_lie {f C CE f1 f2 f3 f4 : Addr} {fd d1 d2 d3 d4 : FuncData} (F : Fun K "lie" "Spread.lie" s_Spread_lie f fd) (T : Bn mg) (KT : Kt K mg) (TS : TxS K C) (cI : Ca P w K mg base 1 "is_integer" ["value"] spIsInt f1 d1) (cH : Me P w K mg base 4 C "_is_honest" ["self", "hand"] (spHon C CE) f2 d2)
    (cS : Ca P w K mg base 3 "is_spread" ["value"] spIsSpread f3 d3) (cP : Me P w K mg base 1 C "_put" ["self", "sender", "to", "kind", "value"] (spPut C CE) f4 d4) : FnOk P w K mg base CX0 5 f fd nLie (spLie C CE) := by
  refine F.ok scLie (fun vs H Q E h => ?_) (fun cdv A outer s H vs Q E hr h => ?_)
  · obtain ⟨A, S, l, t, k, v, rfl, _⟩ := h
    rfl
  · obtain ⟨A, S, l, t, k, v, rfl, x, ap, wf, hl, ht, v0, v1, hlen, hlog, kk⟩ := h
    have hr1 := hr.mono (show 1 ≤ 4 by decide)
    have hr3 := hr.mono (show 3 ≤ 4 by decide)
    obtain ⟨aK, mK, qK⟩ := KT.k
    refine ⟨_, pss_cons (ps_if (PW.pt (pw_or (pt_not (pt_val (pe_ca cI hr1 (pa_cons (pv 1) pa_nil)))) (pw_or1 (pt_cmpR op_notIn_seq (pv 1) (pe_fld (pv 0) rfl) (by rfl))))) pss_never pss_nil)
      (pss_cons (ps_if (pt_not (pt_val (pe_me (pv 0) TS.cl cH hr (pa_cons (pv 2) pa_nil)))) pss_never pss_nil)
      (pss_cons (ps_if (PW.pt (pw_or (pt_not (pt_val (pe_callB call_isi (by rfl) T.isi (by decide +kernel) (pa_cons (pv 3) (pa_cons (pe_bltn (v := .ty "str") (by rfl) T.str (by decide +kernel) rfl) pa_nil))))) (pw_or1 (pt_cmpR op_notIn_seq (pv 3) (pe_glob (v := .ref aK) rfl mK rfl) (by rfl))))) pss_never pss_nil)
      (pss_cons (ps_if (pt_not (pt_val (pe_ca cS hr3 (pa_cons (pv 4) pa_nil)))) pss_never pss_nil)
      (pss_cons (ps_expr (pe_bm PySem.F.plainAttrs_list PySem.F.slot_list_append PySem.F.type_list_append mt_append (pe_fld (pv 0) rfl) (pa_cons (pe_tup (pa_cons pe_str (pa_cons (pv 1) (pa_cons (pv 2) (pa_cons (pv 3) (pa_cons (pv 4) pa_nil)))))) pa_nil)))
      (pss_one (ps_ret (pe_me (pv 0) TS.cl cP hr1 (pa_cons (pv 1) (pa_cons (pv 2) (pa_cons (pv 3) (pa_cons (pv 4) pa_nil))))))))))), ?_⟩
    refine ⟨_, rfl, l, rfl, true, rfl, iteF ?_⟩
    refine ⟨_, rfl, _, rfl, A.p, C, A.dx, _, _, rfl, x.ob, TS.cl, TS.liars, rfl, A.tl, _, rfl, .inr (SqT.of x.tl), rfl, flat_ints _, _, rfl, ?_⟩
    rw [inV_int, show inI l S.liars = true from decide_eq_true hl]
    refine iteF ⟨_, rfl, A.p, A.dx, _, rfl, x.ob, rfl, _, rfl, A, S, t, rfl, x, _, rfl, ?_⟩
    rw [ht]
    refine iteF ⟨_, rfl, .str (ks k), _, _, _, true, rfl, .ty "str", .base (.str _), kit_ty (by decide +kernel), true, rfl, iteF ?_⟩
    refine ⟨_, rfl, aK, _, rfl, .inr (qK H), rfl, rfl, _, rfl, ?_⟩
    rw [ks_in]
    refine iteF ⟨_, rfl, v, rfl, _, rfl, ?_⟩
    rw [decide_eq_true (show 0 ≤ v ∧ v ≤ 99 from ⟨v0, v1⟩)]
    refine iteF ?_
    obtain ⟨lz, el, hlg, hlz⟩ := x.lg
    obtain ⟨sg, es, hds, hsg⟩ := x.ds
    have plg : A.p ≠ A.lg := ne_of x.ob hlg (by intro z; cases z)
    have dlg : A.ds ≠ A.lg := ne_of hds hlg (by intro z; cases z)
    refine ⟨_, rfl, A.p, C, A.dx, _, _, rfl, x.ob, TS.cl, TS.log, rfl, .inl ⟨rfl, _, SqL.of hlg⟩, _, rfl, _, rfl, _, rfl, _, rfl, (by show 5 ≤ sizeLine; decide), fun u hu' => ?_⟩
    have ulg : u ≠ A.lg := fun q => by rw [q, hlg] at hu'; cases hu'
    have up : u ≠ A.p := fun q => by rw [q, x.ob] at hu'; cases hu'
    have ud : u ≠ A.ds := fun q => by rw [q, hds] at hu'; cases hu'
    refine ⟨A.lg, _, _, rfl, rfl, (upd_ne ulg.symm).trans hlg, ?_, ?_⟩
    · rw [List.length_map]
      have : lz.length = S.log.length := by rw [← el, List.length_map]
      exact Nat.lt_of_le_of_lt (by rw [this]; exact hlog) (by decide)
    have x1 : SpAt C CE A (logLie S l t k v) (upd (upd H u (.tup [.str "lie", .int l, .int t, .str (ks k), .int v])) A.lg (.lst ((lz.map fun x => V.ref x.2) ++ [.ref u]))) := by
      refine x.re ap (fun b o e h1 h2 h3 => ?_) ?_ ⟨sg, es, ?_, fun z hz => ?_⟩ ⟨lz ++ [(.lie l t k v, u)], by rw [List.map_append, el]; rfl, by rw [upd_same, List.map_append]; rfl, fun z hz => ?_⟩
      · rw [upd_ne h3, upd_ne (ne_of_none e hu')]
        exact e
      · rw [upd_ne plg, upd_ne up.symm]
        exact x.ob
      · rw [upd_ne dlg, upd_ne ud.symm]
        exact hds
      · have h := hsg z hz
        rw [upd_ne (ne_of h hlg (by intro z; cases z)), upd_ne (ne_of_none h hu')]
        exact h
      · rcases List.mem_append.mp hz with q | q
        · have h := hlz z q
          rw [upd_ne (ne_of h hlg (by intro z; cases z)), upd_ne (ne_of_none h hu')]
          exact h
        · rw [List.mem_singleton.mp q]
          show upd _ A.lg _ u = _
          rw [upd_ne ulg, upd_same]
          rfl
    refine ⟨_, rfl, A.p, A.dx, _, rfl, x1.ob, rfl, _, rfl, _, rfl, _, rfl, _, rfl, A, logLie S l t k v, ⟨l, t, k, v⟩, rfl, x1, ap, Nat.le_trans hlen (by decide), wf.lt, fun H2 x2 kp2 => ?_⟩
    exact kk H2 x2 (KeepF.trans (keepF_upd (keepF_upd (KeepF.refl A H) (.inr hu')) (.inl (.inr (.inr (.inl rfl))))) kp2)
def spUsual : Sp := fun vs H Q _ => ∃ n t : Int, vs = [.int n, .int t] ∧ 2 ≤ n ∧ n ≤ 12 ∧ 0 ≤ t ∧ t ≤ 9 ∧ t < n ∧ ∀ p, H p = none → Q (.ref p) (upd H p (.tup [.int ((n + t) / 2 + 1), .int (t + 1), .int (2 * t + 1)]))
theorem scUsual : FnScope ["n", "t"] ["n", "t"] (defScope s_usual) := ⟨rfl, rfl, rfl, by decide +kernel, rfl, by decide +kernel, by decide +kernel⟩
theorem ok_usual {f f1 f2 : Addr} {fd d1 d2 : FuncData} (F : Fun K "usual" "usual" s_usual f fd) (N : Cn mg) (c1 : Ca P w K mg base 3 "check_number" ["n"] spChkNumber f1 d1) (c2 : Ca P w K mg base 2 "is_from" ["value", "low", "high"] spIsFrom f2 d2) : FnOk P w K mg base CX0 4 f fd ["n", "t"] spUsual := by
  refine F.ok scUsual (fun vs H Q E h => ?_) (fun cdv A outer s H vs Q E hr h => ?_)
  · obtain ⟨n, t, rfl, _⟩ := h
    rfl
  · obtain ⟨n, t, rfl, h1, h2, t0, t1, t2, k⟩ := h
    have hr2 := hr.mono (show 2 ≤ 3 by decide)
    obtain ⟨t9, m9⟩ := N.c9
    refine ⟨_, pss_cons (ps_expr (pe_ca c1 hr (pa_cons (pv 0) pa_nil)))
      (pss_cons (ps_if (PW.pt (pw_or (pt_not (pt_val (pe_ca c2 hr2 (pa_cons (pv 1) (pa_cons pe_int (pa_cons (pe_glob (v := .int 9) rfl m9 ⟨_, rfl⟩) pa_nil)))))) (pw_or1 (pt_cmpR op_ge (pv 1) (pv 0) (nomark _))))) pss_never pss_nil)
      (pss_one (ps_ret (pe_tup (pa_cons (pe_op op_add (pe_op op_fdiv (pe_op op_add (pv 0) (pv 1)) pe_int) pe_int) (pa_cons (pe_op op_add (pv 1) pe_int) (pa_cons (pe_op op_add (pe_op op_mul pe_int (pv 1)) pe_int) pa_nil))))))), ?_⟩
    refine ⟨_, rfl, n, rfl, h1, h2, ?_⟩
    refine ⟨_, rfl, t, 0, 9, rfl, _, rfl, ?_⟩
    rw [decide_eq_true (show 0 ≤ t ∧ t ≤ 9 from ⟨t0, t1⟩)]
    refine iteF ⟨_, rfl, _, rfl, _, _, rfl, rfl, _, rfl, ?_⟩
    rw [decide_eq_false (show ¬ n ≤ t by omega)]
    refine iteF ⟨_, rfl, _, rfl, _, _, rfl, rfl, _, _, rfl, rfl, ⟨by decide, by decide⟩, _, _, rfl, rfl, _, rfl, _, _, rfl, rfl, _, rfl, _, _, rfl, rfl, .inl ⟨by decide, by decide⟩, _, _, rfl, rfl, (by show 3 ≤ sizeLine; decide), fun p hp => ?_⟩
    exact k p hp
end
end Spr
namespace Spr
open PySem L2
/-! ### a Spread is made -/
structure MkP (n : Nat) (e r d : Int) (liars : List Int) (first : Int) (value : Option Int) : Prop where
  n2 : 2 ≤ n
  n12 : n ≤ 12
  cs : ∀ c ∈ [e, r, d], 1 ≤ c ∧ c ≤ 20
  lin : ∀ l ∈ liars, 0 ≤ l ∧ l < (n : Int)
  asc : Asc liars
  fewer : liars.length < n
  f0 : 0 ≤ first
  f1 : first < (n : Int)
  v0 : first ∈ liars → value = none
  v1 : first ∉ liars → ∃ i, value = some i ∧ 0 ≤ i ∧ i ≤ 99
theorem init0_wf {n : Nat} {e r d : Int} {liars : List Int} {first : Int} {value : Option Int} (p : MkP n e r d liars first value) : WfS (init0 n e r d liars first value) := by
  refine ⟨p.n2, p.n12, List.length_replicate, fun i E hi => ?_, (fun x hx => by cases hx), List.Pairwise.nil, (fun x hx => by cases hx), p.lin, p.f0, p.f1⟩
  have : E = ⟨none, [], [], none, none, none⟩ := List.eq_of_mem_replicate (List.mem_of_getElem? hi)
  rw [this]
  exact ⟨List.nodup_nil, List.nodup_nil, (fun x hx => by cases hx), (fun x hx => by cases hx), fun _ => rfl, fun _ => rfl⟩
theorem initS_wf {n : Nat} {e r d : Int} {liars : List Int} {first : Int} {value : Option Int} (p : MkP n e r d liars first value) : WfS (initS n e r d liars first value) := by
  have w := init0_wf p
  unfold initS
  cases value with
  | none => exact w
  | some v =>
    dsimp only
    split
    · exact w
    · have w1 : WfS (putAll (init0 n e r d liars first (some v)) first .said v) := putAll_wf w p.f0 p.f1
      have en : (putAll (init0 n e r d liars first (some v)) first .said v).n = n := (putTo_keeps _ _ _ _ _).1
      exact hearS_wf w1 p.f0 (by rw [en]; exact p.f1) p.f0 (by rw [en]; exact p.f1) (fun q => absurd rfl q)
section
variable {P : Program} {w : World} {K : PySem.W.Frag} {mg : Str → Option Value} {base : Heap}
abbrev nInit : List Str := ["self", "n", "counts", "liars", "first", "value", "hand"]
theorem scInit : FnScope nInit ["self", "n", "counts", "liars", "first", "value"] (defScope s_Spread_init) := ⟨rfl, rfl, rfl, by decide +kernel, rfl, by decide +kernel, by decide +kernel⟩
def spInit (C CE : Addr) : Sp := fun vs H Q _ => ∃ (p dx tc tl : Addr) (n : Nat) (e r d : Int) (liars : List Int) (first : Int) (value : Option Int), vs = [.ref p, .int (n : Int), .ref tc, .ref tl, .int first, ov value] ∧ H p = some (.ins C dx []) ∧ H tc = some (.tup [.int e, .int r, .int d]) ∧ H tl = some (.tup (liars.map V.int)) ∧ MkP n e r d liars first value ∧
  ∀ (A : SA) (H' : Hp), A.p = p → A.tc = tc → A.tl = tl → SpAt C CE A (initS n e r d liars first value) H' → Apart C CE A → (∀ b o, H b = some o → b ≠ p → H' b = some o) → (∀ b, Fp A b → b = p ∨ H b = none) → Q .non H'
/-- the ears made so far -/
structure Made (CE : Addr) (H1 : Hp) (D tc : Addr) (first : Int) (es : List EA) (H : Hp) : Prop where
  same : Same H1 H
  lst : H D = some (.lst (es.map fun x => V.ref x.a))
  ears : ∀ (j : Nat) (x : EA), es[j]? = some x → EarAt CE H x.a x.dx x.d1 x.d2 j tc first ME0
  nda : (es.map (·.a)).Nodup
  ndd : (es.map (·.d1) ++ es.map (·.d2)).Nodup
  new : ∀ x ∈ es, H1 x.a = none ∧ H1 x.d1 = none ∧ H1 x.d2 = none
theorem Made.in1 {CE : Addr} {H1 : Hp} {D tc : Addr} {first : Int} {es : List EA} {H : Hp} (m : Made CE H1 D tc first es H) {x : EA} (hx : x ∈ es) : (∃ dx fs, H x.a = some (.ins CE dx fs)) ∧ (∃ q, H x.d1 = some (.dK q)) ∧ ∃ q, H x.d2 = some (.dK q) := by
  obtain ⟨j, hj⟩ := List.mem_iff_getElem?.mp hx
  have q := m.ears j x hj
  exact ⟨⟨_, _, q.ob⟩, ⟨_, q.h1⟩, ⟨_, q.h2⟩⟩
theorem nodup_dd {es : List EA} {x : EA} (h : (es.map (·.d1) ++ es.map (·.d2)).Nodup) (n1 : ∀ y ∈ es, y.d1 ≠ x.d1 ∧ y.d2 ≠ x.d1 ∧ y.d1 ≠ x.d2 ∧ y.d2 ≠ x.d2) (n2 : x.d1 ≠ x.d2) : ((es ++ [x]).map (·.d1) ++ (es ++ [x]).map (·.d2)).Nodup := by
  obtain ⟨h1, h2, h3⟩ := List.nodup_append.mp h
  rw [List.map_append, List.map_append]
  refine List.nodup_append.mpr ⟨nd_snoc h1 fun z => ?_, nd_snoc h2 fun z => ?_, fun a ha b hb => ?_⟩
  · obtain ⟨y, hy, e⟩ := List.mem_map.mp z
    exact (n1 y hy).1 e
  · obtain ⟨y, hy, e⟩ := List.mem_map.mp z
    exact (n1 y hy).2.2.2 e
  · rcases List.mem_append.mp ha with q | q
    · rcases List.mem_append.mp hb with z | z
      · exact h3 a q b z
      · obtain ⟨y, hy, e⟩ := List.mem_map.mp q
        rw [List.mem_singleton.mp z, ← e]
        exact (n1 y hy).2.2.1
    · rw [List.mem_singleton.mp q]
      rcases List.mem_append.mp hb with z | z
      · obtain ⟨y, hy, e⟩ := List.mem_map.mp z
        rw [← e]
        exact Ne.symm (n1 y hy).2.1
      · rw [List.mem_singleton.mp z]
        exact n2
def g6 (n : Nat) (tc tl : Addr) (first : Int) (value : Option Int) (D : Addr) : List (Str × V) := [("n", .int (n : Int)), ("counts", .ref tc), ("liars", .ref tl), ("first", .int first), ("_value", ov value), ("_ears", .ref D)]
def g7 (n : Nat) (tc tl : Addr) (first : Int) (value : Option Int) (D ds : Addr) : List (Str × V) := [("n", .int (n : Int)), ("counts", .ref tc), ("liars", .ref tl), ("first", .int first), ("_value", ov value), ("_ears", .ref D), ("_slips", .ref ds)]
def g8 (n : Nat) (tc tl : Addr) (first : Int) (value : Option Int) (D ds : Addr) : List (Str × V) := [("n", .int (n : Int)), ("counts", .ref tc), ("liars", .ref tl), ("first", .int first), ("_value", ov value), ("_ears", .ref D), ("_slips", .ref ds), ("_put_ever", .int 0)]
def g9 (n : Nat) (tc tl : Addr) (first : Int) (value : Option Int) (D ds lg : Addr) : List (Str × V) := [("n", .int (n : Int)), ("counts", .ref tc), ("liars", .ref tl), ("first", .int first), ("_value", ov value), ("_ears", .ref D), ("_slips", .ref ds), ("_put_ever", .int 0), ("_log", .ref lg)]
def h12 (H6 : Hp) (C p dx : Addr) (n : Nat) (tc tl : Addr) (first : Int) (value : Option Int) (D ds lg : Addr) : Hp :=
  upd (upd (upd (upd (upd (upd H6 p (.ins C dx (g6 n tc tl first value D))) ds (.dK [])) p (.ins C dx (g7 n tc tl first value D ds))) p (.ins C dx (g8 n tc tl first value D ds))) lg (.lst [])) p (.ins C dx (g9 n tc tl first value D ds lg))
theorem ok_init {f C CE f1 f2 f3 f4 : Addr} {fd e1 e2 e3 e4 : FuncData} (F : Fun K "__init__" "Spread.__init__" s_Spread_init f fd) (T : Bn mg) (TS : TxS K C) (hCC : C ≠ CE) (c1 : Ca P w K mg base 5 "check_spread" ["n", "counts", "liars", "first", "value"] spChkSpread f1 e1)
    (ME : Mk K CE f2) (mE : mg "Ear" = some (.ref CE)) (GE : FnOk P w K mg base CX0 1 f2 e2 nEInit (spEInit CE)) (bE : Binds K e2 nEInit []) (c3 : Me P w K mg base 2 C "_put_to_all" ["self", "sender", "kind", "value"] (spPutAll C CE) f3 e3)
    (c4 : Me P w K mg base 4 C "_hear" ["self", "hand", "sender", "kind", "value"] (spHearS C CE) f4 e4) : FnOk P w K mg base CX0 6 f fd ["self", "n", "counts", "liars", "first", "value"] (spInit C CE) := by
  refine F.ok scInit (fun vs H Q E h => ?_) (fun cdv A outer s H vs Q E hr h => ?_)
  · obtain ⟨p, dx, tc, tl, n, e, r, d, liars, first, value, rfl, _⟩ := h
    rfl
  · obtain ⟨p, dx, tc, tl, n, e, r, d, liars, first, value, rfl, hp, htc, htl, mp, kk⟩ := h
    have hr2 := hr.mono (show 2 ≤ 5 by decide)
    have hr4 := hr.mono (show 4 ≤ 5 by decide)
    refine ⟨_, pss_cons (ps_expr (pe_ca c1 hr (pa_cons (pv 1) (pa_cons (pv 2) (pa_cons (pv 3) (pa_cons (pv 4) (pa_cons (pv 5) pa_nil)))))))
      (pss_cons (ps_fld (pv 0) (pv 1) rfl) (pss_cons (ps_fld (pv 0) (pv 2) rfl) (pss_cons (ps_fld (pv 0) (pv 3) rfl) (pss_cons (ps_fld (pv 0) (pv 4) rfl) (pss_cons (ps_fld (pv 0) (pv 5) rfl)
      (pss_cons (ps_fld (pv 0) (pe_lc (own := [("hand", 6)]) (g := gName 6) (tt := tYes) rfl scInit.nd (pi_range1 rfl T.range (pa_cons (pv 1) pa_nil)) (blkOk_by (N := nInit) (sc := defScope s_Spread_init) (by decide +kernel))
          (fun _ _ _ _ _ => pg_name (i := 6) scInit.nd rfl (Or.inl rfl)) (fun _ _ _ _ _ => pts_nil) (fun _ _ _ _ _ => pe_make ME GE hr2 rfl mE bE .nil pass0 (pa_cons (pv 6) (pa_cons (pv 2) (pa_cons (pv 4) pa_nil))))) rfl)
      (pss_cons (ps_fld (pv 0) pe_dnewK rfl) (pss_cons (ps_fld (pv 0) pe_int rfl) (pss_cons (ps_fld (pv 0) (pe_lst pa_nil) rfl)
      (pss_one (ps_if (pt_cmpR op_notIn_seq (pv 4) (pv 3) (by rfl)) (pss_cons (ps_expr (pe_me (pv 0) TS.cl c3 hr2 (pa_cons (pv 4) (pa_cons pe_str (pa_cons (pv 5) pa_nil))))) (pss_one (ps_expr (pe_me (pv 0) TS.cl c4 hr4 (pa_cons (pv 4) (pa_cons (pv 4) (pa_cons pe_str (pa_cons (pv 5) pa_nil)))))))) pss_nil))))))))))), ?_⟩
    refine ⟨_, rfl, _, rfl, _, rfl, _, rfl, _, rfl, (n : Int), tc, tl, [e, r, d], liars, first, value, rfl, by have := mp.n2; omega, by have := mp.n12; omega, htc, rfl, mp.cs, htl, mp.lin, mp.asc, by have := mp.fewer; omega, mp.f0, mp.f1, mp.v0, mp.v1, fun H0 s0 => ?_⟩
    refine ⟨_, rfl, _, rfl, p, C, dx, _, rfl, s0 _ _ hp, TS.cl, TS.n, (by show 0 < 1000; decide), ?_⟩
    refine ⟨_, rfl, _, rfl, p, C, dx, _, rfl, upd_same, TS.cl, TS.counts, (by show 1 < 1000; decide), ?_⟩
    refine ⟨_, rfl, _, rfl, p, C, dx, _, rfl, upd_same, TS.cl, TS.liars, (by show 2 < 1000; decide), ?_⟩
    refine ⟨_, rfl, _, rfl, p, C, dx, _, rfl, upd_same, TS.cl, TS.first, (by show 3 < 1000; decide), ?_⟩
    refine ⟨_, rfl, _, rfl, p, C, dx, _, rfl, upd_same, TS.cl, TS.value, (by show 4 < 1000; decide), ?_⟩
    refine ⟨_, rfl, (n : Int), rfl, by omega, by have := mp.n12; omega, fun D hD => ?_⟩
    refine lc_range (lo := 0) (n := n) (fun i H' => ∃ es : List EA, es.length = i ∧ Made CE _ D tc first es H') ⟨[], rfl, ⟨same_new hD, upd_same, (fun j x hj => by simp at hj), List.nodup_nil, List.nodup_nil, (fun x hx => by cases hx)⟩⟩ ?_ ?_
    · rintro i H2 hi ⟨es, hes, m⟩
      have e0 : (0 : Int) + (i : Int) = (i : Int) := Int.zero_add _
      rw [e0]
      refine ⟨rfl, _, rfl, _, rfl, _, rfl, fun x dxx hx hdx hne => ⟨x, dxx, tc, (i : Int), first, rfl, upd_same, fun d1 d2 H3 n1 n2 ea kp => ⟨rfl, ?_⟩⟩⟩
      have s23 : Same H2 H3 := Same.made hx hdx kp
      have g1 : H2 d1 = none := by
        have h1 : d1 ≠ x := fun q => by rw [q, upd_same] at n1; cases n1
        have h2 : d1 ≠ dxx := fun q => by rw [q, upd_ne hne, upd_same] at n1; cases n1
        rw [upd_ne h1, upd_ne h2] at n1
        exact n1
      have g2 : H2 d2 = none := by
        have h1 : d2 ≠ x := fun q => by rw [q, upd_same] at n2; cases n2
        have h2 : d2 ≠ dxx := fun q => by rw [q, upd_ne hne, upd_same] at n2; cases n2
        rw [upd_ne h1, upd_ne h2] at n2
        exact n2
      have hDl := m.lst
      have Dx : D ≠ x := ne_of_none hDl hx
      have D1 : D ≠ d1 := ne_of_none hDl g1
      have D2 : D ≠ d2 := ne_of_none hDl g2
      refine ⟨_, s23 _ _ hDl, ?_, es ++ [⟨x, dxx, d1, d2⟩], by rw [List.length_append, hes]; rfl, ?_⟩
      · rw [List.length_map, hes]
        exact small1000 (by have := mp.n12; omega)
      · refine ⟨same_upd (Same.trans m.same s23) hD, by rw [upd_same, List.map_append]; rfl, fun j z hj => ?_, ?_, ?_, fun z hz => ?_⟩
        · by_cases hji : j < es.length
          · rw [List.getElem?_append_left hji] at hj
            have q := (m.ears j z hj).same s23
            have hD3 := s23 _ _ hDl
            exact q.of (upd_ne (ne_of q.ob hD3 (by intro z; cases z))) (upd_ne (ne_of q.h1 hD3 (by intro z; cases z))) (upd_ne (ne_of q.h2 hD3 (by intro z; cases z)))
          · have hj2 := (List.getElem?_eq_some_iff.mp hj).1
            rw [List.length_append] at hj2
            have hj2 : j < es.length + 1 := hj2
            have ej : j = es.length := by omega
            subst ej
            rw [List.getElem?_append_right (Nat.le_refl _), Nat.sub_self] at hj
            have ez : (⟨x, dxx, d1, d2⟩ : EA) = z := Option.some.inj hj
            subst ez
            rw [← hes] at ea
            exact ea.of (upd_ne Dx.symm) (upd_ne D1.symm) (upd_ne D2.symm)
        · rw [List.map_append]
          refine nd_snoc m.nda fun z => ?_
          obtain ⟨y, hy, ey⟩ := List.mem_map.mp z
          have ey : y.a = x := ey
          obtain ⟨⟨_, _, q⟩, _⟩ := m.in1 hy
          rw [ey, hx] at q
          cases q
        · refine nodup_dd m.ndd (fun y hy => ?_) ea.ne
          obtain ⟨_, ⟨_, q1⟩, ⟨_, q2⟩⟩ := m.in1 hy
          exact ⟨ne_of_none q1 g1, ne_of_none q2 g1, ne_of_none q1 g2, ne_of_none q2 g2⟩
        · rcases List.mem_append.mp hz with q | q
          · exact m.new z q
          · rw [List.mem_singleton.mp q]
            exact ⟨m.same.free hx, m.same.free g1, m.same.free g2⟩
    · rintro H6 ⟨es, hes, m⟩
      have hp6 := m.same _ _ (upd_same (a := p))
      refine ⟨_, rfl, p, C, dx, _, rfl, hp6, TS.cl, TS.ears, (by show 5 < 1000; decide), fun ds hds => ?_⟩
      have pds : p ≠ ds := ne_of_none upd_same hds
      have h6ds : H6 ds = none := by
        rw [upd_ne pds.symm] at hds
        exact hds
      refine ⟨_, rfl, p, C, dx, _, rfl, (upd_ne pds).trans upd_same, TS.cl, TS.slips, (by show 6 < 1000; decide), ?_⟩
      refine ⟨_, rfl, p, C, dx, _, rfl, upd_same, TS.cl, TS.put, (by show 7 < 1000; decide), ?_⟩
      refine ⟨Nat.zero_le _, fun lg hlg => ?_⟩
      have plg : p ≠ lg := ne_of_none upd_same hlg
      have dlg : ds ≠ lg := ne_of_none ((upd_ne pds.symm).trans ((upd_ne pds.symm).trans upd_same)) hlg
      have h6lg : H6 lg = none := by
        rw [upd_ne plg.symm, upd_ne plg.symm, upd_ne dlg.symm, upd_ne plg.symm] at hlg
        exact hlg
      refine ⟨_, rfl, p, C, dx, _, rfl, (upd_ne plg).trans upd_same, TS.cl, TS.log, (by show 8 < 1000; decide), ?_⟩
      have k12 : ∀ b o, H6 b = some o → b ≠ p → h12 H6 C p dx n tc tl first value D ds lg b = some o := fun b o e hb => by
        unfold h12
        rw [upd_ne hb, upd_ne (ne_of_none e h6lg), upd_ne hb, upd_ne hb, upd_ne (ne_of_none e h6ds), upd_ne hb]
        exact e
      have k6 : ∀ b o, H b = some o → b ≠ p → H6 b = some o := fun b o e hb => m.same _ _ (by rw [upd_ne hb, upd_ne hb, upd_ne hb, upd_ne hb, upd_ne hb]; exact s0 _ _ e)
      have tcp : tc ≠ p := ne_of htc hp (by intro z; cases z)
      have tlp : tl ≠ p := ne_of htl hp (by intro z; cases z)
      have Dp : D ≠ p := ne_of m.lst hp6 (by intro z; cases z)
      have x0 : SpAt C CE ⟨p, dx, tc, tl, D, ds, lg, es⟩ (init0 n e r d liars first value) (h12 H6 C p dx n tc tl first value D ds lg) := by
        refine ⟨upd_same, k12 _ _ (k6 _ _ htc tcp) tcp, k12 _ _ (k6 _ _ htl tlp) tlp, k12 _ _ m.lst Dp, ?_, fun i y E1 h1 h2 => ?_, ⟨[], rfl, ?_, (fun z hz => by cases hz)⟩, ⟨[], rfl, ?_, (fun z hz => by cases hz)⟩⟩
        · show es.length = (List.replicate n _).length
          rw [List.length_replicate, hes]
        · have e1 : E1 = ME0 := List.eq_of_mem_replicate (List.mem_of_getElem? h2)
          subst e1
          have q := m.ears i y h1
          exact ⟨k12 _ _ q.ob (ne_of q.ob hp6 (by intro z; injection z with z; exact hCC z.symm)), k12 _ _ q.h1 (ne_of q.h1 hp6 (by intro z; cases z)), k12 _ _ q.h2 (ne_of q.h2 hp6 (by intro z; cases z)), q.ne⟩
        · exact (upd_ne pds.symm).trans ((upd_ne dlg).trans ((upd_ne pds.symm).trans ((upd_ne pds.symm).trans upd_same)))
        · exact (upd_ne plg.symm).trans upd_same
      have ap : Apart C CE ⟨p, dx, tc, tl, D, ds, lg, es⟩ := by
        refine ⟨hCC, m.nda, List.nodup_cons.mpr ⟨fun z => ?_, m.ndd⟩, Ne.symm (ne_of_none m.lst h6lg)⟩
        rcases List.mem_append.mp z with z | z
        · obtain ⟨y, hy, ey⟩ := List.mem_map.mp z
          obtain ⟨_, ⟨_, q⟩, _⟩ := m.in1 hy
          have ey : y.d1 = ds := ey
          rw [ey, h6ds] at q
          cases q
        · obtain ⟨y, hy, ey⟩ := List.mem_map.mp z
          obtain ⟨_, _, ⟨_, q⟩⟩ := m.in1 hy
          have ey : y.d2 = ds := ey
          rw [ey, h6ds] at q
          cases q
      have fpn : ∀ b, Fp ⟨p, dx, tc, tl, D, ds, lg, es⟩ b → b = p ∨ H b = none := by
        have back : ∀ b, H6 b = none → b ≠ p → H b = none := fun b hb hn => by
          cases e : H b with
          | none => rfl
          | some o => rw [k6 b o e hn] at hb; cases hb
        intro b hb
        by_cases hbp : b = p
        · exact .inl hbp
        · refine .inr ?_
          rcases hb with q | q | q | ⟨y, hy, q⟩
          · exact absurd q hbp
          · rw [q] at hbp ⊢
            exact back _ h6ds hbp
          · rw [q] at hbp ⊢
            exact back _ h6lg hbp
          · obtain ⟨w1, w2, w3⟩ := m.new y hy
            rcases q with q | q | q
            · rw [← q, upd_ne hbp, upd_ne hbp, upd_ne hbp, upd_ne hbp, upd_ne hbp] at w1
              exact s0.free w1
            · rw [← q, upd_ne hbp, upd_ne hbp, upd_ne hbp, upd_ne hbp, upd_ne hbp] at w2
              exact s0.free w2
            · rw [← q, upd_ne hbp, upd_ne hbp, upd_ne hbp, upd_ne hbp, upd_ne hbp] at w3
              exact s0.free w3
      have kF : ∀ H', KeepF ⟨p, dx, tc, tl, D, ds, lg, es⟩ (h12 H6 C p dx n tc tl first value D ds lg) H' → ∀ b o, H b = some o → b ≠ p → H' b = some o := fun H' kp b o e hb =>
        kp b o (k12 b o (k6 b o e hb) hb) fun z => by
          rcases fpn b z with q | q
          · exact hb q
          · rw [q] at e; cases e
      have w0 := init0_wf mp
      refine ⟨_, rfl, _, rfl, tl, _, rfl, .inr (SqT.of x0.tl), rfl, flat_ints _, _, rfl, ?_⟩
      rw [inV_int]
      by_cases hf : first ∈ liars
      · rw [show inI first (init0 n e r d liars first value).liars = true from decide_eq_true hf]
        refine iteF ?_
        have hv := mp.v0 hf
        subst hv
        exact kk _ _ rfl rfl rfl x0 ap (fun b o e hb => k12 b o (k6 b o e hb) hb) fpn
      · obtain ⟨v, hv, _, _⟩ := mp.v1 hf
        subst hv
        rw [show inI first (init0 n e r d liars first (some v)).liars = false from decide_eq_false hf]
        refine iteT ⟨_, rfl, p, dx, _, rfl, x0.ob, rfl, _, rfl, _, rfl, _, init0 n e r d liars first (some v), first, .said, v, rfl, x0, ap, w0, mp.f0, mp.f1, Nat.zero_le _, fun H7 x7 kp7 => ?_⟩
        have en : (putAll (init0 n e r d liars first (some v)) first .said v).n = n := (putTo_keeps _ _ _ _ _).1
        have w7 : WfS (putAll (init0 n e r d liars first (some v)) first .said v) := putAll_wf w0 mp.f0 mp.f1
        refine ⟨_, rfl, p, dx, _, rfl, x7.ob, rfl, _, rfl, _, rfl, _, rfl, _, putAll (init0 n e r d liars first (some v)) first .said v, first, first, .said, v, rfl, x7, ap, w7, mp.f0, by rw [en]; exact mp.f1, mp.f0, by rw [en]; exact mp.f1, fun q => absurd rfl q, ?_, fun H8 x8 kp8 => ?_⟩
        · have h1 : (putAll (init0 n e r d liars first (some v)) first .said v).slips.length ≤ 0 + n := putTo_len _ _ _ _ _
          have := mp.n12
          omega
        · refine kk _ H8 rfl rfl rfl ?_ ap (kF H8 (kp7.trans kp8)) fpn
          have e1 : initS n e r d liars first (some v) = hearS (putAll (init0 n e r d liars first (some v)) first .said v) first first .said v := by
            unfold initS
            dsimp only
            rw [if_neg (by unfold inI; simp [hf])]
          rw [e1]
          exact x8
end
end Spr
namespace Spr
open PySem L2
/-! ### what a Spread tells -/
def TupsAt (H : Hp) : List Addr → List (List V) → Prop
  | [], [] => True
  | a :: as, x :: xs => H a = some (.tup x) ∧ TupsAt H as xs
  | _, _ => False
theorem TupsAt.mono {H H' : Hp} (h : ∀ b xs, H b = some (.tup xs) → H' b = some (.tup xs)) : ∀ {as : List Addr} {xs : List (List V)}, TupsAt H as xs → TupsAt H' as xs
  | [], [], _ => True.intro
  | _ :: _, _ :: _, q => ⟨h _ _ q.1, TupsAt.mono h q.2⟩
  | [], _ :: _, q => q.elim
  | _ :: _, [], q => q.elim
theorem TupsAt.snoc {H : Hp} {a : Addr} {x : List V} (h : H a = some (.tup x)) : ∀ {as : List Addr} {xs : List (List V)}, TupsAt H as xs → TupsAt H (as ++ [a]) (xs ++ [x])
  | [], [], _ => ⟨h, True.intro⟩
  | _ :: _, _ :: _, q => ⟨q.1, TupsAt.snoc h q.2⟩
  | [], _ :: _, q => q.elim
  | _ :: _, [], q => q.elim
theorem TupsAt.len {H : Hp} : ∀ {as : List Addr} {xs : List (List V)}, TupsAt H as xs → as.length = xs.length
  | [], [], _ => rfl
  | _ :: _, _ :: _, q => by rw [List.length_cons, List.length_cons, TupsAt.len q.2]
  | [], _ :: _, q => q.elim
  | _ :: _, [], q => q.elim
theorem TupsAt.at {H : Hp} : ∀ {as : List Addr} {xs : List (List V)} {i : Nat} {a : Addr}, TupsAt H as xs → as[i]? = some a → ∃ x, xs[i]? = some x ∧ H a = some (.tup x)
  | [], [], i, a, _, e => by simp at e
  | b :: _, x :: _, 0, a, q, e => ⟨x, rfl, by rw [← Option.some.inj e]; exact q.1⟩
  | b :: _, x :: _, i + 1, a, q, e => TupsAt.at (i := i) q.2 e
  | [], _ :: _, _, _, q, _ => q.elim
  | _ :: _, [], _, _, q, _ => q.elim
section
variable {P : Program} {w : World} {K : PySem.W.Frag} {mg : Str → Option Value} {base : Heap}
theorem ears_at {C CE : Addr} {A : SA} {S : MS} {H : Hp} (x : SpAt C CE A S H) {i : Nat} {u : V} (h : (A.es.map fun x => V.ref x.a)[i]? = some u) : ∃ (y : EA) (E : ME), A.es[i]? = some y ∧ S.ears[i]? = some E ∧ u = .ref y.a ∧ EarAt CE H y.a y.dx y.d1 y.d2 i A.tc S.first E := by
  rw [List.getElem?_map] at h
  cases e : A.es[i]? with
  | none => rw [e] at h; cases h
  | some y =>
    rw [e] at h
    have hl : i < S.ears.length := by
      rw [← x.el]
      exact (List.getElem?_eq_some_iff.mp e).1
    exact ⟨y, S.ears[i], rfl, List.getElem?_eq_getElem hl, (Option.some.inj h).symm, x.ears i y _ e (List.getElem?_eq_getElem hl)⟩
def spSel (C CE : Addr) (sel : ME → Option Int) : Sp := fun vs H Q _ => ∃ (A : SA) (S : MS), vs = [.ref A.p] ∧ SpAt C CE A S H ∧ WfS S ∧ ∀ l H', H l = none → Same H H' → H' l = some (.tup (S.ears.map fun E => ov (sel E))) → Q (.ref l) H'
theorem take_map_succ {S : MS} {i : Nat} {E : ME} (f : ME → V) (h : S.ears[i]? = some E) : (S.ears.take (i + 1)).map f = (S.ears.take i).map f ++ [f E] := by
  rw [List.take_add_one, h, List.map_append]
  rfl
abbrev nSel : List Str := ["self", "ear"]
theorem scTak : FnScope nSel ["self"] (defScope s_Spread_takings) := ⟨rfl, rfl, rfl, by decide +kernel, rfl, by decide +kernel, by decide +kernel⟩
theorem ok_tak {f C CE : Addr} {fd : FuncData} (F : Fun K "takings" "Spread.takings" s_Spread_takings f fd) (T : Bn mg) (TS : TxS K C) (TE : TxE K CE) : FnOk P w K mg base CX0 1 f fd ["self"] (spSel C CE (·.took)) := by
  refine F.ok scTak (fun vs H Q E h => ?_) (fun cdv A outer s H vs Q E hr h => ?_)
  · obtain ⟨A, S, rfl, _⟩ := h
    rfl
  · obtain ⟨A, S, rfl, x, wf, kk⟩ := h
    refine ⟨_, pss_one (ps_ret (pe_callTy call_tuple_of (by rfl) T.tuple (by decide +kernel) (pa_cons (pe_lc (own := [("ear", 1)]) (g := gName 1) (tt := tYes) (te := tFld K (tVar 1) "took") rfl scTak.nd (pi_list (pe_fld (pv 0) rfl)) (blkOk_by (N := nSel) (sc := defScope s_Spread_takings) (by decide +kernel))
          (fun _ _ _ _ _ => pg_name (i := 1) scTak.nd rfl (Or.inl rfl)) (fun _ _ _ _ _ => pts_nil) (fun _ _ _ _ _ => pe_fld (pv 1) rfl)) pa_nil))), ?_⟩
    refine ⟨_, rfl, A.p, C, A.dx, _, _, rfl, x.ob, TS.cl, TS.ears, rfl, A.le, rfl, ⟨_, SqL.of x.le⟩, fun D hD => ?_⟩
    refine lc_it walk_list (PvS H D fun i => (S.ears.take i).map fun E => ov E.took) (pv0 hD rfl) (fun i H' _ p => SqL.of (p.1 _ _ x.le)) (fun i u H1 H2 hi p y => ?_) (fun H1 p => ?_)
    · obtain ⟨rfl, hx⟩ := y
      obtain ⟨y, E1, h1, h2, rfl, ea⟩ := ears_at x hx
      have ea := ea.same p.1
      refine ⟨rfl, _, rfl, y.a, CE, y.dx, _, _, rfl, ea.ob, TE.cl, TE.took, rfl, ?_⟩
      exact pvStep hD p.1 p.2 (by rw [List.length_map]; exact small1000 (Nat.le_trans (List.length_take_le' _ _) (by have := wf.el; have := wf.n12; omega))) (take_map_succ _ h2)
    · refine ⟨D, _, rfl, .inl ⟨SqL.of p.2, fun l hl => ?_⟩⟩
      dsimp only
      rw [List.length_map, x.el, List.take_of_length_le (Nat.le_refl _)]
      exact kk l _ (p.1.free hl) (Same.trans p.1 (same_new hl)) upd_same
theorem scEch : FnScope nSel ["self"] (defScope s_Spread_echoes) := ⟨rfl, rfl, rfl, by decide +kernel, rfl, by decide +kernel, by decide +kernel⟩
theorem ok_ech {f C CE : Addr} {fd : FuncData} (F : Fun K "echoes" "Spread.echoes" s_Spread_echoes f fd) (T : Bn mg) (TS : TxS K C) (TE : TxE K CE) : FnOk P w K mg base CX0 1 f fd ["self"] (spSel C CE (·.echoed)) := by
  refine F.ok scEch (fun vs H Q E h => ?_) (fun cdv A outer s H vs Q E hr h => ?_)
  · obtain ⟨A, S, rfl, _⟩ := h
    rfl
  · obtain ⟨A, S, rfl, x, wf, kk⟩ := h
    refine ⟨_, pss_one (ps_ret (pe_callTy call_tuple_of (by rfl) T.tuple (by decide +kernel) (pa_cons (pe_lc (own := [("ear", 1)]) (g := gName 1) (tt := tYes) (te := tFld K (tVar 1) "echoed") rfl scEch.nd (pi_list (pe_fld (pv 0) rfl)) (blkOk_by (N := nSel) (sc := defScope s_Spread_echoes) (by decide +kernel))
          (fun _ _ _ _ _ => pg_name (i := 1) scEch.nd rfl (Or.inl rfl)) (fun _ _ _ _ _ => pts_nil) (fun _ _ _ _ _ => pe_fld (pv 1) rfl)) pa_nil))), ?_⟩
    refine ⟨_, rfl, A.p, C, A.dx, _, _, rfl, x.ob, TS.cl, TS.ears, rfl, A.le, rfl, ⟨_, SqL.of x.le⟩, fun D hD => ?_⟩
    refine lc_it walk_list (PvS H D fun i => (S.ears.take i).map fun E => ov E.echoed) (pv0 hD rfl) (fun i H' _ p => SqL.of (p.1 _ _ x.le)) (fun i u H1 H2 hi p y => ?_) (fun H1 p => ?_)
    · obtain ⟨rfl, hx⟩ := y
      obtain ⟨y, E1, h1, h2, rfl, ea⟩ := ears_at x hx
      have ea := ea.same p.1
      refine ⟨rfl, _, rfl, y.a, CE, y.dx, _, _, rfl, ea.ob, TE.cl, TE.echoed, rfl, ?_⟩
      exact pvStep hD p.1 p.2 (by rw [List.length_map]; exact small1000 (Nat.le_trans (List.length_take_le' _ _) (by have := wf.el; have := wf.n12; omega))) (take_map_succ _ h2)
    · refine ⟨D, _, rfl, .inl ⟨SqL.of p.2, fun l hl => ?_⟩⟩
      dsimp only
      rw [List.length_map, x.el, List.take_of_length_le (Nat.le_refl _)]
      exact kk l _ (p.1.free hl) (Same.trans p.1 (same_new hl)) upd_same
theorem scPro : FnScope nSel ["self"] (defScope s_Spread_promises) := ⟨rfl, rfl, rfl, by decide +kernel, rfl, by decide +kernel, by decide +kernel⟩
theorem ok_pro {f C CE : Addr} {fd : FuncData} (F : Fun K "promises" "Spread.promises" s_Spread_promises f fd) (T : Bn mg) (TS : TxS K C) (TE : TxE K CE) : FnOk P w K mg base CX0 1 f fd ["self"] (spSel C CE (·.promised)) := by
  refine F.ok scPro (fun vs H Q E h => ?_) (fun cdv A outer s H vs Q E hr h => ?_)
  · obtain ⟨A, S, rfl, _⟩ := h
    rfl
  · obtain ⟨A, S, rfl, x, wf, kk⟩ := h
    refine ⟨_, pss_one (ps_ret (pe_callTy call_tuple_of (by rfl) T.tuple (by decide +kernel) (pa_cons (pe_lc (own := [("ear", 1)]) (g := gName 1) (tt := tYes) (te := tFld K (tVar 1) "promised") rfl scPro.nd (pi_list (pe_fld (pv 0) rfl)) (blkOk_by (N := nSel) (sc := defScope s_Spread_promises) (by decide +kernel))
          (fun _ _ _ _ _ => pg_name (i := 1) scPro.nd rfl (Or.inl rfl)) (fun _ _ _ _ _ => pts_nil) (fun _ _ _ _ _ => pe_fld (pv 1) rfl)) pa_nil))), ?_⟩
    refine ⟨_, rfl, A.p, C, A.dx, _, _, rfl, x.ob, TS.cl, TS.ears, rfl, A.le, rfl, ⟨_, SqL.of x.le⟩, fun D hD => ?_⟩
    refine lc_it walk_list (PvS H D fun i => (S.ears.take i).map fun E => ov E.promised) (pv0 hD rfl) (fun i H' _ p => SqL.of (p.1 _ _ x.le)) (fun i u H1 H2 hi p y => ?_) (fun H1 p => ?_)
    · obtain ⟨rfl, hx⟩ := y
      obtain ⟨y, E1, h1, h2, rfl, ea⟩ := ears_at x hx
      have ea := ea.same p.1
      refine ⟨rfl, _, rfl, y.a, CE, y.dx, _, _, rfl, ea.ob, TE.cl, TE.promised, rfl, ?_⟩
      exact pvStep hD p.1 p.2 (by rw [List.length_map]; exact small1000 (Nat.le_trans (List.length_take_le' _ _) (by have := wf.el; have := wf.n12; omega))) (take_map_succ _ h2)
    · refine ⟨D, _, rfl, .inl ⟨SqL.of p.2, fun l hl => ?_⟩⟩
      dsimp only
      rw [List.length_map, x.el, List.take_of_length_le (Nat.le_refl _)]
      exact kk l _ (p.1.free hl) (Same.trans p.1 (same_new hl)) upd_same
abbrev nUnd : List Str := ["self", "number"]
theorem scUnd : FnScope nUnd ["self"] (defScope s_Spread_under_way) := ⟨rfl, rfl, rfl, by decide +kernel, rfl, by decide +kernel, by decide +kernel⟩
def unV (x : Int × Sl) : List V := .int x.1 :: slV x.2
def spUnd (C CE : Addr) : Sp := fun vs H Q _ => ∃ (A : SA) (S : MS), vs = [.ref A.p] ∧ SpAt C CE A S H ∧ WfS S ∧ S.slips.length < 64 ∧ ∀ l us H', H l = none → Same H H' → H' l = some (.tup (us.map V.ref)) → TupsAt H' us (S.slips.map unV) → Q (.ref l) H'
theorem perm_asc {l l' : List Int} (h : l'.Perm l) (a : l.Pairwise (· < ·)) (b : l'.Pairwise (· ≤ ·)) : l' = l :=
  h.eq_of_pairwise (le := (· ≤ ·)) (fun x y _ _ h1 h2 => Int.le_antisymm h1 h2) b (a.imp fun h => Int.le_of_lt h)
theorem ok_und {f C CE : Addr} {fd : FuncData} (F : Fun K "under_way" "Spread.under_way" s_Spread_under_way f fd) (T : Bn mg) (TS : TxS K C) : FnOk P w K mg base CX0 1 f fd ["self"] (spUnd C CE) := by
  refine F.ok scUnd (fun vs H Q E h => ?_) (fun cdv A outer s H vs Q E hr h => ?_)
  · obtain ⟨A, S, rfl, _⟩ := h
    rfl
  · obtain ⟨A, S, rfl, x, wf, h64, kk⟩ := h
    have hu := hu_of hr
    refine ⟨_, pss_one (ps_ret (pe_callTy call_tuple_of (by rfl) T.tuple (by decide +kernel) (pa_cons (pe_lc (own := [("number", 1)]) (g := gName 1) (tt := tYes) (te := tTup (tCons (tVar 1) (StX.tStar K (tDGet (tFld K (tVar 0) "_slips") (tVar 1)) tNil))) rfl scUnd.nd (pi_list (pe_callB (call_sortedDI rfl) (by rfl) T.sorted (by decide +kernel) (pa_cons (pe_fld (pv 0) rfl) pa_nil))) (blkOk_by (N := nUnd) (sc := defScope s_Spread_under_way) (by decide +kernel))
          (fun _ _ _ _ _ => pg_name (i := 1) scUnd.nd rfl (Or.inl rfl)) (fun _ _ _ _ _ => pts_nil) (fun _ _ _ _ _ => pe_tup (pa_cons (pv 1) (StX.pa_star (pe_dget hu (pe_fld (pv 0) rfl) (pv 1) (fun _ _ => rfl)) pa_nil)))) pa_nil))), ?_⟩
    obtain ⟨sg, es, hds, hsg⟩ := x.ds
    refine ⟨_, rfl, A.p, C, A.dx, _, _, rfl, x.ob, TS.cl, TS.slips, rfl, A.ds, _, S.slips.map (·.1), rfl, Rd.of hds, ?_, by rw [List.length_map]; exact h64, fun ys p hpm hpw hp => ?_⟩
    · rw [← es, List.map_map, List.map_map, List.map_map]
      rfl
    have eys : ys = S.slips.map (·.1) := perm_asc hpm wf.asc hpw
    subst eys
    have s1 : Same H (upd H p (.lst ((S.slips.map (·.1)).map V.int))) := same_new hp
    refine ⟨p, rfl, ⟨_, SqL.of upd_same⟩, fun D hD => ?_⟩
    refine lc_it walk_list (fun i H' => ∃ us : List Addr, us.length = i ∧ PvS _ D (fun _ => us.map V.ref) i H' ∧ TupsAt H' us ((S.slips.take i).map unV)) ⟨[], rfl, pv0 hD rfl, True.intro⟩ (fun i H' _ ⟨_, _, q, _⟩ => SqL.of (q.1 _ _ upd_same)) (fun i u H1 H2 hi ⟨us, hus, q, tu⟩ y => ?_) (fun H1 ⟨us, hus, q, tu⟩ => ?_)
    · obtain ⟨rfl, hx⟩ := y
      rw [List.getElem?_map, List.getElem?_map] at hx
      obtain ⟨z, hz, rfl⟩ : ∃ z, S.slips[i]? = some z ∧ u = V.int z.1 := by
        cases e : S.slips[i]? with
        | none => rw [e] at hx; cases hx
        | some z => rw [e] at hx; exact ⟨z, rfl, (Option.some.inj hx).symm⟩
      have hil : i < S.slips.length := (List.getElem?_eq_some_iff.mp hz).1
      obtain ⟨y, hy, ey⟩ : ∃ y, y ∈ sg ∧ y.1 = z := by
        have := List.mem_of_getElem? hz
        rw [← es] at this
        obtain ⟨y, hy, e⟩ := List.mem_map.mp this
        exact ⟨y, hy, e⟩
      have ndk : ((sg.map fun x => ((Sum.inl x.1.1 : Key), V.ref x.2)).map (·.1)).Nodup := by
        have := asc_nodup wf.asc
        rw [← es, List.map_map] at this
        rw [List.map_map]
        have e2 : (sg.map ((·.1) ∘ fun x => ((Sum.inl x.1.1 : Key), V.ref x.2))) = (sg.map ((·.1) ∘ (·.1))).map (fun i => (Sum.inl i : Key)) := by
          rw [List.map_map]
          rfl
        rw [e2]
        exact List.Pairwise.map _ (fun a b h q => h (Sum.inl.inj q)) this
      have hv : valV (sg.map fun x => ((Sum.inl x.1.1 : Key), V.ref x.2)) (Sum.inl z.1 : Key) = some (.ref y.2) := by
        refine valV_mem ndk ?_
        refine List.mem_map.mpr ⟨y, hy, ?_⟩
        rw [ey]
      have s2 := Same.trans s1 q.1
      have hty := s2 _ _ (hsg y hy)
      rw [ey] at hty
      refine ⟨rfl, _, rfl, _, rfl, A.p, C, A.dx, _, _, rfl, s2 _ _ x.ob, TS.cl, TS.slips, rfl, _, rfl, A.ds, _, rfl, (by rw [← hv]; exact DGet.k (k := Sum.inl z.1) (s2 _ _ hds)), y.2, _, rfl, .inl (SqT.of hty), (by show 5 ≤ sizeLine; decide), fun t ht => ?_⟩
      have hDt : D ≠ t := ne_of_none q.2 ht
      refine ⟨_, (upd_ne hDt).trans q.2, ?_, us ++ [t], by rw [List.length_append, hus]; rfl, ⟨same_upd (same_upd q.1 (q.1.free ht)) hD, by rw [upd_same, List.map_append]; rfl⟩, ?_⟩
      · rw [List.length_map, hus]
        exact small1000 (by omega)
      · rw [List.take_add_one, hz, List.map_append]
        refine TupsAt.snoc ?_ (tu.mono fun b xs h => ?_)
        · rw [upd_ne hDt.symm, upd_same]
          show some (HO.tup (([V.int z.1] : List V) ++ (slV z.2 ++ []))) = _
          rw [List.append_nil]
          rfl
        · rw [upd_ne (ne_of h q.2 (by intro z; cases z)), upd_ne (ne_of_none h ht)]
          exact h
    · refine ⟨D, _, rfl, .inl ⟨SqL.of q.2, fun l hl => ?_⟩⟩
      have e : (S.slips.take ((S.slips.map (·.1)).map V.int).length) = S.slips := by
        rw [List.length_map, List.length_map, List.take_of_length_le (Nat.le_refl _)]
      rw [e] at tu
      have s3 := Same.trans s1 q.1
      exact kk l us _ (s3.free hl) (Same.trans s3 (same_new hl)) upd_same (tu.mono fun b xs h => by rw [upd_ne (ne_of_none h hl)]; exact h)
end
end Spr
namespace Spr
open PySem L2
/-! ### the law's own helpers -/
def PotAt (H : Hp) (a : Addr) (c : Nat) : Prop := ∃ (p0 p1 : Int) (p2 : Nat), H a = some (.lst [.int p0, .int p1, .int (p2 : Int)]) ∧ 0 ≤ p0 ∧ 0 ≤ p1 ∧ p1 < 4611686018427387904 ∧ p2 ≤ c
def Only (a : Addr) (H H' : Hp) : Prop := ∀ b o, H b = some o → b ≠ a → H' b = some o
theorem Only.refl (a : Addr) (H : Hp) : Only a H H := fun _ _ e _ => e
theorem Only.trans {a : Addr} {H H1 H2 : Hp} (p : Only a H H1) (q : Only a H1 H2) : Only a H H2 := fun b o e h => q b o (p b o e h) h
theorem Same.only {a : Addr} {H H' : Hp} (s : Same H H') : Only a H H' := fun b o e _ => s b o e
theorem only_upd {a : Addr} {H H' : Hp} {o : HO} (p : Only a H H') : Only a H (upd H' a o) := fun b u e h => by
  rw [upd_ne h]
  exact p b u e h
def CPowB (i j : Int) : Prop := 0 ≤ j ∧ (Builtin.Int.intBits i : Int) * j ≤ 2 ^ 27
section
variable {X : Cx}
theorem op_powB : OpR X (binaryOp .Pow) (rI CPowB fun i j => .int (i ^ j.toNat)) := opI fun _ _ _ _ _ _ _ hc q => PyProof.Rows.pow_int hc.1 hc.2 q
end
theorem pow_base {p1 c p2 e : Int} (h0 : 0 ≤ p1) (h1 : p1 < 4611686018427387904) (hc : 0 ≤ c) (hc2 : c ≤ 200000) (hp : 0 ≤ p2) (hp2 : p2 ≤ 1000000) (he : 0 ≤ e) (he2 : e ≤ 100000) : (p1 + c * p2 * p2 + e).natAbs < 2 ^ 64 := by
  have a1 : c * p2 ≤ 200000 * 1000000 := Int.mul_le_mul hc2 hp2 hp (by decide)
  have a0 : 0 ≤ c * p2 := Int.mul_nonneg hc hp
  have b1 : c * p2 * p2 ≤ 200000 * 1000000 * 1000000 := Int.mul_le_mul a1 hp2 hp (by decide)
  have b0 : 0 ≤ c * p2 * p2 := Int.mul_nonneg a0 hp
  generalize c * p2 * p2 = z at b1 b0
  omega
theorem mul_in {c p2 : Int} (hc : 0 ≤ c) (hc2 : c ≤ 200000) (hp : 0 ≤ p2) (hp2 : p2 ≤ 1000000) : -(2 ^ 64) < c * p2 ∧ c * p2 < 2 ^ 64 := by
  have a1 : c * p2 ≤ 200000 * 1000000 := Int.mul_le_mul hc2 hp2 hp (by decide)
  have a0 : 0 ≤ c * p2 := Int.mul_nonneg hc hp
  generalize c * p2 = z at a1 a0
  omega
theorem prime_at (z : Int) (h0 : 0 ≤ z) (h1 : z < 5) : ∃ q : Int, atI [V.int 2147483647, V.int 2147483629, V.int 2147483587, V.int 2147483579, V.int 2147483563] z = some (.int q) ∧ 0 < q ∧ q < 4294967296 := by
  have : z = 0 ∨ z = 1 ∨ z = 2 ∨ z = 3 ∨ z = 4 := by omega
  rcases this with rfl | rfl | rfl | rfl | rfl
  · exact ⟨_, at_of (j := 0) rfl rfl, by decide, by decide⟩
  · exact ⟨_, at_of (j := 1) rfl rfl, by decide, by decide⟩
  · exact ⟨_, at_of (j := 2) rfl rfl, by decide, by decide⟩
  · exact ⟨_, at_of (j := 3) rfl rfl, by decide, by decide⟩
  · exact ⟨_, at_of (j := 4) rfl rfl, by decide, by decide⟩
section
variable {P : Program} {w : World} {K : PySem.W.Frag} {mg : Str → Option Value} {base : Heap}
def spTake : Sp := fun vs H Q _ => ∃ (a : Addr) (u : Int) (c : Nat), vs = [.ref a, .int u] ∧ PotAt H a c ∧ 0 < u ∧ u < 1073741824 ∧ c ≤ 900000 ∧ ∀ (r : Int) H', 0 ≤ r → r < u → PotAt H' a (c + 1) → Only a H H' → Q (.int r) H'
abbrev nTake : List Str := ["pot", "upto", "digit", "prime", "blend"]
theorem scTake : FnScope nTake ["pot", "upto"] (defScope s_law_take) := ⟨rfl, rfl, rfl, by decide +kernel, rfl, by decide +kernel, by decide +kernel⟩
theorem ok_take {f : Addr} {fd : FuncData} (F : Fun K "_law_take" "_law_take" s_law_take f fd) (T : Bn mg) : FnOk P w K mg base CX0 1 f fd ["pot", "upto"] spTake := by
  refine F.ok scTake (fun vs H Q E h => ?_) (fun cdv A outer s H vs Q E hr h => ?_)
  · obtain ⟨a, u, c, rfl, _⟩ := h
    rfl
  · obtain ⟨a, u, c, rfl, ⟨p0, p1, p2, ha, h0, h1, h2, hc⟩, hu0, hu1, hcc, kk⟩ := h
    refine ⟨_, pss_cons (ps_if (pt_cmpR op_gt (pe_ix ix_list (pv 0) pe_int (fun _ _ => rfl)) pe_int (nomark _))
        (pss_cons (ps_set (i := 2) scTake.nd rfl (Or.inl rfl) (pe_op op_mod (pe_callTy call_int1 (by rfl) T.int (by decide +kernel) (pa_cons (pe_ix ix_list (pv 0) pe_int (fun _ _ => rfl)) pa_nil)) (pv 1)))
        (pss_cons (ps_asg (pe_op op_fdiv (pe_ix ix_list (pv 0) pe_int (fun _ _ => rfl)) (pv 1)) (pg_sub (pv 0) pe_int set_list))
        (pss_one (ps_ret (pv 2))))) pss_nil)
      (pss_cons (ps_asg (pe_op op_add (pe_ix ix_list (pv 0) pe_int (fun _ _ => rfl)) pe_int) (pg_sub (pv 0) pe_int set_list))
      (pss_cons (ps_set (i := 3) scTake.nd rfl (Or.inl rfl) (pe_ix ix_list (pe_lst (pa_cons pe_int (pa_cons pe_int (pa_cons pe_int (pa_cons pe_int (pa_cons pe_int pa_nil)))))) (pe_op op_mod (pe_callTy call_int1 (by rfl) T.int (by decide +kernel) (pa_cons (pe_ix ix_list (pv 0) pe_int (fun _ _ => rfl)) pa_nil)) pe_int) (fun _ _ => rfl)))
      (pss_cons (ps_set (i := 4) scTake.nd rfl (Or.inl rfl) (pe_op op_mod (pe_callTy call_int1 (by rfl) T.int (by decide +kernel) (pa_cons (pe_op op_pow (pe_callTy call_int1 (by rfl) T.int (by decide +kernel) (pa_cons (pe_op op_add (pe_op op_add (pe_ix ix_list (pv 0) pe_int (fun _ _ => rfl)) (pe_op op_mul (pe_op op_mul pe_int (pe_ix ix_list (pv 0) pe_int (fun _ _ => rfl))) (pe_ix ix_list (pv 0) pe_int (fun _ _ => rfl)))) pe_int) pa_nil)) pe_int) pa_nil)) (pv 3)))
      (pss_one (ps_ret (pe_op op_mod (pe_callTy call_int1 (by rfl) T.int (by decide +kernel) (pa_cons (pe_op op_fdiv (pe_op op_mul (pv 4) (pe_op op_add (pe_op op_mod (pe_callTy call_int1 (by rfl) T.int (by decide +kernel) (pa_cons (pv 4) pa_nil)) pe_int) (pe_op op_mul pe_int (pe_ix ix_list (pv 0) pe_int (fun _ _ => rfl))))) pe_int) pa_nil)) (pv 1))))))), ?_⟩
    have i0 : atI [V.int p0, V.int p1, V.int (p2 : Int)] 0 = some (.int p0) := at_of (j := 0) rfl rfl
    refine ⟨_, rfl, a, _, _, _, rfl, rfl, SqL.of ha, i0, _, _, rfl, rfl, _, rfl, ?_⟩
    by_cases c0 : 0 < p0
    · rw [decide_eq_true c0]
      refine iteT ⟨_, rfl, a, _, _, _, rfl, rfl, SqL.of ha, i0, .inl ⟨_, rfl, _, rfl, _, _, rfl, rfl, hu0, ?_⟩⟩
      refine ⟨_, rfl, a, _, _, _, rfl, rfl, SqL.of ha, i0, _, rfl, _, _, rfl, rfl, ⟨hu0, by omega⟩, _, rfl, a, _, _, 0, rfl, rfl, ha, rfl, ?_⟩
      refine ⟨_, rfl, kk (p0 % u) _ (Int.emod_nonneg _ (by omega)) (Int.emod_lt_of_pos _ hu0) ⟨p0 / u, p1, p2, upd_same, Int.ediv_nonneg h0 (by omega), h1, h2, by omega⟩ (only_upd (Only.refl a H))⟩
    · rw [decide_eq_false c0]
      refine iteF ?_
      have i2 : atI [V.int p0, V.int p1, V.int (p2 : Int)] 2 = some (.int (p2 : Int)) := at_of (j := 2) rfl rfl
      refine ⟨_, rfl, a, _, _, _, rfl, rfl, SqL.of ha, i2, _, _, rfl, rfl, _, rfl, a, _, _, 2, rfl, rfl, ha, rfl, ?_⟩
      have e2 : ((p2 : Int) + 1) = ((p2 + 1 : Nat) : Int) := rfl
      have j2 : atI [V.int p0, V.int p1, V.int ((p2 : Int) + 1)] 2 = some (.int ((p2 : Int) + 1)) := at_of (j := 2) rfl rfl
      have j1 : atI [V.int p0, V.int p1, V.int ((p2 : Int) + 1)] 1 = some (.int p1) := at_of (j := 1) rfl rfl
      have ha2 : (upd H a (.lst [.int p0, .int p1, .int ((p2 : Int) + 1)])) a = some (.lst [.int p0, .int p1, .int ((p2 : Int) + 1)]) := upd_same
      obtain ⟨q, hq, q0, q1⟩ := prime_at (((p2 : Int) + 1) % 5) (Int.emod_nonneg _ (by decide)) (Int.emod_lt_of_pos _ (by decide))
      refine ⟨(by show 5 ≤ sizeLine; decide), fun t ht => ?_⟩
      have ta : a ≠ t := ne_of_none ha2 ht
      have ha3 : (upd (upd H a (.lst [.int p0, .int p1, .int ((p2 : Int) + 1)])) t (.lst [.int 2147483647, .int 2147483629, .int 2147483587, .int 2147483579, .int 2147483563])) a = some (.lst [.int p0, .int p1, .int ((p2 : Int) + 1)]) := (upd_ne ta).trans ha2
      refine ⟨_, rfl, a, _, _, _, rfl, rfl, SqL.of ha3, j2, .inl ⟨_, rfl, _, _, rfl, rfl, (by show (0 : Int) < 5; decide), t, _, _, _, rfl, rfl, SqL.of upd_same, hq, ?_⟩⟩
      refine ⟨_, rfl, a, _, _, _, rfl, rfl, SqL.of ha3, j1, _, rfl, a, _, _, _, rfl, rfl, SqL.of ha3, j2, _, _, rfl, rfl, .inl ⟨by decide, by decide⟩, _, rfl, a, _, _, _, rfl, rfl, SqL.of ha3, j2, _, _, rfl, rfl, .inl (mul_in (by decide) (by decide) (by omega) (by omega)), _, _, rfl, rfl, _, _, rfl, rfl, .inl ⟨_, rfl, _, _, rfl, rfl, ⟨by decide, by decide, pow_base h1 h2 (by decide) (by decide) (by omega) (by omega) (by decide) (by decide)⟩, .inl ⟨_, rfl, _, rfl, _, _, rfl, rfl, q0, ?_⟩⟩⟩
      refine ⟨_, rfl, _, rfl, .inl ⟨_, rfl, _, _, rfl, rfl, (by show (0 : Int) < _; decide), _, rfl, a, _, _, _, rfl, rfl, SqL.of ha3, j2, _, _, rfl, rfl, .inl ⟨by decide, by decide⟩, _, _, rfl, rfl, _, _, rfl, rfl, .inl ⟨?_, ?_⟩, _, _, rfl, rfl, ⟨by decide, by decide⟩, .inl ⟨_, rfl, _, rfl, _, _, rfl, rfl, hu0, ?_⟩⟩⟩
      · exact Int.lt_of_lt_of_le (by decide) (Int.emod_nonneg _ (by omega))
      · exact Int.lt_trans (Int.emod_lt_of_pos _ q0) (Int.lt_trans q1 (by decide))
      · exact kk _ _ (Int.emod_nonneg _ (by omega)) (Int.emod_lt_of_pos _ hu0) ⟨p0, p1, p2 + 1, ha3, h0, h1, h2, by omega⟩ (fun b o e hb => by rw [upd_ne (ne_of_none ((upd_ne hb).trans e) ht), upd_ne hb]; exact e)
end
end Spr
namespace Spr
open PySem L2
section
variable {P : Program} {w : World} {K : PySem.W.Frag} {mg : Str → Option Value} {base : Heap}
abbrev nPot : List Str := ["script", "place", "cell", "own", "small"]
theorem scPot : FnScope nPot ["script", "place"] (defScope s_law_pot) := ⟨rfl, rfl, rfl, by decide +kernel, rfl, by decide +kernel, by decide +kernel⟩
def spPot (K : PySem.W.Frag) : Sp := fun vs H Q _ => ∃ (a : Addr) (ns : List Int) (pl : Nat), vs = [.ref a, .int (pl : Int)] ∧ SqL K H a (ns.map V.int) ∧ pl ≤ 10 ∧ ∀ p H', H p = none → Same H H' → PotAt H' p 0 → Q (.ref p) H'
theorem cut_one (ns : List Int) : cutV (ns.map V.int) Option.none (some 1) = (ns.take 1).map V.int := by
  show ((ns.map V.int).drop 0).take (HT.sIx (ns.map V.int).length (ns.map V.int).length (some ((1 : Nat) : Int)) - 0) = _
  rw [HT.sIx_nat, List.length_map, List.map_take]
  show (ns.map V.int).take (min 1 ns.length - 0) = _
  rw [Nat.sub_zero, List.take_eq_take_iff]
  simp
theorem b01 (b : Bool) : -(2 ^ 64) < (if b = true then (1 : Int) else 0) ∧ (if b = true then (1 : Int) else 0) < 2 ^ 64 := by
  cases b <;> exact ⟨by decide, by decide⟩
theorem ok_pot {f : Addr} {fd : FuncData} (F : Fun K "_law_pot" "_law_pot" s_law_pot f fd) (T : Bn mg) : FnOk P w K mg base CX0 1 f fd ["script", "place"] (spPot K) := by
  refine F.ok scPot (fun vs H Q E h => ?_) (fun cdv A outer s H vs Q E hr h => ?_)
  · obtain ⟨a, ns, pl, rfl, _⟩ := h
    rfl
  · obtain ⟨a, ns, pl, rfl, ha, hp, kk⟩ := h
    refine ⟨_, C8.pss_cut (ps_set (i := 2) scPot.nd rfl (Or.inl rfl) (pe_ifExp (pt_cmpR op_lt (pv 1) (pe_callB call_len_seq (by rfl) T.len PySem.boot_len (pa_cons (pv 0) pa_nil)) (nomark _)) (pe_ix ix_list (pv 0) (pv 1) (fun _ _ => rfl))
        (pe_op op_add (pe_op op_add (pe_op op_mod (pe_callTy call_int1 (by rfl) T.int (by decide +kernel) (pa_cons (pe_callB (cr_sum rfl) (by rfl) T.sum (by decide +kernel) (pa_cons (pe_slice sl_list (pv 0) po_none (po_some pe_int)) pa_nil)) pa_nil)) pe_int) (pe_op op_mul pe_int (pv 1))) pe_int)))
      (pss_cons (ps_set (i := 3) scPot.nd rfl (Or.inl rfl) (pe_op op_mul (pe_op op_mod (pe_callTy call_int1 (by rfl) T.int (by decide +kernel) (pa_cons (pe_callB call_abs (by rfl) T.abs (by decide +kernel) (pa_cons (pv 2) pa_nil)) pa_nil)) (pe_op op_powB (pe_op op_powB pe_int pe_int) pe_int))
          (pe_callTy call_int1 (by rfl) T.int (by decide +kernel) (pa_cons (pe_cmpR op_ge (pe_callB call_abs (by rfl) T.abs (by decide +kernel) (pa_cons (pv 2) pa_nil)) (pe_op op_powB pe_int pe_int) (nomark _)) pa_nil))))
      (pss_cons (ps_set (i := 4) scPot.nd rfl (Or.inl rfl) (pe_op op_mod (pe_callTy call_int1 (by rfl) T.int (by decide +kernel) (pa_cons (pv 2) pa_nil)) pe_int))
      (pss_one (ps_ret (pe_lst (pa_cons (pv 3) (pa_cons (pe_op op_mod (pe_callTy call_int1 (by rfl) T.int (by decide +kernel) (pa_cons (pe_op op_add (pe_op op_add (pe_op op_mul (pv 4) pe_int) (pe_op op_mul (pe_op op_mul pe_int (pv 1)) (pv 1))) pe_int) pa_nil)) pe_int) (pa_cons pe_int pa_nil)))))))), ?_⟩
    refine ⟨fun σ' H' => ∃ cell : Int, σ' = [some (.ref a), some (.int (pl : Int)), some (.int cell), none, none] ∧ Same H H', ?_, ?_⟩
    · refine ⟨_, rfl, _, rfl, a, _, rfl, .inl ha, _, _, rfl, rfl, _, rfl, ?_⟩
      rw [List.length_map]
      by_cases c : (pl : Int) < (ns.length : Int)
      · rw [decide_eq_true c]
        have hl : pl < ns.length := by omega
        refine iteT ⟨_, rfl, _, rfl, a, _, _, .int ns[pl], rfl, rfl, ha, at_of (j := pl) rfl (by rw [List.getElem?_map, List.getElem?_eq_getElem hl]; rfl), _, rfl, Same.refl H⟩
      · rw [decide_eq_false c]
        refine iteF ⟨_, rfl, 1, rfl, a, _, rfl, ha, fun p hp0 => ?_⟩
        refine ⟨p, ns.take 1, rfl, SqL.of (by rw [upd_same, cut_one]), .inl ⟨_, rfl, _, _, rfl, rfl, (by show (0 : Int) < _; decide), _, rfl, _, _, rfl, rfl, .inl ⟨by decide, by decide⟩, _, _, rfl, rfl, _, _, rfl, rfl, _, rfl, same_new hp0⟩⟩
    · rintro σ' H' ⟨cell, rfl, s1⟩
      have bigpos : (0 : Int) < ((10 : Int) ^ (60 : Int).toNat) ^ (5 : Int).toNat := by decide +kernel
      refine ⟨_, rfl, _, rfl, .inl ⟨_, rfl, _, _, rfl, rfl, ⟨by decide, by decide +kernel⟩, _, _, rfl, rfl, ⟨by decide, by decide +kernel⟩, _, _, rfl, rfl, bigpos, ?_⟩⟩
      refine ⟨_, rfl, _, rfl, _, _, rfl, rfl, ⟨by decide, by decide +kernel⟩, _, _, rfl, rfl, .inr ⟨_, rfl, _, _, rfl, rfl, .inr ?_, ?_⟩⟩
      · exact b01 _
      have own0 : ∀ (x : Int) (b : Bool), 0 ≤ (x % (((10 : Int) ^ (60 : Int).toNat) ^ (5 : Int).toNat)) * (if b = true then 1 else 0) := fun x b => Int.mul_nonneg (Int.emod_nonneg _ (by omega)) (by split <;> decide)
      refine ⟨_, rfl, .inl ⟨_, rfl, _, _, rfl, rfl, (by show (0 : Int) < _; decide), ?_⟩⟩
      have sm0 : ∀ x : Int, 0 ≤ x % 2305843009213693951 ∧ x % 2305843009213693951 < 2305843009213693951 := fun x => ⟨Int.emod_nonneg _ (by decide), Int.emod_lt_of_pos _ (by decide)⟩
      refine ⟨_, rfl, _, rfl, _, _, rfl, rfl, .inl ⟨Int.lt_of_lt_of_le (by decide) (sm0 cell).1, Int.lt_trans (sm0 cell).2 (by decide)⟩, _, rfl, _, _, rfl, rfl, .inl ⟨by decide, by decide⟩, _, rfl, _, _, rfl, rfl, .inr ⟨by omega, by omega⟩, _, _, rfl, rfl, _, _, rfl, rfl, .inl ⟨_, rfl, _, _, rfl, rfl, (by show (0 : Int) < _; decide), (by show 3 ≤ sizeLine; decide), fun p hp0 => ?_⟩⟩
      exact kk p _ (s1.free hp0) (Same.trans s1 (same_new hp0)) ⟨_, _, 0, upd_same, own0 _ _, Int.emod_nonneg _ (by decide), Int.lt_trans (Int.emod_lt_of_pos _ (by decide)) (by decide), Nat.le_refl 0⟩
theorem scOf : FnScope ["pot", "some"] ["pot", "some"] (defScope s_law_of) := ⟨rfl, rfl, rfl, by decide +kernel, rfl, by decide +kernel, by decide +kernel⟩
def spOf (K : PySem.W.Frag) : Sp := fun vs H Q _ => ∃ (a b : Addr) (xs : List V) (c : Nat), vs = [.ref a, .ref b] ∧ PotAt H a c ∧ ((SqL K H b xs ∧ H b = some (.lst xs) ∧ b ≠ a) ∨ H b = some (.tup xs)) ∧ 0 < xs.length ∧ xs.length ≤ 1000 ∧ c ≤ 900000 ∧
  ∀ (i : Nat) (x : V) H', xs[i]? = some x → PotAt H' a (c + 1) → Only a H H' → Q x H'
theorem ok_of {f fT : Addr} {fd fdT : FuncData} (F : Fun K "_law_of" "_law_of" s_law_of f fd) (T : Bn mg) (cT : Ca P w K mg base 1 "_law_take" ["pot", "upto"] spTake fT fdT) : FnOk P w K mg base CX0 2 f fd ["pot", "some"] (spOf K) := by
  refine F.ok scOf (fun vs H Q E h => ?_) (fun cdv A outer s H vs Q E hr h => ?_)
  · obtain ⟨a, b, xs, c, rfl, _⟩ := h
    rfl
  · obtain ⟨a, b, xs, c, rfl, hp, hb, l0, l1, hc, kk⟩ := h
    refine ⟨_, pss_one (ps_ret (pe_ix ix_seq (pv 1) (pe_ca cT hr (pa_cons (pv 0) (pa_cons (pe_callB call_len_seq (by rfl) T.len PySem.boot_len (pa_cons (pv 1) pa_nil)) pa_nil))) (fun _ _ => rfl))), ?_⟩
    have hb' : SqL K H b xs ∨ SqT K H b xs := hb.elim (fun q => .inl q.1) (fun q => .inr (SqT.of q))
    refine ⟨_, rfl, _, rfl, _, rfl, b, _, rfl, hb', a, (xs.length : Int), c, rfl, hp, by omega, by omega, hc, fun r H' r0 r1 hp' on => ?_⟩
    obtain ⟨i, rfl⟩ : ∃ i : Nat, r = (i : Int) := ⟨r.toNat, by omega⟩
    have hi : i < xs.length := by omega
    have hx : atI xs (i : Int) = some xs[i] := at_of (j := i) rfl (List.getElem?_eq_getElem hi)
    obtain ⟨p0, p1, p2, ha, _⟩ := id hp
    rcases hb with ⟨_, hb, hne⟩ | hb
    · exact .inl ⟨b, _, _, _, rfl, rfl, SqL.of (on _ _ hb hne), hx, kk i _ H' (List.getElem?_eq_getElem hi) hp' on⟩
    · exact .inr (.inl ⟨b, _, _, _, rfl, rfl, SqT.of (on _ _ hb (ne_of hb ha (by intro z; cases z))), hx, kk i _ H' (List.getElem?_eq_getElem hi) hp' on⟩)
theorem scCells : FnScope ["script", "limit"] ["script", "limit"] (defScope s_law_cells) := ⟨rfl, rfl, rfl, by decide +kernel, rfl, by decide +kernel, by decide +kernel⟩
def spCells (K : PySem.W.Frag) : Sp := fun vs H Q _ => ∃ (a : Addr) (xs : List V) (lim : Nat), vs = [.ref a, .int (lim : Int)] ∧ SqL K H a xs ∧ 1 ≤ lim ∧ lim ≤ 9 ∧ ∀ (l : Addr) (m : Nat), 1 ≤ m → m ≤ lim → H l = none → Q (.ref l) (upd H l (.lst (rgV 0 (m : Int))))
theorem ok_cells {f : Addr} {fd : FuncData} (F : Fun K "_law_cells" "_law_cells" s_law_cells f fd) (T : Bn mg) : FnOk P w K mg base CX0 1 f fd ["script", "limit"] (spCells K) := by
  refine F.ok scCells (fun vs H Q E h => ?_) (fun cdv A outer s H vs Q E hr h => ?_)
  · obtain ⟨a, xs, lim, rfl, _⟩ := h
    rfl
  · obtain ⟨a, xs, lim, rfl, ha, h1, h2, kk⟩ := h
    refine ⟨_, pss_one (ps_ret (pe_listRg rfl (by rfl) T.list (prg_1 (by rfl) T.range (pe_callB (call_max2 rfl) (by rfl) T.max (by decide +kernel) (pa_cons pe_int (pa_cons (pe_callB (call_min2 rfl) (by rfl) T.min (by decide +kernel) (pa_cons (pv 1) (pa_cons (pe_callB call_len_seq (by rfl) T.len PySem.boot_len (pa_cons (pv 0) pa_nil)) pa_nil))) pa_nil)))))), ?_⟩
    refine ⟨_, rfl, _, rfl, a, _, rfl, .inl ha, _, _, rfl, _, _, rfl, _, rfl, ?_⟩
    obtain ⟨m, hm, m1, m2⟩ : ∃ m : Nat, (if (if (xs.length : Int) < (lim : Int) then (xs.length : Int) else (lim : Int)) > 1 then (if (xs.length : Int) < (lim : Int) then (xs.length : Int) else (lim : Int)) else 1) = (m : Int) ∧ 1 ≤ m ∧ m ≤ lim := by
      by_cases c1 : (xs.length : Int) < (lim : Int)
      · rw [if_pos c1]
        by_cases c2 : (xs.length : Int) > 1
        · rw [if_pos c2]
          exact ⟨xs.length, rfl, by omega, by omega⟩
        · rw [if_neg c2]
          exact ⟨1, rfl, by omega, by omega⟩
      · rw [if_neg c1]
        by_cases c2 : (lim : Int) > 1
        · rw [if_pos c2]
          exact ⟨lim, rfl, by omega, by omega⟩
        · rw [if_neg c2]
          exact ⟨1, rfl, by omega, by omega⟩
    rw [hm]
    refine ⟨⟨by decide, by decide, by omega, by omega, ?_⟩, fun l hl => kk l m m1 m2 hl⟩
    have : ((m : Int) - 0).toNat = m := by omega
    rw [this]
    exact Nat.le_trans m2 (Nat.le_trans h2 (by decide))
end
end Spr
namespace Spr
open PySem L2
/-! ### like data -/
def flatL : V → Bool
  | .non => true
  | .int _ => true
  | .str _ => true
  | _ => false
def Like : Nat → Hp → V → V → Prop
  | 0, _, u, v => u = v ∧ flatL u = true
  | n + 1, H, u, v => (u = v ∧ flatL u = true) ∨ ∃ (a b : Addr) (xs ys : List V), u = .ref a ∧ v = .ref b ∧ H a = some (.tup xs) ∧ H b = some (.tup ys) ∧ xs.length = ys.length ∧ xs.length ≤ 900 ∧ ∀ (i : Nat) (x y : V), xs[i]? = some x → ys[i]? = some y → Like n H x y
theorem Like.same : ∀ {n : Nat} {H H' : Hp} {u v : V}, Same H H' → Like n H u v → Like n H' u v
  | 0, _, _, _, _, _, h => h
  | _ + 1, _, _, _, _, s, .inl h => .inl h
  | n + 1, _, _, _, _, s, .inr ⟨a, b, xs, ys, e1, e2, h1, h2, h3, h4, h5⟩ => .inr ⟨a, b, xs, ys, e1, e2, s _ _ h1, s _ _ h2, h3, h4, fun i x y p q => Like.same s (h5 i x y p q)⟩
theorem Like.flat {n : Nat} {H : Hp} {u : V} (h : flatL u = true) : Like n H u u := by
  cases n with
  | zero => exact ⟨rfl, h⟩
  | succ n => exact .inl ⟨rfl, h⟩
section
variable {P : Program} {w : World} {K : PySem.W.Frag} {mg : Str → Option Value} {base : Heap}
def spLike (n : Nat) : Sp := fun vs H Q _ => ∃ u v : V, vs = [u, v] ∧ Like n H u v ∧ ∀ H', Same H H' → Q (.bl true) H'
abbrev nLike : List Str := ["one", "other", "mine", "its", "is_whole"]
theorem scLike : FnScope nLike ["one", "other"] (defScope s_law_is_like) := ⟨rfl, rfl, rfl, by decide +kernel, rfl, by decide +kernel, by decide +kernel⟩
theorem ok_like {f : Addr} {fd : FuncData} (F : Fun K "_law_is_like" "_law_is_like" s_law_is_like f fd) (T : Bn mg) (m : mg "_law_is_like" = some (.ref f)) (kp : PySem.W.keepIn K (.ref f) = true) (b : Binds K fd ["one", "other"] []) : ∀ n : Nat, FnOk P w K mg base CX0 (n + 1) f fd ["one", "other"] (spLike n) := by
  intro n
  induction n with
  | zero =>
    refine F.ok scLike (fun vs H Q E h => ?_) (fun cdv A outer s H vs Q E hr h => ?_)
    · obtain ⟨u, v, rfl, _⟩ := h
      rfl
    · obtain ⟨u, v, rfl, ⟨rfl, hfl⟩, k⟩ := h
      refine ⟨_, pss_cons (ps_if (PW.pt (pw_and (pt_val (pe_callB call_isi (by rfl) T.isi (by decide +kernel) (pa_cons (pv 0) (pa_cons (pe_bltn (v := .ty "tuple") (by rfl) T.tuple (by decide +kernel) rfl) pa_nil)))) (pw_and1 (pt_val (pe_callB call_isi (by rfl) T.isi (by decide +kernel) (pa_cons (pv 1) (pa_cons (pe_bltn (v := .ty "tuple") (by rfl) T.tuple (by decide +kernel) rfl) pa_nil))))))) pss_never pss_nil)
        (pss_cons (ps_set (i := 4) scLike.nd rfl (Or.inl rfl) (pe_and (pe_callB call_isi (by rfl) T.isi (by decide +kernel) (pa_cons (pv 0) (pa_cons (pe_bltn (v := .ty "int") (by rfl) T.int (by decide +kernel) rfl) pa_nil))) (pe_one (pe_not (pe_callB call_isi (by rfl) T.isi (by decide +kernel) (pa_cons (pv 0) (pa_cons (pe_bltn (v := .ty "bool") (by rfl) T.bool (by decide +kernel) rfl) pa_nil)))))))
        (pss_one (ps_ret (pe_and (pe_cmpR op_eq (pv 4) (pe_and (pe_callB call_isi (by rfl) T.isi (by decide +kernel) (pa_cons (pv 1) (pa_cons (pe_bltn (v := .ty "int") (by rfl) T.int (by decide +kernel) rfl) pa_nil))) (pe_one (pe_not (pe_callB call_isi (by rfl) T.isi (by decide +kernel) (pa_cons (pv 1) (pa_cons (pe_bltn (v := .ty "bool") (by rfl) T.bool (by decide +kernel) rfl) pa_nil)))))) (nomark _)) (pe_one (pe_cmpR op_eq (pv 0) (pv 1) (nomark _))))))), ?_⟩
      cases u with
      | int i =>
        refine ⟨_, rfl, .int i, _, _, _, false, rfl, .ty "tuple", .base (.int i), kit_ty (by decide +kernel), false, rfl, iteF (iteF ?_)⟩
        refine ⟨_, rfl, .int i, _, _, _, true, rfl, .ty "int", .base (.int i), kit_ty (by decide +kernel), true, rfl, iteT ?_⟩
        refine ⟨_, rfl, .int i, _, _, _, false, rfl, .ty "bool", .base (.int i), kit_ty (by decide +kernel), false, rfl, ?_⟩
        refine ⟨_, rfl, _, rfl, .int i, _, _, _, true, rfl, .ty "int", .base (.int i), kit_ty (by decide +kernel), true, rfl, iteT ?_⟩
        refine ⟨_, rfl, .int i, _, _, _, false, rfl, .ty "bool", .base (.int i), kit_ty (by decide +kernel), false, rfl, rfl, true, rfl, iteT ?_⟩
        refine ⟨_, rfl, _, rfl, rfl, ?_⟩
        rw [decide_eq_true rfl]
        exact k H (Same.refl H)
      | non =>
        refine ⟨_, rfl, .non, _, _, _, false, rfl, .ty "tuple", .base .non, kit_ty (by decide +kernel), false, rfl, iteF (iteF ?_)⟩
        refine ⟨_, rfl, .non, _, _, _, false, rfl, .ty "int", .base .non, kit_ty (by decide +kernel), false, rfl, iteF ?_⟩
        refine ⟨_, rfl, _, rfl, .non, _, _, _, false, rfl, .ty "int", .base .non, kit_ty (by decide +kernel), false, rfl, iteF ⟨rfl, true, rfl, iteT ?_⟩⟩
        exact ⟨_, rfl, _, rfl, rfl, k H (Same.refl H)⟩
      | str z =>
        refine ⟨_, rfl, .str z, _, _, _, false, rfl, .ty "tuple", .base (.str z), kit_ty (by decide +kernel), false, rfl, iteF (iteF ?_)⟩
        refine ⟨_, rfl, .str z, _, _, _, false, rfl, .ty "int", .base (.str z), kit_ty (by decide +kernel), false, rfl, iteF ?_⟩
        refine ⟨_, rfl, _, rfl, .str z, _, _, _, false, rfl, .ty "int", .base (.str z), kit_ty (by decide +kernel), false, rfl, iteF ⟨rfl, true, rfl, iteT ?_⟩⟩
        refine ⟨_, rfl, _, rfl, rfl, ?_⟩
        rw [decide_eq_true rfl]
        exact k H (Same.refl H)
      | bl _ => cases hfl
      | byt _ => cases hfl
      | flt _ => cases hfl
      | ref _ => cases hfl
      | ty _ => cases hfl
  | succ n ih =>
    refine F.ok scLike (fun vs H Q E h => ?_) (fun cdv A outer s H vs Q E hr h => ?_)
    · obtain ⟨u, v, rfl, _⟩ := h
      rfl
    · obtain ⟨u, v, rfl, hl, k⟩ := h
      have cR : Ca P w K mg base (n + 1) "_law_is_like" ["one", "other"] (spLike n) f fd := ⟨ih, m, kp, b⟩
      refine ⟨_, pss_cons (ps_if (PW.pt (pw_and (pt_val (pe_callB call_isi (by rfl) T.isi (by decide +kernel) (pa_cons (pv 0) (pa_cons (pe_bltn (v := .ty "tuple") (by rfl) T.tuple (by decide +kernel) rfl) pa_nil)))) (pw_and1 (pt_val (pe_callB call_isi (by rfl) T.isi (by decide +kernel) (pa_cons (pv 1) (pa_cons (pe_bltn (v := .ty "tuple") (by rfl) T.tuple (by decide +kernel) rfl) pa_nil)))))))
          (pss_one (ps_ret (pe_and (pe_cmpR op_eq (pe_callB call_len_seq (by rfl) T.len PySem.boot_len (pa_cons (pv 0) pa_nil)) (pe_callB call_len_seq (by rfl) T.len PySem.boot_len (pa_cons (pv 1) pa_nil)) (nomark _)) (pe_one (pe_callB (cr_all rfl) (by rfl) T.all (by decide +kernel) (pa_cons (pe_lc (own := [("mine", 2), ("its", 3)]) (g := gTup K 2 (gCons (gName 2) (gCons (gName 3) gNil))) (tt := tYes) rfl scLike.nd (RZ.pi_zipA (by rfl) T.zip (pa_cons (pv 0) (pa_cons (pv 1) pa_nil))) (blkOk_by (N := nLike) (sc := defScope s_law_is_like) (by decide +kernel))
            (fun _ _ _ _ _ => pg_tup rfl (pgs_cons (pg_name (i := 2) scLike.nd rfl (Or.inl rfl)) (pgs_cons (pg_name (i := 3) scLike.nd rfl (Or.inl rfl)) pgs_nil))) (fun _ _ _ _ _ => pts_nil) (fun _ _ _ _ _ => pe_ca cR (by assumption) (pa_cons (pv 2) (pa_cons (pv 3) pa_nil)))) pa_nil)))))) pss_nil)
        (pss_cons (ps_set (i := 4) scLike.nd rfl (Or.inl rfl) (pe_and (pe_callB call_isi (by rfl) T.isi (by decide +kernel) (pa_cons (pv 0) (pa_cons (pe_bltn (v := .ty "int") (by rfl) T.int (by decide +kernel) rfl) pa_nil))) (pe_one (pe_not (pe_callB call_isi (by rfl) T.isi (by decide +kernel) (pa_cons (pv 0) (pa_cons (pe_bltn (v := .ty "bool") (by rfl) T.bool (by decide +kernel) rfl) pa_nil)))))))
        (pss_one (ps_ret (pe_and (pe_cmpR op_eq (pv 4) (pe_and (pe_callB call_isi (by rfl) T.isi (by decide +kernel) (pa_cons (pv 1) (pa_cons (pe_bltn (v := .ty "int") (by rfl) T.int (by decide +kernel) rfl) pa_nil))) (pe_one (pe_not (pe_callB call_isi (by rfl) T.isi (by decide +kernel) (pa_cons (pv 1) (pa_cons (pe_bltn (v := .ty "bool") (by rfl) T.bool (by decide +kernel) rfl) pa_nil)))))) (nomark _)) (pe_one (pe_cmpR op_eq (pv 0) (pv 1) (nomark _))))))), ?_⟩
      rcases hl with ⟨rfl, hfl⟩ | ⟨a, b2, xs, ys, rfl, rfl, ha, hb, hlen, h900, hall⟩
      · cases u with
        | int i =>
          refine ⟨_, rfl, .int i, _, _, _, false, rfl, .ty "tuple", .base (.int i), kit_ty (by decide +kernel), false, rfl, iteF (iteF ?_)⟩
          refine ⟨_, rfl, .int i, _, _, _, true, rfl, .ty "int", .base (.int i), kit_ty (by decide +kernel), true, rfl, iteT ?_⟩
          refine ⟨_, rfl, .int i, _, _, _, false, rfl, .ty "bool", .base (.int i), kit_ty (by decide +kernel), false, rfl, ?_⟩
          refine ⟨_, rfl, _, rfl, .int i, _, _, _, true, rfl, .ty "int", .base (.int i), kit_ty (by decide +kernel), true, rfl, iteT ?_⟩
          refine ⟨_, rfl, .int i, _, _, _, false, rfl, .ty "bool", .base (.int i), kit_ty (by decide +kernel), false, rfl, rfl, true, rfl, iteT ?_⟩
          refine ⟨_, rfl, _, rfl, rfl, ?_⟩
          rw [decide_eq_true rfl]
          exact k H (Same.refl H)
        | non =>
          refine ⟨_, rfl, .non, _, _, _, false, rfl, .ty "tuple", .base .non, kit_ty (by decide +kernel), false, rfl, iteF (iteF ?_)⟩
          refine ⟨_, rfl, .non, _, _, _, false, rfl, .ty "int", .base .non, kit_ty (by decide +kernel), false, rfl, iteF ?_⟩
          refine ⟨_, rfl, _, rfl, .non, _, _, _, false, rfl, .ty "int", .base .non, kit_ty (by decide +kernel), false, rfl, iteF ⟨rfl, true, rfl, iteT ?_⟩⟩
          exact ⟨_, rfl, _, rfl, rfl, k H (Same.refl H)⟩
        | str z =>
          refine ⟨_, rfl, .str z, _, _, _, false, rfl, .ty "tuple", .base (.str z), kit_ty (by decide +kernel), false, rfl, iteF (iteF ?_)⟩
          refine ⟨_, rfl, .str z, _, _, _, false, rfl, .ty "int", .base (.str z), kit_ty (by decide +kernel), false, rfl, iteF ?_⟩
          refine ⟨_, rfl, _, rfl, .str z, _, _, _, false, rfl, .ty "int", .base (.str z), kit_ty (by decide +kernel), false, rfl, iteF ⟨rfl, true, rfl, iteT ?_⟩⟩
          refine ⟨_, rfl, _, rfl, rfl, ?_⟩
          rw [decide_eq_true rfl]
          exact k H (Same.refl H)
        | bl _ => cases hfl
        | byt _ => cases hfl
        | flt _ => cases hfl
        | ref _ => cases hfl
        | ty _ => cases hfl
      · refine ⟨_, rfl, .ref a, _, _, _, true, rfl, .ty "tuple", .base (.tup ha), kit_ty (by decide +kernel), true, rfl, iteT ?_⟩
        refine ⟨_, rfl, .ref b2, _, _, _, true, rfl, .ty "tuple", .base (.tup hb), kit_ty (by decide +kernel), true, rfl, iteT ?_⟩
        refine ⟨_, rfl, a, _, rfl, .inr (SqT.of ha), _, rfl, b2, _, rfl, .inr (SqT.of hb), rfl, true, by rw [hlen, decide_eq_true rfl], iteT ?_⟩
        refine ⟨_, rfl, _, rfl, a, b2, _, _, rfl, .inr ⟨SqT.of ha, SqT.of hb, fun D hD => ?_⟩⟩
        refine lc_it (walk_zipT rfl) (PvS H D fun i => List.replicate i (.bl true)) (pv0 hD rfl) (fun i H' _ q => ⟨sTup q.1 (SqT.of ha), sTup q.1 (SqT.of hb)⟩) (fun i x H2 H3 hi q y => ?_) (fun H2 q => ?_)
        · obtain ⟨T', x1, x2, rfl, hT, rfl, e1, e2⟩ := y
          have s3 : Same H (upd H2 T' (.tup [x1, x2])) := same_upd q.1 (q.1.free hT)
          have hil : i < xs.length := (List.getElem?_eq_some_iff.mp e1).1
          refine ⟨T', _, rfl, SqT.of upd_same, rfl, _, _, rfl, _, _, rfl, rfl, rfl, _, rfl, _, rfl, x1, x2, rfl, (hall i x1 x2 e1 e2).same s3, fun H4 s4 => ?_⟩
          refine pvStep hD (Same.trans s3 s4) (s4 _ _ ((upd_ne (ne_of_none q.2 hT)).trans q.2)) (by rw [List.length_replicate]; exact small1000 (by omega)) List.replicate_succ'
        · refine ⟨D, _, rfl, SqL.of (by rw [q.2, List.map_replicate]), ?_⟩
          rw [bl_all_replicate]
          exact k H2 q.1
end
end Spr
namespace Spr
open PySem L2
def restC : Nat → Nat → MS → Nat × MS
  | 0, c, S => (c, S)
  | f + 1, c, S => match S.slips with
    | [] => (c, S)
    | x :: _ => restC f (c + 1) (dlv S x.1 x.2)
theorem restC_spec : ∀ (f c : Nat) (S : MS), (restC f c S).2.slips = [] → ∃ m, (restC f c S).1 = c + m ∧ restN m S = (restC f c S).2 ∧ ∀ j, j < m → (restN j S).slips ≠ []
  | 0, c, S, h => ⟨0, rfl, rfl, fun j hj => absurd hj (Nat.not_lt_zero j)⟩
  | f + 1, c, S, h => by
    unfold restC at h ⊢
    cases hs : S.slips with
    | nil =>
      simp only
      exact ⟨0, rfl, rfl, fun j hj => absurd hj (Nat.not_lt_zero j)⟩
    | cons x xs =>
      rw [hs] at h
      simp only at h ⊢
      obtain ⟨m, h1, h2, h3⟩ := restC_spec f (c + 1) (dlv S x.1 x.2) h
      have es : stepR S = dlv S x.1 x.2 := by
        unfold stepR
        rw [hs]
      refine ⟨m + 1, by rw [h1]; omega, ?_, fun j hj => ?_⟩
      · show restN m (stepR S) = _
        rw [es]
        exact h2
      · cases j with
        | zero =>
          show S.slips ≠ []
          rw [hs]
          exact List.cons_ne_nil _ _
        | succ j =>
          show (restN j (stepR S)).slips ≠ []
          rw [es]
          exact h3 j (by omega)
theorem rest_unique {S : MS} {m m' : Nat} (h : (restN m S).slips = []) (hm : ∀ j, j < m → (restN j S).slips ≠ []) (h' : (restN m' S).slips = []) (hm' : ∀ j, j < m' → (restN j S).slips ≠ []) : m' = m := by
  rcases Nat.lt_trichotomy m m' with q | q | q
  · exact absurd h (hm' m q)
  · exact q.symm
  · exact absurd h' (hm m' q)
def sl4 (x : Int × Sl) : Int × Int × Int × Nat × Int := (x.1, x.2.frm, x.2.to, (match x.2.kd with | .said => 0 | .echo => 1 | .prom => 2), x.2.val)
def honS (n : Nat) (first v : Int) : MS := initS n (((n : Int) + ((n : Int) - 1) / 3) / 2 + 1) (((n : Int) - 1) / 3 + 1) (2 * (((n : Int) - 1) / 3) + 1) [] first (some v)
def othersOf (n : Nat) (first : Int) : List Int := ((List.range n).map fun (i : Nat) => (i : Int)).filter fun h => decide (h ≠ first)
def enumL {α : Type} : Nat → List α → List (Nat × α)
  | _, [] => []
  | i, x :: xs => (i, x) :: enumL (i + 1) xs
def honSl (n : Nat) (first v : Int) : List (Int × Int × Int × Nat × Int) :=
  (enumL 0 (othersOf n first)).map (fun p => ((p.1 : Int), first, p.2, 0, v)) ++ (enumL 0 (othersOf n first)).map (fun p => ((n : Int) - 1 + (p.1 : Int), first, p.2, 1, v))
def honOk (n : Nat) (first v : Int) : Bool :=
  let S := honS n first v
  let p := restC 120 0 S
  decide (S.slips.map sl4 = honSl n first v) && decide (p.1 = (n - 1) * (2 * n + 1)) && p.2.slips.isEmpty && decide (p.2.ears.length = n) && p.2.ears.all (fun E => decide (E.echoed = some v) && decide (E.promised = some v) && decide (E.took = some v))
theorem hon4 : ∀ f ∈ List.range 4, ∀ v ∈ List.range 10, honOk 4 (f : Int) (v : Int) = true := by decide +kernel
theorem hon5 : ∀ f ∈ List.range 5, ∀ v ∈ List.range 10, honOk 5 (f : Int) (v : Int) = true := by decide +kernel
theorem hon6 : ∀ f ∈ List.range 6, ∀ v ∈ List.range 10, honOk 6 (f : Int) (v : Int) = true := by decide +kernel
theorem hon7_0 : ∀ v ∈ List.range 10, honOk 7 (0 : Int) (v : Int) = true := by decide +kernel
theorem hon7_1 : ∀ v ∈ List.range 10, honOk 7 (1 : Int) (v : Int) = true := by decide +kernel
theorem hon7_2 : ∀ v ∈ List.range 10, honOk 7 (2 : Int) (v : Int) = true := by decide +kernel
theorem hon7_3 : ∀ v ∈ List.range 10, honOk 7 (3 : Int) (v : Int) = true := by decide +kernel
theorem hon7_4 : ∀ v ∈ List.range 10, honOk 7 (4 : Int) (v : Int) = true := by decide +kernel
theorem hon7_5 : ∀ v ∈ List.range 10, honOk 7 (5 : Int) (v : Int) = true := by decide +kernel
theorem hon7_6 : ∀ v ∈ List.range 10, honOk 7 (6 : Int) (v : Int) = true := by decide +kernel
theorem hon7 : ∀ f ∈ List.range 7, ∀ v ∈ List.range 10, honOk 7 (f : Int) (v : Int) = true := by
  intro f hf v hv
  have : f < 7 := List.mem_range.mp hf
  have : f = 0 ∨ f = 1 ∨ f = 2 ∨ f = 3 ∨ f = 4 ∨ f = 5 ∨ f = 6 := by omega
  rcases this with rfl | rfl | rfl | rfl | rfl | rfl | rfl
  · exact hon7_0 v hv
  · exact hon7_1 v hv
  · exact hon7_2 v hv
  · exact hon7_3 v hv
  · exact hon7_4 v hv
  · exact hon7_5 v hv
  · exact hon7_6 v hv
end Spr
namespace Spr
open PySem L2
theorem enumL_get {α : Type} : ∀ (xs : List α) (k i : Nat), (enumL k xs)[i]? = xs[i]?.map fun x => (k + i, x)
  | [], k, i => by simp [enumL]
  | x :: xs, k, 0 => rfl
  | x :: xs, k, i + 1 => by
    show (enumL (k + 1) xs)[i]? = xs[i]?.map _
    rw [enumL_get xs (k + 1) i]
    congr 1
    funext y
    rw [show k + 1 + i = k + (i + 1) by omega]
theorem enumL_len {α : Type} : ∀ (xs : List α) (k : Nat), (enumL k xs).length = xs.length
  | [], _ => rfl
  | x :: xs, k => by
    show (enumL (k + 1) xs).length + 1 = xs.length + 1
    rw [enumL_len xs (k + 1)]
theorem Like.up : ∀ {n : Nat} {H : Hp} {u v : V}, Like n H u v → Like (n + 1) H u v
  | 0, _, _, _, h => .inl h
  | _ + 1, _, _, _, .inl h => .inl h
  | n + 1, _, _, _, .inr ⟨a, b, xs, ys, e1, e2, h1, h2, h3, h4, h5⟩ => .inr ⟨a, b, xs, ys, e1, e2, h1, h2, h3, h4, fun i x y p q => Like.up (h5 i x y p q)⟩
theorem sumN_le : ∀ l : List ME, sumN (l.map potE) ≤ 2 * l.length
  | [] => Nat.le_refl _
  | E :: r => by
    have := sumN_le r
    have h : potE E ≤ 2 := by
      unfold potE
      split <;> split <;> decide
    show potE E + sumN (r.map potE) ≤ 2 * (r.length + 1)
    omega
theorem initS_pot {n : Nat} {e r d : Int} {liars : List Int} {first : Int} {value : Option Int} (p : MkP n e r d liars first value) : (initS n e r d liars first value).log.length + pot (initS n e r d liars first value) ≤ 400 := by
  have w0 := init0_wf p
  have n12 := p.n12
  have base : pot (init0 n e r d liars first value) ≤ 12 * 24 := by
    have := sumN_le (init0 n e r d liars first value).ears
    have e1 : (init0 n e r d liars first value).ears.length = n := List.length_replicate
    show 0 + 12 * sumN _ ≤ _
    omega
  unfold initS
  cases value with
  | none =>
    show 0 + pot (init0 n e r d liars first none) ≤ 400
    omega
  | some v =>
    dsimp only
    split
    · show 0 + pot (init0 n e r d liars first (some v)) ≤ 400
      omega
    · have w1 : WfS (putAll (init0 n e r d liars first (some v)) first .said v) := putAll_wf w0 p.f0 p.f1
      have kp := putTo_keeps (init0 n e r d liars first (some v)) first .said v (init0 n e r d liars first (some v)).n
      have h1 := hearS_pot w1 (snd := first) (k := .said) (v := v) p.f0 (by rw [show (putAll (init0 n e r d liars first (some v)) first .said v).n = n from kp.1]; exact p.f1)
      have h2 : pot (putAll (init0 n e r d liars first (some v)) first .said v) ≤ n + 12 * 24 := by
        have hl := putTo_len (init0 n e r d liars first (some v)) first .said v (init0 n e r d liars first (some v)).n
        have he : (putAll (init0 n e r d liars first (some v)) first .said v).ears = (init0 n e r d liars first (some v)).ears := kp.2.2.2.2.2.2.2.1
        unfold pot at base ⊢
        rw [he]
        have hl : (putAll (init0 n e r d liars first (some v)) first .said v).slips.length ≤ 0 + n := hl
        have : (init0 n e r d liars first (some v)).slips.length = 0 := rfl
        omega
      have hlog : (hearS (putAll (init0 n e r d liars first (some v)) first .said v) first first .said v).log = [] := (hearS_keeps _ _ _ _ _).2.2.2.2.2.2.2.trans kp.2.2.2.2.2.2.2.2
      rw [hlog]
      show 0 + _ ≤ _
      omega
/-- a property that may be read -/
structure Pr (P : Program) (w : World) (K : PySem.W.Frag) (mg : Str → Option Value) (base : Heap) (k : Nat) (C : Addr) (x : Str) (sp : Sp) (p g : Addr) (fd : FuncData) : Prop where
  ok : FnOk P w K mg base CX0 k g fd ["self"] sp
  pr : PropOf K C x p g
  b : Binds K fd ["self"] []
section
variable {X : Cx} {k : Nat} {C p g : Addr} {fd : FuncData} {sp : Sp} {x : Str} {pos : Pos} {o : PySem.Expr} {ta : TE}
theorem pe_pr (he : PE X o ta) (cl : Cls X.K C) (c : Pr X.prog X.w X.K X.mg X.base k C x sp p g fd) (hr : Room (k + 1) X.A) (hab : attributeBase o x X.env (eval o X.env) = eval o X.env := by rfl) : PE X (.Attribute o x pos) (tProp C sp [] E0 ta) :=
  pe_prop he cl c.pr c.ok hr c.b .nil pass0 hab
end
theorem like_tups {H : Hp} {l l2 : Addr} {us ds : List Addr} {X : List (List V)} (h1 : H l = some (.tup (us.map V.ref))) (h2 : H l2 = some (.tup (ds.map V.ref))) (t1 : TupsAt H us X) (t2 : TupsAt H ds X) (hf : ∀ x ∈ X, x.all flatL = true ∧ x.length ≤ 900) (hl : X.length ≤ 900) : Like 2 H (.ref l) (.ref l2) := by
  refine .inr ⟨l, l2, _, _, rfl, rfl, h1, h2, by rw [List.length_map, List.length_map, t1.len, t2.len], by rw [List.length_map, t1.len]; exact hl, fun i x y hx hy => ?_⟩
  rw [List.getElem?_map] at hx hy
  cases e1 : us[i]? with
  | none => rw [e1] at hx; cases hx
  | some u =>
    cases e2 : ds[i]? with
    | none => rw [e2] at hy; cases hy
    | some d =>
      rw [e1] at hx
      rw [e2] at hy
      have hx : V.ref u = x := Option.some.inj hx
      have hy : V.ref d = y := Option.some.inj hy
      subst hx hy
      obtain ⟨r1, g1, k1⟩ := t1.at e1
      obtain ⟨r2, g2, k2⟩ := t2.at e2
      rw [g1] at g2
      have := Option.some.inj g2
      subst this
      obtain ⟨f1, f2⟩ := hf r1 (List.mem_of_getElem? g1)
      refine .inr ⟨u, d, _, _, rfl, rfl, k1, k2, rfl, f2, fun j x y hx hy => ?_⟩
      rw [hx] at hy
      have := Option.some.inj hy
      subst this
      exact ⟨rfl, List.all_eq_true.mp f1 x (List.mem_of_getElem? hx)⟩
def rowV (x : Int × Int × Int × Nat × Int) : List V := [.int x.1, .int x.2.1, .int x.2.2.1, .str (if x.2.2.2.1 = 0 then "said" else if x.2.2.2.1 = 1 then "echo" else "promise"), .int x.2.2.2.2]
theorem unV_row (x : Int × Sl) : unV x = rowV (sl4 x) := by
  obtain ⟨k, f, t, kd, v⟩ := x
  cases kd <;> rfl
theorem rowV_flat (x : Int × Int × Int × Nat × Int) : (rowV x).all flatL = true ∧ (rowV x).length ≤ 900 := ⟨rfl, by show 5 ≤ 900; decide⟩
theorem slips_rows {S : MS} {R : List (Int × Int × Int × Nat × Int)} (h : S.slips.map sl4 = R) : S.slips.map unV = R.map rowV := by
  rw [← h, List.map_map]
  apply List.map_congr_left
  intro x _
  exact unV_row x
theorem honAll (n : Nat) (f v : Int) (h4 : 4 ≤ n) (h7 : n ≤ 7) (f0 : 0 ≤ f) (f1 : f < n) (v0 : 0 ≤ v) (v1 : v < 10) : honOk n f v = true := by
  obtain ⟨f', rfl⟩ : ∃ f' : Nat, f = (f' : Int) := ⟨f.toNat, by omega⟩
  obtain ⟨v', rfl⟩ : ∃ v' : Nat, v = (v' : Int) := ⟨v.toNat, by omega⟩
  have hv : v' ∈ List.range 10 := List.mem_range.mpr (by omega)
  have hf : f' ∈ List.range n := List.mem_range.mpr (by omega)
  have : n = 4 ∨ n = 5 ∨ n = 6 ∨ n = 7 := by omega
  rcases this with rfl | rfl | rfl | rfl
  · exact hon4 _ hf _ hv
  · exact hon5 _ hf _ hv
  · exact hon6 _ hf _ hv
  · exact hon7 _ hf _ hv
structure HonF (n : Nat) (f v : Int) : Prop where
  sl : (honS n f v).slips.map sl4 = honSl n f v
  m0 : (restN ((n - 1) * (2 * n + 1)) (honS n f v)).slips = []
  mn : ∀ j, j < (n - 1) * (2 * n + 1) → (restN j (honS n f v)).slips ≠ []
  el : (restN ((n - 1) * (2 * n + 1)) (honS n f v)).ears.length = n
  ea : ∀ E ∈ (restN ((n - 1) * (2 * n + 1)) (honS n f v)).ears, E.echoed = some v ∧ E.promised = some v ∧ E.took = some v
theorem honF (n : Nat) (f v : Int) (h : honOk n f v = true) : HonF n f v := by
  unfold honOk at h
  simp only [Bool.and_eq_true, decide_eq_true_eq, List.isEmpty_iff, List.all_eq_true] at h
  obtain ⟨⟨⟨⟨h1, h2⟩, h3⟩, h4⟩, h5⟩ := h
  obtain ⟨m, e1, e2, e3⟩ := restC_spec 120 0 (honS n f v) h3
  have em : m = (n - 1) * (2 * n + 1) := by omega
  rw [em] at e2 e3
  refine ⟨h1, by rw [e2]; exact h3, e3, by rw [e2]; exact h4, fun E hE => ?_⟩
  rw [e2] at hE
  have := h5 E hE
  exact ⟨this.1.1, this.1.2, this.2⟩
section
variable {P : Program} {w : World} {K : PySem.W.Frag} {mg : Str → Option Value} {base : Heap}
/-- all that the law's own defs call -/
structure Env19 (P : Program) (w : World) (K : PySem.W.Frag) (mg : Str → Option Value) (base : Heap) (C CE : Addr) (fT fU fL fO fI gU gE gP gT fR fLi fD pU pE pP pT : Addr) (dT dU dL dO dI eU eE eP eT dR dLi dD : FuncData) : Prop where
  T : Bn mg
  TS : TxS K C
  cT : Ca P w K mg base 1 "_law_take" ["pot", "upto"] spTake fT dT
  cU : Ca P w K mg base 4 "usual" ["n", "t"] spUsual fU dU
  cL : Ca P w K mg base 4 "_law_is_like" ["one", "other"] (spLike 3) fL dL
  cO : Ca P w K mg base 2 "_law_of" ["pot", "some"] (spOf K) fO dO
  MkS : Mk K C fI
  mS : mg "Spread" = some (.ref C)
  GS : FnOk P w K mg base CX0 6 fI dI ["self", "n", "counts", "liars", "first", "value"] (spInit C CE)
  bS : Binds K dI ["self", "n", "counts", "liars", "first", "value"] []
  pU : Pr P w K mg base 1 C "under_way" (spUnd C CE) pU gU eU
  pE : Pr P w K mg base 1 C "echoes" (spSel C CE (·.echoed)) pE gE eE
  pP : Pr P w K mg base 1 C "promises" (spSel C CE (·.promised)) pP gP eP
  pT : Pr P w K mg base 1 C "takings" (spSel C CE (·.took)) pT gT eT
  cR : Me P w K mg base 6 C "rest" ["self"] (spRest C CE) fR dR
  cLi : Me P w K mg base 5 C "lie" nLie (spLie C CE) fLi dLi
  cD : Me P w K mg base 5 C "deliver" ["self", "number"] (spDel C CE) fD dD
def spPart (k : Nat) : Sp := fun vs H Q _ => ∃ (a : Addr) (c : Nat), vs = [.ref a] ∧ PotAt H a c ∧ c ≤ 800000 ∧ ∀ H', PotAt H' a (c + k) → Only a H H' → Q (.bl true) H'
abbrev nHon : List Str := ["pot", "n", "first", "value", "spread", "others", "due", "alike", "hand", "number"]
theorem scHR : FnScope nHon ["pot"] (defScope s_law_is_honest_right) := ⟨rfl, rfl, rfl, by decide +kernel, rfl, by decide +kernel, by decide +kernel⟩
theorem ok_hr {f C CE fT fU fL fO fI gU gE gP gT fR fLi fD pU pE pP pT : Addr} {fd dT dU dL dO dI eU eE eP eT dR dLi dD : FuncData} (F : Fun K "_law_is_honest_right" "_law_is_honest_right" s_law_is_honest_right f fd) (Vn : Env19 P w K mg base C CE fT fU fL fO fI gU gE gP gT fR fLi fD pU pE pP pT dT dU dL dO dI eU eE eP eT dR dLi dD) : FnOk P w K mg base CX0 8 f fd ["pot"] (spPart 3) := by
  refine F.ok scHR (fun vs H Q E h => ?_) (fun cdv A outer s H vs Q E hr h => ?_)
  · obtain ⟨a, c, rfl, _⟩ := h
    rfl
  · obtain ⟨a, c, rfl, hp, hc, kk⟩ := h
    have T := Vn.T
    have hr1 := hr.mono (show 1 ≤ 7 by decide)
    have hr4 := hr.mono (show 4 ≤ 7 by decide)
    have hr2 := hr.mono (show 2 ≤ 7 by decide)
    have hr6 := hr.mono (show 6 ≤ 7 by decide)
    refine ⟨_, pss_cons (ps_set (i := 1) scHR.nd rfl (Or.inr rfl) (pe_op op_add pe_int (pe_ca Vn.cT hr1 (pa_cons (pv 0) (pa_cons pe_int pa_nil)))))
      (pss_cons (ps_asg (pe_tup (pa_cons (pe_ca Vn.cT hr1 (pa_cons (pv 0) (pa_cons (pv 1) pa_nil))) (pa_cons (pe_ca Vn.cT hr1 (pa_cons (pv 0) (pa_cons pe_int pa_nil))) pa_nil))) (pg_tup rfl (pgs_cons (pg_name (i := 2) scHR.nd rfl (Or.inr rfl)) (pgs_cons (pg_name (i := 3) scHR.nd rfl (Or.inr rfl)) pgs_nil))))
      (pss_cons (ps_set (i := 4) scHR.nd rfl (Or.inl rfl) (pe_make Vn.MkS Vn.GS hr rfl Vn.mS Vn.bS .nil pass0 (pa_cons (pv 1) (pa_cons (pe_ca Vn.cU hr4 (pa_cons (pv 1) (pa_cons (pe_op op_fdiv (pe_op op_sub (pv 1) pe_int) pe_int) pa_nil))) (pa_cons (pe_tup pa_nil) (pa_cons (pv 2) (pa_cons (pv 3) pa_nil)))))))
      (pss_cons (ps_setLc (i := 5) (own := [("hand", 8)]) (g := gName 8) rfl scHR.nd rfl rfl (sw_true rfl rfl rfl (by decide +kernel)) (pi_range1 rfl T.range (pa_cons (pv 1) pa_nil)) (blkOk_by (N := nHon) (sc := defScope s_law_is_honest_right) (by decide +kernel))
          (fun _ _ _ _ _ => pg_name (i := 8) scHR.nd rfl (Or.inl rfl)) (fun _ _ _ _ _ => pts_one (pt_cmpR op_ne (pv 8) (pv 2) (nomark _))) (fun _ _ _ _ _ => pv 8))
      (pss_cons (ps_setLc (i := 6) (own := [("number", 9), ("hand", 8)]) (g := gTup K 2 (gCons (gName 9) (gCons (gName 8) gNil))) (tt := tYes) rfl scHR.nd rfl rfl (sw_true rfl rfl rfl (by decide +kernel)) (pi_enum (by rfl) T.enumerate (pa_cons (pv 5) pa_nil)) (blkOk_by (N := nHon) (sc := defScope s_law_is_honest_right) (by decide +kernel))
          (fun _ _ _ _ _ => pg_tup rfl (pgs_cons (pg_name (i := 9) scHR.nd rfl (Or.inl rfl)) (pgs_cons (pg_name (i := 8) scHR.nd rfl (Or.inl rfl)) pgs_nil))) (fun _ _ _ _ _ => pts_nil) (fun _ _ _ _ _ => pe_tup (pa_cons (pv 9) (pa_cons (pv 2) (pa_cons (pv 8) (pa_cons pe_str (pa_cons (pv 3) pa_nil)))))))
      (pss_cons (ps_expr (pe_bm PySem.F.plainAttrs_list PySem.F.slot_list_extend PySem.F.type_list_extend mt_extend (pv 6) (pa_cons (pe_lc (own := [("number", 9), ("hand", 8)]) (g := gTup K 2 (gCons (gName 9) (gCons (gName 8) gNil))) (tt := tYes) rfl scHR.nd (pi_enum (by rfl) T.enumerate (pa_cons (pv 5) pa_nil)) (blkOk_by (N := nHon) (sc := defScope s_law_is_honest_right) (by decide +kernel))
          (fun _ _ _ _ _ => pg_tup rfl (pgs_cons (pg_name (i := 9) scHR.nd rfl (Or.inl rfl)) (pgs_cons (pg_name (i := 8) scHR.nd rfl (Or.inl rfl)) pgs_nil))) (fun _ _ _ _ _ => pts_nil) (fun _ _ _ _ _ => pe_tup (pa_cons (pe_op op_add (pe_op op_sub (pv 1) pe_int) (pv 9)) (pa_cons (pv 2) (pa_cons (pv 8) (pa_cons pe_str (pa_cons (pv 3) pa_nil))))))) pa_nil)))
      (pss_cons (ps_if (pt_not (pt_val (pe_ca Vn.cL hr4 (pa_cons (pe_pr (pv 4) Vn.TS.cl Vn.pU hr2) (pa_cons (pe_callTy call_tuple_of (by rfl) T.tuple (by decide +kernel) (pa_cons (pv 6) pa_nil)) pa_nil))))) (pss_one (ps_ret pe_bl)) pss_nil)
      (pss_cons (ps_if (pt_not (pt_val (pe_ca Vn.cL hr4 (pa_cons (pe_me0 (pv 4) Vn.TS.cl Vn.cR hr6) (pa_cons (pe_op op_mul (pe_op op_sub (pv 1) pe_int) (pe_op op_add (pe_op op_mul pe_int (pv 1)) pe_int)) pa_nil))))) (pss_one (ps_ret pe_bl)) pss_nil)
      (pss_cons (ps_set (i := 7) scHR.nd rfl (Or.inl rfl) (pe_callTy call_tuple_of (by rfl) T.tuple (by decide +kernel) (pa_cons (pe_lc (own := [("hand", 8)]) (g := gName 8) (tt := tYes) rfl scHR.nd (pi_range1 rfl T.range (pa_cons (pv 1) pa_nil)) (blkOk_by (N := nHon) (sc := defScope s_law_is_honest_right) (by decide +kernel))
          (fun _ _ _ _ _ => pg_name (i := 8) scHR.nd rfl (Or.inl rfl)) (fun _ _ _ _ _ => pts_nil) (fun _ _ _ _ _ => pv 3)) pa_nil)))
      (pss_one (ps_ret (pe_ca Vn.cL hr4 (pa_cons (pe_tup (pa_cons (pe_pr (pv 4) Vn.TS.cl Vn.pE hr2) (pa_cons (pe_pr (pv 4) Vn.TS.cl Vn.pP hr2) (pa_cons (pe_pr (pv 4) Vn.TS.cl Vn.pT hr2) pa_nil)))) (pa_cons (pe_tup (pa_cons (pv 7) (pa_cons (pv 7) (pa_cons (pv 7) pa_nil)))) pa_nil))))))))))))), ?_⟩
    refine ⟨_, rfl, a, 4, c, rfl, hp, by decide, by decide, by omega, fun r0 H1 h00 h01 hp1 on1 => ⟨_, _, rfl, rfl, ?_⟩⟩
    obtain ⟨n, hn⟩ : ∃ n : Nat, 4 + r0 = (n : Int) := ⟨(4 + r0).toNat, by omega⟩
    show gName 1 (.int (4 + r0)) _ _ _
    rw [hn]
    have n4 : 4 ≤ n := by omega
    have n7 : n ≤ 7 := by omega
    refine ⟨_, rfl, _, rfl, a, (n : Int), c + 1, rfl, hp1, by omega, by omega, by omega, fun f H2 f0 f1 hp2 on2 => ?_⟩
    refine ⟨_, rfl, a, 10, c + 2, rfl, hp2, by decide, by decide, by omega, fun v H3 v0 v1 hp3 on3 => ⟨by show 2 ≤ sizeLine; decide, fun t ht => ⟨t, _, rfl, SqT.of upd_same, rfl, _, _, rfl, _, _, rfl, rfl, ?_⟩⟩⟩
    have hF := honF n f v (honAll n f v n4 n7 f0 f1 v0 v1)
    refine ⟨_, rfl, _, rfl, _, rfl, _, _, rfl, rfl, _, _, rfl, rfl, ⟨by decide, by decide⟩, (n : Int), ((n : Int) - 1) / 3, rfl, by omega, by omega, by omega, by omega, by omega, fun tu htu => ⟨Nat.zero_le _, fun t0 ht0 => ⟨_, rfl, _, rfl, ?_⟩⟩⟩
    obtain ⟨Hb, hHb⟩ : ∃ Hb, Hb = upd (upd (upd H3 t (.tup [.int f, .int v])) tu (.tup [.int (((n : Int) + ((n : Int) - 1) / 3) / 2 + 1), .int (((n : Int) - 1) / 3 + 1), .int (2 * (((n : Int) - 1) / 3) + 1)])) t0 (.tup []) := ⟨_, rfl⟩
    have sb : Same H3 Hb := by
      rw [hHb]
      exact same_upd (same_upd (same_new ht) (Same.free (same_new ht) htu)) (Same.free (Same.trans (same_new ht) (same_new htu)) ht0)
    have htuB : Hb tu = some (.tup [.int (((n : Int) + ((n : Int) - 1) / 3) / 2 + 1), .int (((n : Int) - 1) / 3 + 1), .int (2 * (((n : Int) - 1) / 3) + 1)]) := by
      rw [hHb]
      exact same_new ht0 _ _ upd_same
    have ht0B : Hb t0 = some (.tup (([] : List Int).map V.int)) := by
      rw [hHb]
      exact upd_same
    have mp : MkP n (((n : Int) + ((n : Int) - 1) / 3) / 2 + 1) (((n : Int) - 1) / 3 + 1) (2 * (((n : Int) - 1) / 3) + 1) [] f (some v) := by
      refine ⟨by omega, by omega, fun z hz => ?_, (fun l hl => by cases hl), List.Pairwise.nil, by show 0 < n; omega, f0, f1, (fun h => by cases h), fun _ => ⟨v, rfl, v0, by omega⟩⟩
      simp only [List.mem_cons, List.not_mem_nil, or_false] at hz
      omega
    have hpB : PotAt Hb a (c + 3) := by
      obtain ⟨p0, p1, p2, ha, q⟩ := hp3
      exact ⟨p0, p1, p2, sb _ _ ha, q⟩
    have onB : Only a H Hb := Only.trans (Only.trans (Only.trans on1 on2) on3) (Same.only sb)
    rw [← hHb]
    clear hHb
    intro x dxx hx hdx hne
    have d1 : tu ≠ dxx := ne_of_none htuB hdx
    have d2 : tu ≠ x := ne_of_none htuB hx
    have d3 : t0 ≠ dxx := ne_of_none ht0B hdx
    have d4 : t0 ≠ x := ne_of_none ht0B hx
    refine ⟨x, dxx, tu, t0, n, _, _, _, [], f, some v, rfl, upd_same, (upd_ne d2).trans ((upd_ne d1).trans htuB), (upd_ne d4).trans ((upd_ne d3).trans ht0B), mp, fun A H5 ex ex2 ex3 sp5 ap kp5 fpn => ⟨rfl, ?_⟩⟩
    subst ex
    have s5 : Same Hb H5 := Same.made hx hdx kp5
    have nf : ∀ b o, Hb b = some o → ¬ Fp A b := fun b o e z => by
      rcases fpn b z with q | q
      · rw [q, hx] at e; cases e
      · rw [upd_ne (ne_of_none e hx), upd_ne (ne_of_none e hdx), e] at q; cases q
    have wf := initS_wf mp
    have esl : (initS n (((n : Int) + ((n : Int) - 1) / 3) / 2 + 1) (((n : Int) - 1) / 3 + 1) (2 * (((n : Int) - 1) / 3) + 1) [] f (some v)) = honS n f v := rfl
    rw [esl] at sp5 wf
    -- others
    have olen : (othersOf n f).length ≤ n := by
      unfold othersOf
      refine Nat.le_trans (List.length_filter_le _ _) ?_
      rw [List.length_map, List.length_range]
      exact Nat.le_refl _
    refine ⟨_, rfl, (n : Int), rfl, by omega, by omega, fun D1 hD1 => ?_⟩
    refine lc_range (lo := 0) (n := n) (PvS H5 D1 fun i => (othersOf i f).map V.int) (pv0 hD1 rfl) (fun i H6 hi q => ?_) (fun H6 q6 => ?_)
    · rw [Int.zero_add]
      refine ⟨rfl, _, rfl, _, rfl, rfl, _, rfl, ?_⟩
      have e1 : othersOf (i + 1) f = othersOf i f ++ (if (i : Int) ≠ f then [(i : Int)] else []) := by
        unfold othersOf
        rw [List.range_succ, List.map_append, List.filter_append]
        congr 1
        show List.filter _ [(i : Int)] = _
        rw [List.filter_cons]
        by_cases z : (i : Int) = f
        · simp [z]
        · simp [z]
      have l1 : (othersOf i f).length ≤ i := by
        unfold othersOf
        refine Nat.le_trans (List.length_filter_le _ _) ?_
        rw [List.length_map, List.length_range]
        exact Nat.le_refl _
      by_cases z : (i : Int) = f
      · rw [decide_eq_true (show V.int (i : Int) = V.int f by rw [z])]
        refine iteF (pvSkip q.1 q.2 ?_)
        rw [e1, if_neg (fun h => h z), List.append_nil]
      · rw [decide_eq_false (show ¬ V.int (i : Int) = V.int f from fun h => z (by injection h))]
        refine iteT ⟨_, rfl, pvStep hD1 q.1 q.2 (by rw [List.length_map]; exact small1000 (by omega)) ?_⟩
        rw [e1, if_pos z, List.map_append]
        rfl
    -- due
    have hrows := slips_rows hF.sl
    have hsl12 : (honS n f v).slips.length ≤ 2 * n := by
      have e := congrArg List.length hF.sl
      rw [List.length_map] at e
      rw [e]
      unfold honSl
      rw [List.length_append, List.length_map, List.length_map, enumL_len]
      omega
    unfold honSl at hrows
    have hD1 : H6 D1 = some (.lst ((othersOf n f).map V.int)) := q6.2
    have q61 : Same H5 H6 := q6.1
    clear q6
    generalize othersOf n f = os at hD1 olen hrows
    refine ⟨_, rfl, D1, _, rfl, SqL.of hD1, fun D2 hD2 => ?_⟩
    refine lc_it walk_enum (fun i H' => ∃ us : List Addr, us.length = i ∧ PvS H6 D2 (fun _ => us.map V.ref) i H' ∧ TupsAt H' us (((enumL 0 os).take i).map fun p => rowV ((p.1 : Int), f, p.2, 0, v))) ⟨[], rfl, pv0 hD2 rfl, True.intro⟩ (fun i H' _ ⟨_, _, q, _⟩ => SqL.of (q.1 _ _ hD1)) (fun i u H7 H8 hi ⟨us, hus, q, tu7⟩ y => ?_) (fun H7 ⟨us, hus, q7, tu7⟩ => ?_)
    · obtain ⟨T', x1, x2, rfl, hT, rfl, e1, e2⟩ := y
      obtain ⟨o, ho, rfl⟩ := map_at e2
      cases e1
      have hil : i < os.length := (List.getElem?_eq_some_iff.mp ho).1
      refine ⟨T', _, rfl, SqT.of upd_same, rfl, _, _, rfl, _, _, rfl, rfl, rfl, _, rfl, _, rfl, _, rfl, _, rfl, (by show 5 ≤ sizeLine; decide), fun t2 ht2 => ?_⟩
      have n1 : D2 ≠ T' := ne_of_none q.2 hT
      have n2 : D2 ≠ t2 := ne_of_none ((upd_ne n1).trans q.2) ht2
      have hT2 : H7 t2 = none := Same.free (same_new hT) ht2
      refine ⟨_, (upd_ne n2).trans ((upd_ne n1).trans q.2), ?_, us ++ [t2], by rw [List.length_append, hus]; rfl, ⟨same_upd (same_upd (same_upd q.1 (q.1.free hT)) (q.1.free hT2)) hD2, by rw [upd_same, List.map_append]; rfl⟩, ?_⟩
      · rw [List.length_map, hus]
        exact small1000 (by omega)
      · rw [List.take_add_one, enumL_get, ho, List.map_append]
        refine TupsAt.snoc ?_ (tu7.mono fun b xs h => ?_)
        · rw [upd_ne n2.symm, upd_same]
          show _ = some (HO.tup (rowV (((0 + i : Nat) : Int), f, o, 0, v)))
          rw [Nat.zero_add]
          rfl
        · rw [upd_ne (ne_of h q.2 (by intro z; cases z)), upd_ne (ne_of_none (same_new hT _ _ h) ht2), upd_ne (ne_of_none h hT)]
          exact h
    have e7 : ((enumL 0 os).take (os.map V.int).length) = enumL 0 os := by
      rw [List.length_map, ← enumL_len os 0, List.take_of_length_le (Nat.le_refl _)]
    rw [e7] at tu7
    have hD1' := q7.1 _ _ hD1
    have hlus : us.length = os.length := by rw [hus, List.length_map]
    -- due.extend
    refine ⟨_, rfl, .inl ⟨rfl, _, SqL.of q7.2⟩, ?_⟩
    refine ⟨_, rfl, D1, _, rfl, SqL.of hD1', fun D3 hD3 => ?_⟩
    refine lc_it walk_enum (fun i H' => ∃ us : List Addr, us.length = i ∧ PvS H7 D3 (fun _ => us.map V.ref) i H' ∧ TupsAt H' us (((enumL 0 os).take i).map fun p => rowV ((n : Int) - 1 + (p.1 : Int), f, p.2, 1, v))) ⟨[], rfl, pv0 hD3 rfl, True.intro⟩ (fun i H' _ ⟨_, _, q, _⟩ => SqL.of (q.1 _ _ hD1')) (fun i u H8 H9 hi ⟨us, hus, q, tu7⟩ y => ?_) (fun H8 ⟨us8, hus8, q8, tu8⟩ => ?_)
    · obtain ⟨T', x1, x2, rfl, hT, rfl, e1, e2⟩ := y
      obtain ⟨o, ho, rfl⟩ := map_at e2
      cases e1
      have hil : i < os.length := (List.getElem?_eq_some_iff.mp ho).1
      refine ⟨T', _, rfl, SqT.of upd_same, rfl, _, _, rfl, _, _, rfl, rfl, rfl, _, rfl, _, _, rfl, rfl, _, rfl, _, _, rfl, rfl, _, rfl, _, rfl, _, rfl, (by show 5 ≤ sizeLine; decide), fun t2 ht2 => ?_⟩
      have n1 : D3 ≠ T' := ne_of_none q.2 hT
      have n2 : D3 ≠ t2 := ne_of_none ((upd_ne n1).trans q.2) ht2
      have hT2 : H8 t2 = none := Same.free (same_new hT) ht2
      refine ⟨_, (upd_ne n2).trans ((upd_ne n1).trans q.2), ?_, us ++ [t2], by rw [List.length_append, hus]; rfl, ⟨same_upd (same_upd (same_upd q.1 (q.1.free hT)) (q.1.free hT2)) hD3, by rw [upd_same, List.map_append]; rfl⟩, ?_⟩
      · rw [List.length_map, hus]
        exact small1000 (by omega)
      · rw [List.take_add_one, enumL_get, ho, List.map_append]
        refine TupsAt.snoc ?_ (tu7.mono fun b xs h => ?_)
        · rw [upd_ne n2.symm, upd_same]
          show _ = some (HO.tup (rowV ((n : Int) - 1 + ((0 + i : Nat) : Int), f, o, 1, v)))
          rw [Nat.zero_add]
          rfl
        · rw [upd_ne (ne_of h q.2 (by intro z; cases z)), upd_ne (ne_of_none (same_new hT _ _ h) ht2), upd_ne (ne_of_none h hT)]
          exact h
    rw [e7] at tu8
    have hlus8 : us8.length = os.length := by rw [hus8, List.length_map]
    have D23 : D2 ≠ D3 := ne_of_none q7.2 hD3
    refine ⟨D2, D3, _, _, rfl, rfl, q8.1 _ _ q7.2, q8.2, ?_, ?_⟩
    · rw [List.length_map, List.length_map, hlus, hlus8]
      exact Nat.le_trans (show os.length + os.length ≤ 1000 by omega) (by decide)
    -- not _law_is_like(spread.under_way, tuple(due))
    have s9 : Same H5 (upd H8 D2 (.lst (us.map V.ref ++ us8.map V.ref))) := same_upd (Same.trans q61 (Same.trans q7.1 q8.1)) (q61.free hD2)
    have tu9 : TupsAt (upd H8 D2 (.lst (us.map V.ref ++ us8.map V.ref))) (us ++ us8) ((honS n f v).slips.map unV) := by
      rw [hrows, List.map_append, List.map_map, List.map_map]
      have ta : ∀ {as : List Addr} {X : List (List L2.V)} {bs : List Addr} {Y : List (List L2.V)} {H : Hp}, TupsAt H as X → TupsAt H bs Y → TupsAt H (as ++ bs) (X ++ Y) := by
        intro as
        induction as with
        | nil => intro X bs Y H h1 h2; cases X with | nil => exact h2 | cons _ _ => exact h1.elim
        | cons a as ih => intro X bs Y H h1 h2; cases X with | nil => exact h1.elim | cons _ _ => exact ⟨h1.1, ih h1.2 h2⟩
      have nd : ∀ b xs, H8 b = some (.tup xs) → upd H8 D2 (.lst (us.map V.ref ++ us8.map V.ref)) b = some (.tup xs) := fun b xs h => by
        rw [upd_ne (ne_of h (q8.1 _ _ q7.2) (by intro z; cases z))]
        exact h
      exact ta ((tu7.mono fun b xs h => q8.1 _ _ h).mono nd) (tu8.mono nd)
    have hdue : upd H8 D2 (.lst (us.map V.ref ++ us8.map V.ref)) D2 = some (.lst ((us ++ us8).map V.ref)) := by rw [upd_same, List.map_append]
    have sp9 := sp5.same s9
    generalize upd H8 D2 (.lst (us.map V.ref ++ us8.map V.ref)) = H9 at s9 tu9 hdue sp9
    refine ⟨_, rfl, A.p, A.dx, _, rfl, sp9.ob, A, honS n f v, rfl, sp9, wf, by omega, fun l1 us1 H10 hl1 s10 hul tul => ?_⟩
    refine ⟨_, rfl, D2, _, rfl, .inl ⟨SqL.of (s10 _ _ hdue), fun l2 hl2 => ?_⟩⟩
    refine ⟨_, _, rfl, ?_, fun H11 s11 => ⟨true, rfl, iteF ?_⟩⟩
    · have hflat : ∀ x ∈ (honS n f v).slips.map unV, x.all flatL = true ∧ x.length ≤ 900 := fun x hx => by
        obtain ⟨y, hy, rfl⟩ := List.mem_map.mp hx
        rw [unV_row]
        exact rowV_flat _
      have hlt := like_tups (H := upd H10 l2 (.tup ((us ++ us8).map V.ref))) (l := l1) (l2 := l2) ((upd_ne (ne_of_none hul hl2)).trans hul) upd_same (tul.mono fun b xs h => same_new hl2 _ _ h) ((tu9.mono fun b xs h => s10 _ _ h).mono fun b xs h => same_new hl2 _ _ h) hflat (by rw [List.length_map]; omega)
      rcases hlt with ⟨q, _⟩ | ⟨a1, b1, xs, ys, e1, e2, h1, h2, h3, h4, h5⟩
      · cases q
        exact absurd (hul.symm.trans (by rfl)) (by intro z; exact absurd (ne_of_none hul hl2) (fun z => z rfl))
      · exact .inr ⟨a1, b1, xs, ys, e1, e2, h1, h2, h3, h4, fun i x y hx hy => by
          have := h5 i x y hx hy
          exact Like.up this⟩
    -- rest
    have s12 : Same H5 H11 := Same.trans s9 (Same.trans s10 (Same.trans (same_new hl2) s11))
    have sp11 := sp5.same s12
    have hpot : (honS n f v).log.length + pot (honS n f v) ≤ 7000 := by
      have := initS_pot mp
      rw [esl] at this
      omega
    refine ⟨_, rfl, A.p, A.dx, _, rfl, sp11.ob, rfl, A, honS n f v, rfl, sp11, ap, wf, hpot, fun m H13 hm0 hmn wf13 _ sp13 kp13 => ?_⟩
    have em : m = (n - 1) * (2 * n + 1) := rest_unique hF.m0 hF.mn hm0 hmn
    subst em
    have emI : (((n - 1) * (2 * n + 1) : Nat) : Int) = ((n : Int) - 1) * (2 * (n : Int) + 1) := by
      have : n = 4 ∨ n = 5 ∨ n = 6 ∨ n = 7 := by omega
      rcases this with rfl | rfl | rfl | rfl <;> rfl
    refine ⟨_, rfl, _, _, rfl, rfl, _, rfl, _, _, rfl, rfl, .inl ⟨by decide, by decide⟩, _, _, rfl, rfl, _, _, rfl, rfl, .inl ⟨by omega, by omega⟩, _, _, rfl, ?_, fun H14 s14 => ⟨true, rfl, iteF ?_⟩⟩
    · exact .inl ⟨by rw [emI], rfl⟩
    -- alike
    have sb13 : Same Hb H13 := fun b o e => kp13 b o (s12 _ _ (s5 _ _ e)) (nf b o e)
    refine ⟨_, rfl, (n : Int), rfl, by omega, by omega, fun D4 hD4 => ?_⟩
    refine lc_range (lo := 0) (n := n) (PvS H14 D4 fun i => List.replicate i (.int v)) (pv0 hD4 rfl) (fun i H15 hi q => ?_) (fun H15 q15 => ?_)
    · exact ⟨rfl, _, rfl, pvStep hD4 q.1 q.2 (by rw [List.length_replicate]; exact small1000 (by omega)) List.replicate_succ'⟩
    refine ⟨D4, _, rfl, .inl ⟨SqL.of q15.2, fun l4 hl4 => ?_⟩⟩
    have s15 : Same H13 (upd H15 l4 (.tup (List.replicate n (.int v)))) := Same.trans s14 (Same.trans q15.1 (same_new hl4))
    have hl4' : upd H15 l4 (.tup (List.replicate n (.int v))) l4 = some (.tup (List.replicate n (.int v))) := upd_same
    have sp15 := sp13.same s15
    generalize upd H15 l4 (.tup (List.replicate n (.int v))) = H16 at s15 hl4' sp15
    have hel : ∀ (sel : ME → Option Int), (∀ E ∈ (restN ((n - 1) * (2 * n + 1)) (honS n f v)).ears, sel E = some v) → (restN ((n - 1) * (2 * n + 1)) (honS n f v)).ears.map (fun E => ov (sel E)) = List.replicate n (.int v) := fun sel hs => by
      apply List.eq_replicate_iff.mpr
      refine ⟨by rw [List.length_map]; exact hF.el, fun b hb => ?_⟩
      obtain ⟨E, hE, rfl⟩ := List.mem_map.mp hb
      rw [hs E hE]
      rfl
    refine ⟨_, rfl, A.p, A.dx, _, rfl, sp15.ob, A, _, rfl, sp15, wf13, fun l5 H17 hl5 s17 h5 => ?_⟩
    rw [hel _ fun E hE => (hF.ea E hE).1] at h5
    have sp17 := sp15.same s17
    refine ⟨_, rfl, A.p, A.dx, _, rfl, sp17.ob, A, _, rfl, sp17, wf13, fun l6 H18 hl6 s18 h6 => ?_⟩
    rw [hel _ fun E hE => (hF.ea E hE).2.1] at h6
    have sp18 := sp17.same s18
    refine ⟨_, rfl, A.p, A.dx, _, rfl, sp18.ob, A, _, rfl, sp18, wf13, fun l7 H19 hl7 s19 h7 => ⟨by show 3 ≤ sizeLine; decide, fun l8 hl8 => ?_⟩⟩
    rw [hel _ fun E hE => (hF.ea E hE).2.2] at h7
    refine ⟨_, rfl, _, rfl, _, rfl, (by show 3 ≤ sizeLine; decide), fun l9 hl9 => ?_⟩
    have k4 : ∀ b o, H19 b = some o → upd (upd H19 l8 (.tup [.ref l5, .ref l6, .ref l7])) l9 (.tup [.ref l4, .ref l4, .ref l4]) b = some o := fun b o e => Same.trans (same_new hl8) (same_new hl9) b o e
    refine ⟨_, _, rfl, ?_, fun H20 s20 => ?_⟩
    · have lk : ∀ l, H19 l = some (.tup (List.replicate n (.int v))) → Like 2 (upd (upd H19 l8 (.tup [.ref l5, .ref l6, .ref l7])) l9 (.tup [.ref l4, .ref l4, .ref l4])) (.ref l) (.ref l4) := fun l hl => by
        refine .inr ⟨l, l4, _, _, rfl, rfl, k4 _ _ hl, k4 _ _ (s19 _ _ (s18 _ _ (s17 _ _ hl4'))), rfl, by rw [List.length_replicate]; omega, fun i x y hx hy => ?_⟩
        rw [hx] at hy
        have := Option.some.inj hy
        subst this
        have := List.eq_of_mem_replicate (List.mem_of_getElem? hx)
        subst this
        exact Like.flat rfl
      refine .inr ⟨l8, l9, _, _, rfl, rfl, (same_new hl9) _ _ upd_same, upd_same, rfl, (by show 3 ≤ 900; decide), fun i x y hx hy => ?_⟩
      match i, hx, hy with
      | 0, hx, hy => cases hx; cases hy; exact lk l5 (s19 _ _ (s18 _ _ h5))
      | 1, hx, hy => cases hx; cases hy; exact lk l6 (s19 _ _ h6)
      | 2, hx, hy => cases hx; cases hy; exact lk l7 h7
      | i + 3, hx, hy => simp at hx
    · have sfin : Same Hb H20 := Same.trans sb13 (Same.trans s15 (Same.trans s17 (Same.trans s18 (Same.trans s19 (Same.trans (Same.trans (same_new hl8) (same_new hl9)) s20)))))
      refine kk H20 ?_ (Only.trans onB (Same.only sfin))
      obtain ⟨p0, p1, p2, ha, q⟩ := hpB
      exact ⟨p0, p1, p2, sfin _ _ ha, q⟩
end
end Spr
namespace Spr
open PySem L2
theorem stepR_keeps (S : MS) : (stepR S).n = S.n ∧ (stepR S).liars = S.liars := by
  unfold stepR
  split
  · exact ⟨rfl, rfl⟩
  · rename_i x _ _
    have h := hearS_keeps (popLog S x.1) x.2.to x.2.frm x.2.kd x.2.val
    exact ⟨h.1, h.2.2.2.2.1⟩
theorem restN_keeps : ∀ (m : Nat) (S : MS), (restN m S).n = S.n ∧ (restN m S).liars = S.liars
  | 0, _ => ⟨rfl, rfl⟩
  | m + 1, S => by
    have h := restN_keeps m (stepR S)
    have q := stepR_keeps S
    exact ⟨h.1.trans q.1, h.2.trans q.2⟩
theorem lieS_bnd (S : MS) (l t : Int) (k : Kd) (v : Int) : (lieS S l t k v).log.length + pot (lieS S l t k v) = S.log.length + pot S + 2 := by
  show (S.log ++ [_]).length + ((S.slips ++ [_]).length + 12 * sumN (S.ears.map potE)) = S.log.length + (S.slips.length + 12 * sumN (S.ears.map potE)) + 2
  rw [List.length_append, List.length_append]
  show S.log.length + 1 + (S.slips.length + 1 + _) = _
  omega
/-- a Spread in use: Hb the heap ahead of it, b a bound -/
structure Live (C CE : Addr) (A : SA) (Hb : Hp) (b : Nat) (S : MS) (H : Hp) : Prop where
  sp : SpAt C CE A S H
  wf : WfS S
  bd : S.log.length + pot S ≤ b
  sm : Same Hb H
def TK (H H' : Hp) : Prop := ∀ b xs, H b = some (.tup xs) → H' b = some (.tup xs)
theorem sTK {H H' : Hp} (s : Same H H') : TK H H' := fun b _ e => s b _ e
theorem TK.trans {H H1 H2 : Hp} (p : TK H H1) (q : TK H1 H2) : TK H H2 := fun b xs e => q b xs (p b xs e)
theorem Live.same {C CE : Addr} {A : SA} {Hb : Hp} {b : Nat} {S : MS} {H H' : Hp} (x : Live C CE A Hb b S H) (s : Same H H') : Live C CE A Hb b S H' := ⟨x.sp.same s, x.wf, x.bd, Same.trans x.sm s⟩
theorem Live.slips {C CE : Addr} {A : SA} {Hb : Hp} {b : Nat} {S : MS} {H : Hp} (x : Live C CE A Hb b S H) : S.slips.length ≤ b := Nat.le_trans (Nat.le_trans (Nat.le_add_right _ _) (Nat.le_add_left _ _)) x.bd
theorem Live.log {C CE : Addr} {A : SA} {Hb : Hp} {b : Nat} {S : MS} {H : Hp} (x : Live C CE A Hb b S H) : S.log.length ≤ b := Nat.le_trans (Nat.le_add_right _ _) x.bd
theorem lieX {C CE : Addr} {A : SA} {Hb : Hp} {b : Nat} {S : MS} {H H' : Hp} {l t : Int} {kd : Kd} {v : Int} (nf : ∀ b o, Hb b = some o → ¬ Fp A b) (x : Live C CE A Hb b S H) (hl : l ∈ S.liars) (hh : honest S t = true) (sp : SpAt C CE A (lieS S l t kd v) H') (kp : KeepF A H H') : Live C CE A Hb (b + 2) (lieS S l t kd v) H' ∧ TK H H' :=
  ⟨⟨sp, lieS_wf x.wf hl hh, by rw [lieS_bnd]; have := x.bd; omega, fun b o e => kp b o (x.sm b o e) (nf b o e)⟩, fun b xs e => kp b _ e (x.sp.tupF e)⟩
theorem restX {C CE : Addr} {A : SA} {Hb : Hp} {b : Nat} {S S' : MS} {H H' : Hp} {m m' : Nat} (nf : ∀ b o, Hb b = some o → ¬ Fp A b) (x : Live C CE A Hb b S H) (h1 : restN m S = S') (h2 : S'.slips = []) (h3 : ∀ j, j < m → (restN j S).slips ≠ [])
    (g1 : (restN m' S).slips = []) (g2 : ∀ j, j < m' → (restN j S).slips ≠ []) (wf : WfS (restN m' S)) (bd : (restN m' S).log.length + pot (restN m' S) ≤ S.log.length + pot S) (sp : SpAt C CE A (restN m' S) H') (kp : KeepF A H H') : m' = m ∧ Live C CE A Hb b S' H' ∧ TK H H' := by
  have em : m' = m := rest_unique (by rw [h1]; exact h2) h3 g1 g2
  subst em
  rw [h1] at wf bd sp
  exact ⟨rfl, ⟨sp, wf, Nat.le_trans bd x.bd, fun b o e => kp b o (x.sm b o e) (nf b o e)⟩, fun b xs e => kp b _ e (x.sp.tupF e)⟩
theorem selX {S : MS} {H' : Hp} {l : Addr} {sel : ME → Option Int} {vs : List (Option Int)} (hv : S.ears.map sel = vs) (h : H' l = some (.tup (S.ears.map fun E => ov (sel E)))) : H' l = some (.tup (vs.map ov)) := by
  rw [h, ← hv, List.map_map]
  rfl
/-- a tuple of flat values, told twice -/
theorem like_flat {H : Hp} {l l2 : Addr} {xs : List L2.V} (h1 : H l = some (.tup xs)) (h2 : H l2 = some (.tup xs)) (hf : xs.all flatL = true) (hl : xs.length ≤ 900) : Like 1 H (.ref l) (.ref l2) :=
  .inr ⟨l, l2, xs, xs, rfl, rfl, h1, h2, rfl, hl, fun i x y hx hy => by
    rw [hx] at hy
    have := Option.some.inj hy
    subst this
    exact ⟨rfl, List.all_eq_true.mp hf x (List.mem_of_getElem? hx)⟩⟩
theorem like2 {H : Hp} {l l2 : Addr} {a1 a2 b1 b2 : L2.V} (h1 : H l = some (.tup [a1, a2])) (h2 : H l2 = some (.tup [b1, b2])) (k1 : Like 2 H a1 b1) (k2 : Like 2 H a2 b2) : Like 3 H (.ref l) (.ref l2) :=
  .inr ⟨l, l2, _, _, rfl, rfl, h1, h2, rfl, (by show 2 ≤ 900; decide), fun i x y hx hy => by
    match i, hx, hy with
    | 0, hx, hy => cases hx; cases hy; exact k1
    | 1, hx, hy => cases hx; cases hy; exact k2
    | i + 2, hx, hy => simp at hx⟩
theorem like3 {H : Hp} {l l2 : Addr} {a1 a2 a3 b1 b2 b3 : L2.V} (h1 : H l = some (.tup [a1, a2, a3])) (h2 : H l2 = some (.tup [b1, b2, b3])) (k1 : Like 2 H a1 b1) (k2 : Like 2 H a2 b2) (k3 : Like 2 H a3 b3) : Like 3 H (.ref l) (.ref l2) :=
  .inr ⟨l, l2, _, _, rfl, rfl, h1, h2, rfl, (by show 3 ≤ 900; decide), fun i x y hx hy => by
    match i, hx, hy with
    | 0, hx, hy => cases hx; cases hy; exact k1
    | 1, hx, hy => cases hx; cases hy; exact k2
    | 2, hx, hy => cases hx; cases hy; exact k3
    | i + 3, hx, hy => simp at hx⟩
section
variable {P : Program} {w : World} {K : PySem.W.Frag} {mg : Str → Option Value} {base : Heap}
/-- the reading of Spread(n, (e, r, d), liars, first, value), all right -/
theorem made {C CE x dxx : Addr} {H : Hp} {E : XK} {tc tl : Addr} {n : Nat} {e r d : Int} {liars : List Int} {first : Int} {value : Option Int} {Q : VK} (htc : H tc = some (.tup [.int e, .int r, .int d])) (htl : H tl = some (.tup (liars.map V.int))) (mp : MkP n e r d liars first value)
    (hx : H x = none) (hdx : H dxx = none) (hne : dxx ≠ x) (k : ∀ (A : SA) (H' : Hp), A.p = x → Live C CE A H 400 (initS n e r d liars first value) H' → Apart C CE A → (∀ b o, H b = some o → ¬ Fp A b) → Q .non H') :
    spInit C CE (.ref x :: ([.int (n : Int), .ref tc, .ref tl, .int first, ov value] ++ [])) (upd (upd H dxx (.own x)) x (.ins C dxx [])) Q E := by
  have d1 : tc ≠ dxx := ne_of_none htc hdx
  have d2 : tc ≠ x := ne_of_none htc hx
  have d3 : tl ≠ dxx := ne_of_none htl hdx
  have d4 : tl ≠ x := ne_of_none htl hx
  refine ⟨x, dxx, tc, tl, n, _, _, _, liars, first, value, rfl, upd_same, (upd_ne d2).trans ((upd_ne d1).trans htc), (upd_ne d4).trans ((upd_ne d3).trans htl), mp, fun A H5 ex ex2 ex3 sp5 ap kp5 fpn => ?_⟩
  have s5 : Same H H5 := Same.made hx hdx kp5
  refine k A H5 ex ⟨sp5, initS_wf mp, initS_pot mp, s5⟩ ap fun b o e z => ?_
  rcases fpn b z with q | q
  · rw [q, hx] at e; cases e
  · rw [upd_ne (ne_of_none e hx), upd_ne (ne_of_none e hdx), e] at q; cases q
/-! ### the faced part -/
def fcS : MS := initS 4 3 2 3 [0] 0 none
def fcL (o : Int) : Nat → MS
  | 0 => fcS
  | 1 => lieS fcS 0 1 .said 5
  | 2 => lieS (lieS fcS 0 1 .said 5) 0 2 .said 5
  | _ => lieS (lieS (lieS fcS 0 1 .said 5) 0 2 .said 5) 0 3 .said o
theorem hon40 {S : MS} (hn : S.n = 4) (hl : S.liars = [0]) {h : Int} (h1 : 1 ≤ h) (h3 : h ≤ 3) : honest S h = true := by
  refine honest_iff.mpr ⟨by omega, by rw [hn]; show h < 4; omega, fun q => ?_⟩
  rw [hl] at q
  have := List.mem_singleton.mp q
  omega
theorem fcL_k (o : Int) : ∀ i : Nat, (fcL o i).n = 4 ∧ (fcL o i).liars = [0]
  | 0 => ⟨rfl, rfl⟩
  | 1 => ⟨rfl, rfl⟩
  | 2 => ⟨rfl, rfl⟩
  | _ + 3 => ⟨rfl, rfl⟩
theorem in0 {S : MS} (hl : S.liars = [0]) : (0 : Int) ∈ S.liars := by
  rw [hl]
  exact List.mem_singleton.mpr rfl
def fcOk (o : Int) : Bool :=
  let p1 := restC 100 0 (fcL o 3)
  let p2 := restC 100 0 (lieS p1.2 0 3 .echo 5)
  let p3 := restC 100 0 (lieS p2.2 0 1 .prom 5)
  decide (p1.1 = 9) && p1.2.slips.isEmpty && decide (p1.2.ears.map (·.echoed) = [none, some 5, some 5, some o]) && decide (p1.2.ears.map (·.promised) = [none, none, none, none]) && decide (p1.2.ears.map (·.took) = [none, none, none, none]) &&
  decide (p2.1 = 3) && p2.2.slips.isEmpty && decide (p2.2.ears.map (·.promised) = [none, none, none, some 5]) &&
  decide (p3.1 = 5) && p3.2.slips.isEmpty && decide (p3.2.ears.map (·.promised) = [none, some 5, some 5, some 5]) && decide (p3.2.ears.map (·.took) = [none, some 5, some 5, some 5])
theorem fc7 : fcOk 7 = true := by decide +kernel
theorem fc0 : fcOk 0 = true := by decide +kernel
theorem fc9 : fcOk 9 = true := by decide +kernel
structure FcF (o : Int) (m1 m2 m3 : Nat) (S1 S2 S3 : MS) : Prop where
  e1 : restN m1 (fcL o 3) = S1
  e2 : restN m2 (lieS S1 0 3 .echo 5) = S2
  e3 : restN m3 (lieS S2 0 1 .prom 5) = S3
  n1 : ∀ j, j < m1 → (restN j (fcL o 3)).slips ≠ []
  n2 : ∀ j, j < m2 → (restN j (lieS S1 0 3 .echo 5)).slips ≠ []
  n3 : ∀ j, j < m3 → (restN j (lieS S2 0 1 .prom 5)).slips ≠ []
  z1 : S1.slips = []
  z2 : S2.slips = []
  z3 : S3.slips = []
  k1 : m1 = 9
  k2 : m2 = 3
  k3 : m3 = 5
  a1 : S1.ears.map (·.echoed) = [none, some 5, some 5, some o]
  a2 : S1.ears.map (·.promised) = [none, none, none, none]
  a3 : S1.ears.map (·.took) = [none, none, none, none]
  b1 : S2.ears.map (·.promised) = [none, none, none, some 5]
  c1 : S3.ears.map (·.promised) = [none, some 5, some 5, some 5]
  c2 : S3.ears.map (·.took) = [none, some 5, some 5, some 5]
theorem fcF (o : Int) (h : fcOk o = true) : ∃ m1 m2 m3 S1 S2 S3, FcF o m1 m2 m3 S1 S2 S3 := by
  unfold fcOk at h
  simp only [Bool.and_eq_true, decide_eq_true_eq, List.isEmpty_iff] at h
  obtain ⟨⟨⟨⟨⟨⟨⟨⟨⟨⟨⟨h1, h2⟩, h3⟩, h4⟩, h5⟩, h6⟩, h7⟩, h8⟩, h9⟩, h10⟩, h11⟩, h12⟩ := h
  obtain ⟨m1, e1, e2, e3⟩ := restC_spec 100 0 _ h2
  obtain ⟨m2, f1, f2, f3⟩ := restC_spec 100 0 _ h7
  obtain ⟨m3, g1, g2, g3⟩ := restC_spec 100 0 _ h10
  exact ⟨m1, m2, m3, _, _, _, e2, f2, g2, e3, f3, g3, h2, h7, h10, by omega, by omega, by omega, h3, h4, h5, h8, h11, h12⟩
abbrev nFc : List Str := ["pot", "one", "other", "spread", "hand", "value"]
theorem scFc : FnScope nFc ["pot"] (defScope s_law_is_faced_right) := ⟨rfl, rfl, rfl, by decide +kernel, rfl, by decide +kernel, by decide +kernel⟩
theorem ok_fc {f C CE fT fU fL fO fI gU gE gP gT fR fLi fD pU pE pP pT : Addr} {fd dT dU dL dO dI eU eE eP eT dR dLi dD : FuncData} (F : Fun K "_law_is_faced_right" "_law_is_faced_right" s_law_is_faced_right f fd) (Vn : Env19 P w K mg base C CE fT fU fL fO fI gU gE gP gT fR fLi fD pU pE pP pT dT dU dL dO dI eU eE eP eT dR dLi dD) : FnOk P w K mg base CX0 8 f fd ["pot"] (spPart 1) := by
  refine F.ok scFc (fun vs H Q E h => ?_) (fun cdv A outer s H vs Q E hr h => ?_)
  · obtain ⟨a, c, rfl, _⟩ := h
    rfl
  · obtain ⟨a, c, rfl, hp, hc, kk⟩ := h
    have T := Vn.T
    have hr1 := hr.mono (show 1 ≤ 7 by decide)
    have hr4 := hr.mono (show 4 ≤ 7 by decide)
    have hr2 := hr.mono (show 2 ≤ 7 by decide)
    have hr5 := hr.mono (show 5 ≤ 7 by decide)
    have hr6 := hr.mono (show 6 ≤ 7 by decide)
    refine ⟨_, pss_cons (ps_par (i := 1) (j := 2) (by rfl) scFc.nd rfl rfl (by decide) rfl rfl (pa_cons pe_int (pa_cons (pe_ca Vn.cO hr2 (pa_cons (pv 0) (pa_cons (pe_lst (pa_cons pe_int (pa_cons pe_int (pa_cons pe_int pa_nil)))) pa_nil))) pa_nil)) (by rfl))
      (pss_cons (ps_set (i := 3) scFc.nd rfl (Or.inl rfl) (pe_make Vn.MkS Vn.GS hr rfl Vn.mS Vn.bS .nil pass0 (pa_cons pe_int (pa_cons (pe_tup (pa_cons pe_int (pa_cons pe_int (pa_cons pe_int pa_nil)))) (pa_cons (pe_tup (pa_cons pe_int pa_nil)) (pa_cons pe_int (pa_cons pe_non pa_nil)))))))
      (pss_cons (ps_for PassesOwn.never rfl (pi_tup (pe_tup (pa_cons (pe_tup (pa_cons pe_int (pa_cons (pv 1) pa_nil))) (pa_cons (pe_tup (pa_cons pe_int (pa_cons (pv 1) pa_nil))) (pa_cons (pe_tup (pa_cons pe_int (pa_cons (pv 2) pa_nil))) pa_nil))))) (pg_tup rfl (pgs_cons (pg_name (i := 4) scFc.nd rfl (Or.inl rfl)) (pgs_cons (pg_name (i := 5) scFc.nd rfl (Or.inl rfl)) pgs_nil)))
        (pss_one (ps_expr (pe_me (pv 3) Vn.TS.cl Vn.cLi hr5 (pa_cons pe_int (pa_cons (pv 4) (pa_cons pe_str (pa_cons (pv 5) pa_nil))))))))
      (pss_cons (ps_if (pt_not (pt_val (pe_ca Vn.cL hr4 (pa_cons (pe_tup (pa_cons (pe_me0 (pv 3) Vn.TS.cl Vn.cR hr6) (pa_cons (pe_pr (pv 3) Vn.TS.cl Vn.pE hr2) pa_nil))) (pa_cons (pe_tup (pa_cons pe_int (pa_cons (pe_tup (pa_cons pe_non (pa_cons (pv 1) (pa_cons (pv 1) (pa_cons (pv 2) pa_nil))))) pa_nil))) pa_nil))))) (pss_one (ps_ret pe_bl)) pss_nil)
      (pss_cons (ps_if (pt_not (pt_val (pe_ca Vn.cL hr4 (pa_cons (pe_tup (pa_cons (pe_pr (pv 3) Vn.TS.cl Vn.pP hr2) (pa_cons (pe_pr (pv 3) Vn.TS.cl Vn.pT hr2) pa_nil))) (pa_cons (pe_tup (pa_cons (pe_op op_repT (pe_tup (pa_cons pe_non pa_nil)) pe_int) (pa_cons (pe_op op_repT (pe_tup (pa_cons pe_non pa_nil)) pe_int) pa_nil))) pa_nil))))) (pss_one (ps_ret pe_bl)) pss_nil)
      (pss_cons (ps_expr (pe_me (pv 3) Vn.TS.cl Vn.cLi hr5 (pa_cons pe_int (pa_cons pe_int (pa_cons pe_str (pa_cons (pv 1) pa_nil))))))
      (pss_cons (ps_if (pt_not (pt_val (pe_ca Vn.cL hr4 (pa_cons (pe_tup (pa_cons (pe_me0 (pv 3) Vn.TS.cl Vn.cR hr6) (pa_cons (pe_pr (pv 3) Vn.TS.cl Vn.pP hr2) pa_nil))) (pa_cons (pe_tup (pa_cons pe_int (pa_cons (pe_tup (pa_cons pe_non (pa_cons pe_non (pa_cons pe_non (pa_cons (pv 1) pa_nil))))) pa_nil))) pa_nil))))) (pss_one (ps_ret pe_bl)) pss_nil)
      (pss_cons (ps_expr (pe_me (pv 3) Vn.TS.cl Vn.cLi hr5 (pa_cons pe_int (pa_cons pe_int (pa_cons pe_str (pa_cons (pv 1) pa_nil))))))
      (pss_one (ps_ret (pe_ca Vn.cL hr4 (pa_cons (pe_tup (pa_cons (pe_me0 (pv 3) Vn.TS.cl Vn.cR hr6) (pa_cons (pe_pr (pv 3) Vn.TS.cl Vn.pP hr2) (pa_cons (pe_pr (pv 3) Vn.TS.cl Vn.pT hr2) pa_nil)))) (pa_cons (pe_tup (pa_cons pe_int (pa_cons (pe_tup (pa_cons pe_non (pa_cons (pv 1) (pa_cons (pv 1) (pa_cons (pv 1) pa_nil))))) (pa_cons (pe_tup (pa_cons pe_non (pa_cons (pv 1) (pa_cons (pv 1) (pa_cons (pv 1) pa_nil))))) pa_nil)))) pa_nil)))))))))))), ?_⟩
    refine ⟨_, rfl, (by show 3 ≤ sizeLine; decide), fun t ht => ?_⟩
    obtain ⟨p0, p1, p2, ha, hpq⟩ := id hp
    have at_ : a ≠ t := ne_of_none ha ht
    refine ⟨a, t, _, c, rfl, ⟨p0, p1, p2, (upd_ne at_).trans ha, hpq⟩, .inl ⟨SqL.of upd_same, upd_same, at_.symm⟩, (by show 0 < 3; decide), (by show 3 ≤ 1000; decide), by omega, fun i x H1 hx hp1 on1 => ⟨_, _, rfl, ?_⟩⟩
    have on1' : Only a H H1 := Only.trans (Same.only (same_new ht)) on1
    obtain ⟨o, rfl, ho⟩ : ∃ o : Int, x = .int o ∧ fcOk o = true := by
      match i, hx with
      | 0, hx => cases hx; exact ⟨7, rfl, fc7⟩
      | 1, hx => cases hx; exact ⟨0, rfl, fc0⟩
      | 2, hx => cases hx; exact ⟨9, rfl, fc9⟩
      | i + 3, hx => simp at hx
    have ob : 0 ≤ o ∧ o ≤ 99 := by
      match i, hx with
      | 0, hx => cases hx; exact ⟨by decide, by decide⟩
      | 1, hx => cases hx; exact ⟨by decide, by decide⟩
      | 2, hx => cases hx; exact ⟨by decide, by decide⟩
      | i + 3, hx => simp at hx
    obtain ⟨m1, m2, m3, S1, S2, S3, ff⟩ := fcF o ho
    obtain ⟨k1, k2, k3⟩ := (⟨ff.k1, ff.k2, ff.k3⟩ : m1 = 9 ∧ m2 = 3 ∧ m3 = 5)
    subst k1 k2 k3
    -- spread
    refine ⟨(by show 3 ≤ sizeLine; decide), fun tc htc => ⟨(by show 1 ≤ sizeLine; decide), fun tl htl => ?_⟩⟩
    have mp : MkP 4 3 2 3 [0] 0 none := ⟨by decide, by decide, (fun z hz => by simp only [List.mem_cons, List.not_mem_nil, or_false] at hz; omega), (fun l hl => by rw [List.mem_singleton.mp hl]; decide), List.pairwise_singleton _ _, by decide, by decide, by decide, (fun _ => rfl), (fun h => absurd (List.mem_singleton.mpr rfl) h)⟩
    intro x dxx hx hdx hne
    refine made (n := 4) (e := 3) (r := 2) (d := 3) (liars := [0]) (first := 0) (value := none) ((upd_ne (ne_of_none upd_same htl)).trans upd_same) upd_same mp hx hdx hne (fun A H5 ex lv ap nf => ⟨rfl, ?_⟩)
    subst ex
    clear hx hdx hne
    have onB : Only a H (upd (upd H1 tc (.tup [.int 3, .int 2, .int 3])) tl (.tup [.int 0])) := Only.trans on1' (Same.only (Same.trans (same_new htc) (same_new htl)))
    have hpB : PotAt (upd (upd H1 tc (.tup [.int 3, .int 2, .int 3])) tl (.tup [.int 0])) a (c + 1) := by
      obtain ⟨p0, p1, p2, ha, q⟩ := hp1
      exact ⟨p0, p1, p2, Same.trans (same_new htc) (same_new htl) _ _ ha, q⟩
    generalize upd (upd H1 tc (.tup [.int 3, .int 2, .int 3])) tl (.tup [.int 0]) = Hb at lv nf onB hpB
    -- the loop
    refine ⟨_, rfl, (by show 2 ≤ sizeLine; decide), fun t1 h1 => ⟨_, rfl, (by show 2 ≤ sizeLine; decide), fun t2 h2 => ⟨_, rfl, (by show 2 ≤ sizeLine; decide), fun t3 h3 => ⟨(by show 3 ≤ sizeLine; decide), fun tt htt => ?_⟩⟩⟩⟩
    have g3 := same_new (o := .tup [.ref t1, .ref t2, .ref t3]) htt
    have c3 := g3 _ _ upd_same
    have g2 := Same.trans (same_new (o := .tup [.int 3, .int o]) h3) g3
    have c2 := g2 _ _ upd_same
    have g1 := Same.trans (same_new (o := .tup [.int 2, .int 5]) h2) g2
    have c1 := g1 _ _ upd_same
    have c0 : upd (upd (upd (upd H5 t1 (.tup [.int 1, .int 5])) t2 (.tup [.int 2, .int 5])) t3 (.tup [.int 3, .int o])) tt (.tup [.ref t1, .ref t2, .ref t3]) tt = some (.tup [.ref t1, .ref t2, .ref t3]) := upd_same
    have lvc := lv.same (Same.trans (same_new (o := .tup [.int 1, .int 5]) h1) g1)
    generalize upd (upd (upd (upd H5 t1 (.tup [.int 1, .int 5])) t2 (.tup [.int 2, .int 5])) t3 (.tup [.int 3, .int o])) tt (.tup [.ref t1, .ref t2, .ref t3]) = Hc at c0 c1 c2 c3 lvc
    clear g1 g2 g3
    refine ⟨tt, rfl, ⟨_, SqT.of c0⟩, for_tup (K := K) (a := tt) (xs := [.ref t1, .ref t2, .ref t3]) (fun i σ H' => (∃ v4 v5, σ = [some (.ref a), some (.int 5), some (.int o), some (.ref A.p), v4, v5]) ∧ Live C CE A Hb (400 + 2 * i) (fcL o i) H' ∧ TK Hc H') ⟨⟨none, none, rfl⟩, lvc, fun _ _ e => e⟩ (fun i σ H' _ ⟨_, _, tk⟩ => SqT.of (tk _ _ c0)) ?_ ?_⟩
    · rintro i x σ H' hx ⟨⟨v4, v5, rfl⟩, lv', tk⟩
      match i, hx, lv' with
      | 0, hx, lv' =>
        cases hx
        refine ⟨t1, _, rfl, SqT.of (tk _ _ c1), rfl, _, _, rfl, _, _, rfl, rfl, ?_⟩
        refine ⟨_, rfl, A.p, A.dx, _, rfl, lv'.sp.ob, rfl, _, rfl, _, rfl, ?_⟩
        refine ⟨A, _, 0, 1, .said, 5, rfl, lv'.sp, ap, lv'.wf, in0 (fcL_k o 0).2, hon40 (fcL_k o 0).1 (fcL_k o 0).2 (by decide) (by decide), (by decide), (by decide), Nat.le_trans lv'.slips (by decide), Nat.le_trans lv'.log (by decide), fun H2 sp kp => ?_⟩
        obtain ⟨l2, k2⟩ := lieX nf lv' (in0 (fcL_k o 0).2) (hon40 (fcL_k o 0).1 (fcL_k o 0).2 (by decide) (by decide)) sp kp
        exact ⟨⟨_, _, rfl⟩, l2, tk.trans k2⟩
      | 1, hx, lv' =>
        cases hx
        refine ⟨t2, _, rfl, SqT.of (tk _ _ c2), rfl, _, _, rfl, _, _, rfl, rfl, ?_⟩
        refine ⟨_, rfl, A.p, A.dx, _, rfl, lv'.sp.ob, rfl, _, rfl, _, rfl, ?_⟩
        refine ⟨A, _, 0, 2, .said, 5, rfl, lv'.sp, ap, lv'.wf, in0 (fcL_k o 1).2, hon40 (fcL_k o 1).1 (fcL_k o 1).2 (by decide) (by decide), (by decide), (by decide), Nat.le_trans lv'.slips (by decide), Nat.le_trans lv'.log (by decide), fun H2 sp kp => ?_⟩
        obtain ⟨l2, k2⟩ := lieX nf lv' (in0 (fcL_k o 1).2) (hon40 (fcL_k o 1).1 (fcL_k o 1).2 (by decide) (by decide)) sp kp
        exact ⟨⟨_, _, rfl⟩, l2, tk.trans k2⟩
      | 2, hx, lv' =>
        cases hx
        refine ⟨t3, _, rfl, SqT.of (tk _ _ c3), rfl, _, _, rfl, _, _, rfl, rfl, ?_⟩
        refine ⟨_, rfl, A.p, A.dx, _, rfl, lv'.sp.ob, rfl, _, rfl, _, rfl, ?_⟩
        refine ⟨A, _, 0, 3, .said, o, rfl, lv'.sp, ap, lv'.wf, in0 (fcL_k o 2).2, hon40 (fcL_k o 2).1 (fcL_k o 2).2 (by decide) (by decide), ob.1, ob.2, Nat.le_trans lv'.slips (by decide), Nat.le_trans lv'.log (by decide), fun H2 sp kp => ?_⟩
        obtain ⟨l2, k2⟩ := lieX nf lv' (in0 (fcL_k o 2).2) (hon40 (fcL_k o 2).1 (fcL_k o 2).2 (by decide) (by decide)) sp kp
        exact ⟨⟨_, _, rfl⟩, l2, tk.trans k2⟩
      | i + 3, hx, _ => simp at hx
    rintro σ H' ⟨⟨v4, v5, rfl⟩, lv', _⟩
    have li : ∀ S : MS, S.liars = [0] → (0 : Int) ∈ S.liars := fun S h => by rw [h]; exact List.mem_singleton.mpr rfl
    -- the first rest
    refine ⟨_, rfl, A.p, A.dx, _, rfl, lv'.sp.ob, rfl, ?_⟩
    have lv'' : Live C CE A Hb 406 (fcL o 3) H' := lv'
    refine ⟨A, fcL o 3, rfl, lv''.sp, ap, lv''.wf, Nat.le_trans lv''.bd (by decide), fun m6 H6 g1 g2 wf6 bd6 sp6 kp6 => ?_⟩
    obtain ⟨e6, lv6, _⟩ := restX nf lv'' ff.e1 ff.z1 ff.n1 g1 g2 wf6 bd6 sp6 kp6
    clear g1 g2 wf6 bd6 sp6 kp6
    subst e6
    refine ⟨_, rfl, A.p, A.dx, _, rfl, lv6.sp.ob, A, S1, rfl, lv6.sp, lv6.wf, fun l7 H7 _ s7 h7 => ⟨(by show 2 ≤ sizeLine; decide), fun l8 h8 => ?_⟩⟩
    have h7 := selX (sel := (·.echoed)) ff.a1 h7
    have lv7 := lv6.same s7
    refine ⟨_, rfl, _, rfl, _, rfl, (by show 4 ≤ sizeLine; decide), fun l9 h9 => ⟨(by show 2 ≤ sizeLine; decide), fun l10 h10 => ?_⟩⟩
    have s8 := same_new (o := .tup [.int ((9 : Nat) : Int), .ref l7]) h8
    have s9 := same_new (o := .tup [.non, .int 5, .int 5, .int o]) h9
    have s10 := same_new (o := .tup [.int 9, .ref l9]) h10
    refine ⟨_, _, rfl, like2 (s10 _ _ (s9 _ _ upd_same)) upd_same (.inl ⟨rfl, rfl⟩) (Like.up (like_flat (s10 _ _ (s9 _ _ (s8 _ _ h7))) (s10 _ _ upd_same) rfl (by show 4 ≤ 900; decide))), fun H11 s11 => ⟨true, rfl, iteF ?_⟩⟩
    have lv11 := lv7.same (Same.trans s8 (Same.trans s9 (Same.trans s10 s11)))
    -- promises, takings
    refine ⟨_, rfl, A.p, A.dx, _, rfl, lv11.sp.ob, A, S1, rfl, lv11.sp, lv11.wf, fun l12 H12 _ s12 h12 => ?_⟩
    have h12 := selX (sel := (·.promised)) ff.a2 h12
    have lv12 := lv11.same s12
    refine ⟨_, rfl, A.p, A.dx, _, rfl, lv12.sp.ob, A, S1, rfl, lv12.sp, lv12.wf, fun l13 H13 _ s13 h13 => ⟨(by show 2 ≤ sizeLine; decide), fun l14 h14 => ?_⟩⟩
    have h13 := selX (sel := (·.took)) ff.a3 h13
    have lv13 := lv12.same s13
    refine ⟨(by show 1 ≤ sizeLine; decide), fun l15 h15 => ⟨l15, 4, _, rfl, rfl, SqT.of upd_same, (by intro z; cases z), by decide, by decide, (by show 1 ≤ 1000; decide), fun l16 h16 => ⟨(by show 1 ≤ sizeLine; decide), fun l17 h17 => ⟨l17, 4, _, rfl, rfl, SqT.of upd_same, (by intro z; cases z), by decide, by decide, (by show 1 ≤ 1000; decide), fun l18 h18 => ⟨(by show 2 ≤ sizeLine; decide), fun l19 h19 => ?_⟩⟩⟩⟩⟩
    have s14 := same_new (o := .tup [.ref l12, .ref l13]) h14
    have s15 := same_new (o := .tup [.non]) h15
    have s16 := same_new (o := .tup [.non, .non, .non, .non]) h16
    have s17 := same_new (o := .tup [.non]) h17
    have s18 := same_new (o := .tup [.non, .non, .non, .non]) h18
    have s19 := same_new (o := .tup [.ref l16, .ref l18]) h19
    have z1 := Same.trans s15 (Same.trans s16 (Same.trans s17 (Same.trans s18 s19)))
    refine ⟨_, _, rfl, like2 (z1 _ _ upd_same) upd_same (Like.up (like_flat (z1 _ _ (s14 _ _ (s13 _ _ h12))) (Same.trans s17 (Same.trans s18 s19) _ _ upd_same) rfl (by show 4 ≤ 900; decide))) (Like.up (like_flat (z1 _ _ (s14 _ _ h13)) (s19 _ _ upd_same) rfl (by show 4 ≤ 900; decide))), fun H20 s20 => ⟨true, rfl, iteF ?_⟩⟩
    have lv20 := lv13.same (Same.trans s14 (Same.trans z1 s20))
    -- spread.lie(0, 3, 'echo', one)
    have n1 : S1.n = 4 := by rw [← ff.e1, (restN_keeps 9 _).1]; exact (fcL_k o 3).1
    have q1 : S1.liars = [0] := by rw [← ff.e1, (restN_keeps 9 _).2]; exact (fcL_k o 3).2
    refine ⟨_, rfl, A.p, A.dx, _, rfl, lv20.sp.ob, rfl, _, rfl, A, S1, 0, 3, .echo, 5, rfl, lv20.sp, ap, lv20.wf, in0 q1, hon40 n1 q1 (by decide) (by decide), (by decide), (by decide), Nat.le_trans lv20.slips (by decide), Nat.le_trans lv20.log (by decide), fun H21 sp21 kp21 => ?_⟩
    obtain ⟨lv21, _⟩ := lieX nf lv20 (in0 q1) (hon40 n1 q1 (by decide) (by decide)) sp21 kp21
    clear sp21 kp21
    refine ⟨_, rfl, A.p, A.dx, _, rfl, lv21.sp.ob, rfl, A, _, rfl, lv21.sp, ap, lv21.wf, Nat.le_trans lv21.bd (by decide), fun m22 H22 g1 g2 wf22 bd22 sp22 kp22 => ?_⟩
    obtain ⟨e22, lv22, _⟩ := restX nf lv21 ff.e2 ff.z2 ff.n2 g1 g2 wf22 bd22 sp22 kp22
    clear g1 g2 wf22 bd22 sp22 kp22
    subst e22
    refine ⟨_, rfl, A.p, A.dx, _, rfl, lv22.sp.ob, A, S2, rfl, lv22.sp, lv22.wf, fun l23 H23 _ s23 h23 => ⟨(by show 2 ≤ sizeLine; decide), fun l24 h24 => ?_⟩⟩
    have h23 := selX (sel := (·.promised)) ff.b1 h23
    have lv23 := lv22.same s23
    refine ⟨_, rfl, (by show 4 ≤ sizeLine; decide), fun l25 h25 => ⟨(by show 2 ≤ sizeLine; decide), fun l26 h26 => ?_⟩⟩
    have s24 := same_new (o := .tup [.int ((3 : Nat) : Int), .ref l23]) h24
    have s25 := same_new (o := .tup [.non, .non, .non, .int 5]) h25
    have s26 := same_new (o := .tup [.int 3, .ref l25]) h26
    refine ⟨_, _, rfl, like2 (s26 _ _ (s25 _ _ upd_same)) upd_same (.inl ⟨rfl, rfl⟩) (Like.up (like_flat (s26 _ _ (s25 _ _ (s24 _ _ h23))) (s26 _ _ upd_same) rfl (by show 4 ≤ 900; decide))), fun H27 s27 => ⟨true, rfl, iteF ?_⟩⟩
    have lv27 := lv23.same (Same.trans s24 (Same.trans s25 (Same.trans s26 s27)))
    -- spread.lie(0, 1, 'promise', one)
    have n2 : S2.n = 4 := by rw [← ff.e2, (restN_keeps 3 _).1]; exact n1
    have q2 : S2.liars = [0] := by rw [← ff.e2, (restN_keeps 3 _).2]; exact q1
    refine ⟨_, rfl, A.p, A.dx, _, rfl, lv27.sp.ob, rfl, _, rfl, A, S2, 0, 1, .prom, 5, rfl, lv27.sp, ap, lv27.wf, in0 q2, hon40 n2 q2 (by decide) (by decide), (by decide), (by decide), Nat.le_trans lv27.slips (by decide), Nat.le_trans lv27.log (by decide), fun H28 sp28 kp28 => ?_⟩
    obtain ⟨lv28, _⟩ := lieX nf lv27 (in0 q2) (hon40 n2 q2 (by decide) (by decide)) sp28 kp28
    clear sp28 kp28
    refine ⟨_, rfl, A.p, A.dx, _, rfl, lv28.sp.ob, rfl, A, _, rfl, lv28.sp, ap, lv28.wf, Nat.le_trans lv28.bd (by decide), fun m29 H29 g1 g2 wf29 bd29 sp29 kp29 => ?_⟩
    obtain ⟨e29, lv29, _⟩ := restX nf lv28 ff.e3 ff.z3 ff.n3 g1 g2 wf29 bd29 sp29 kp29
    clear g1 g2 wf29 bd29 sp29 kp29
    subst e29
    refine ⟨_, rfl, A.p, A.dx, _, rfl, lv29.sp.ob, A, S3, rfl, lv29.sp, lv29.wf, fun l30 H30 _ s30 h30 => ?_⟩
    have h30 := selX (sel := (·.promised)) ff.c1 h30
    have lv30 := lv29.same s30
    refine ⟨_, rfl, A.p, A.dx, _, rfl, lv30.sp.ob, A, S3, rfl, lv30.sp, lv30.wf, fun l31 H31 _ s31 h31 => ⟨(by show 3 ≤ sizeLine; decide), fun l32 h32 => ?_⟩⟩
    have h31 := selX (sel := (·.took)) ff.c2 h31
    have lv31 := lv30.same s31
    refine ⟨_, rfl, _, rfl, _, rfl, (by show 4 ≤ sizeLine; decide), fun l33 h33 => ⟨_, rfl, _, rfl, _, rfl, (by show 4 ≤ sizeLine; decide), fun l34 h34 => ⟨(by show 3 ≤ sizeLine; decide), fun l35 h35 => ?_⟩⟩⟩
    have s32 := same_new (o := .tup [.int ((5 : Nat) : Int), .ref l30, .ref l31]) h32
    have s33 := same_new (o := .tup [.non, .int 5, .int 5, .int 5]) h33
    have s34 := same_new (o := .tup [.non, .int 5, .int 5, .int 5]) h34
    have s35 := same_new (o := .tup [.int 5, .ref l33, .ref l34]) h35
    have z3 := Same.trans s33 (Same.trans s34 s35)
    refine ⟨_, _, rfl, like3 (z3 _ _ upd_same) upd_same (.inl ⟨rfl, rfl⟩) (Like.up (like_flat (z3 _ _ (s32 _ _ (s31 _ _ h30))) (Same.trans s34 s35 _ _ upd_same) rfl (by show 4 ≤ 900; decide))) (Like.up (like_flat (z3 _ _ (s32 _ _ h31)) (s35 _ _ upd_same) rfl (by show 4 ≤ 900; decide))), fun H36 s36 => ?_⟩
    have sfin := (lv31.same (Same.trans s32 (Same.trans z3 s36))).sm
    refine kk H36 ?_ (Only.trans onB (Same.only sfin))
    obtain ⟨p0, p1, p2, ha, q⟩ := hpB
    exact ⟨p0, p1, p2, sfin _ _ ha, q⟩
end
end Spr
namespace Spr
open PySem L2
def onS (n : Nat) (v : Int) : MS := initS n 1 1 1 [] 0 (some v)
def onOk (n : Nat) (v : Int) : Bool :=
  let S := onS n v
  (match S.ears[0]? with
    | some E => decide (E.echoed = some v) && decide (E.promised = some v) && decide (E.took = some v)
    | none => false) && decide (S.slips.length = 3 * (n - 1)) &&
  (match S.slips.find? (fun x => decide (x.1 = 2 * ((n : Int) - 1))) with
    | some x => (match (dlv S x.1 x.2).ears[1]? with
      | some E => decide (E.echoed = none) && decide (E.promised = some v) && decide (E.took = some v)
      | none => false)
    | none => false)
theorem on2 : ∀ v ∈ List.range 10, onOk 2 (v : Int) = true := by decide +kernel
theorem on3 : ∀ v ∈ List.range 10, onOk 3 (v : Int) = true := by decide +kernel
theorem on4 : ∀ v ∈ List.range 10, onOk 4 (v : Int) = true := by decide +kernel
theorem on5 : ∀ v ∈ List.range 10, onOk 5 (v : Int) = true := by decide +kernel
structure OnF (n : Nat) (v : Int) (s : Sl) : Prop where
  a : ∃ E, (onS n v).ears[0]? = some E ∧ E.echoed = some v ∧ E.promised = some v ∧ E.took = some v
  l : (onS n v).slips.length = 3 * (n - 1)
  m : (2 * ((n : Int) - 1), s) ∈ (onS n v).slips
  b : ∃ E, (dlv (onS n v) (2 * ((n : Int) - 1)) s).ears[1]? = some E ∧ E.echoed = none ∧ E.promised = some v ∧ E.took = some v
theorem onF (n : Nat) (v : Int) (n2 : 2 ≤ n) (n5 : n ≤ 5) (v0 : 0 ≤ v) (v1 : v < 10) : ∃ s, OnF n v s := by
  have h : onOk n v = true := by
    obtain ⟨v', rfl⟩ : ∃ v' : Nat, v = (v' : Int) := ⟨v.toNat, by omega⟩
    have hv : v' ∈ List.range 10 := List.mem_range.mpr (by omega)
    have : n = 2 ∨ n = 3 ∨ n = 4 ∨ n = 5 := by omega
    rcases this with rfl | rfl | rfl | rfl
    · exact on2 _ hv
    · exact on3 _ hv
    · exact on4 _ hv
    · exact on5 _ hv
  unfold onOk at h
  simp only [Bool.and_eq_true, decide_eq_true_eq] at h
  obtain ⟨⟨h1, h2⟩, h3⟩ := h
  cases e1 : (onS n v).ears[0]? with
  | none => rw [e1] at h1; cases h1
  | some E =>
    rw [e1] at h1
    simp only [Bool.and_eq_true, decide_eq_true_eq] at h1
    cases e2 : (onS n v).slips.find? (fun x => decide (x.1 = 2 * ((n : Int) - 1))) with
    | none => rw [e2] at h3; cases h3
    | some x =>
      rw [e2] at h3
      simp only at h3
      have hx := of_decide_eq_true (List.find?_some (p := fun x : Int × Sl => decide (x.1 = 2 * ((n : Int) - 1))) e2)
      cases e3 : (dlv (onS n v) x.1 x.2).ears[1]? with
      | none => rw [e3] at h3; cases h3
      | some E' =>
        rw [e3] at h3
        simp only [Bool.and_eq_true, decide_eq_true_eq] at h3
        refine ⟨x.2, ⟨E, e1, h1.1.1, h1.1.2, h1.2⟩, h2, ?_, E', ?_, h3.1.1, h3.1.2, h3.2⟩
        · have := List.mem_of_find?_eq_some e2
          rw [← hx]
          exact this
        · rw [← hx]
          exact e3
section
variable {P : Program} {w : World} {K : PySem.W.Frag} {mg : Str → Option Value} {base : Heap}
abbrev nOn : List Str := ["pot", "n", "value", "spread"]
theorem scOn : FnScope nOn ["pot"] (defScope s_law_are_ones_right) := ⟨rfl, rfl, rfl, by decide +kernel, rfl, by decide +kernel, by decide +kernel⟩
theorem sel_at {S : MS} {i : Nat} {E : ME} {sel : ME → Option Int} {z : Int} (h : S.ears[i]? = some E) (e : z = (i : Int)) : atI (S.ears.map fun E => ov (sel E)) z = some (ov (sel E)) :=
  at_of e (by rw [List.getElem?_map, h]; rfl)
theorem ok_on {f C CE fT fU fL fO fI gU gE gP gT fR fLi fD pU pE pP pT : Addr} {fd dT dU dL dO dI eU eE eP eT dR dLi dD : FuncData} (F : Fun K "_law_are_ones_right" "_law_are_ones_right" s_law_are_ones_right f fd) (Vn : Env19 P w K mg base C CE fT fU fL fO fI gU gE gP gT fR fLi fD pU pE pP pT dT dU dL dO dI eU eE eP eT dR dLi dD) : FnOk P w K mg base CX0 8 f fd ["pot"] (spPart 2) := by
  refine F.ok scOn (fun vs H Q E h => ?_) (fun cdv A outer s H vs Q E hr h => ?_)
  · obtain ⟨a, c, rfl, _⟩ := h
    rfl
  · obtain ⟨a, c, rfl, hp, hc, kk⟩ := h
    have T := Vn.T
    have hr1 := hr.mono (show 1 ≤ 7 by decide)
    have hr4 := hr.mono (show 4 ≤ 7 by decide)
    have hr2 := hr.mono (show 2 ≤ 7 by decide)
    have hr5 := hr.mono (show 5 ≤ 7 by decide)
    refine ⟨_, pss_cons (ps_par (i := 1) (j := 2) (by rfl) scOn.nd rfl rfl (by decide) rfl rfl (pa_cons (pe_op op_add pe_int (pe_ca Vn.cT hr1 (pa_cons (pv 0) (pa_cons pe_int pa_nil)))) (pa_cons (pe_ca Vn.cT hr1 (pa_cons (pv 0) (pa_cons pe_int pa_nil))) pa_nil)) (by rfl))
      (pss_cons (ps_set (i := 3) scOn.nd rfl (Or.inl rfl) (pe_make Vn.MkS Vn.GS hr rfl Vn.mS Vn.bS .nil pass0 (pa_cons (pv 1) (pa_cons (pe_tup (pa_cons pe_int (pa_cons pe_int (pa_cons pe_int pa_nil)))) (pa_cons (pe_tup pa_nil) (pa_cons pe_int (pa_cons (pv 2) pa_nil)))))))
      (pss_cons (ps_if (pt_not (pt_val (pe_ca Vn.cL hr4 (pa_cons (pe_tup (pa_cons (pe_ix ix_tup (pe_pr (pv 3) Vn.TS.cl Vn.pE hr2) pe_int (fun _ _ => rfl)) (pa_cons (pe_ix ix_tup (pe_pr (pv 3) Vn.TS.cl Vn.pP hr2) pe_int (fun _ _ => rfl)) (pa_cons (pe_ix ix_tup (pe_pr (pv 3) Vn.TS.cl Vn.pT hr2) pe_int (fun _ _ => rfl)) pa_nil)))) (pa_cons (pe_tup (pa_cons (pv 2) (pa_cons (pv 2) (pa_cons (pv 2) pa_nil)))) pa_nil))))) (pss_one (ps_ret pe_bl)) pss_nil)
      (pss_cons (ps_if (pt_not (pt_val (pe_ca Vn.cL hr4 (pa_cons (pe_callB call_len_seq (by rfl) T.len PySem.boot_len (pa_cons (pe_pr (pv 3) Vn.TS.cl Vn.pU hr2) pa_nil)) (pa_cons (pe_op op_mul pe_int (pe_op op_sub (pv 1) pe_int)) pa_nil))))) (pss_one (ps_ret pe_bl)) pss_nil)
      (pss_cons (ps_expr (pe_me (pv 3) Vn.TS.cl Vn.cD hr5 (pa_cons (pe_op op_mul pe_int (pe_op op_sub (pv 1) pe_int)) pa_nil)))
      (pss_one (ps_ret (pe_ca Vn.cL hr4 (pa_cons (pe_tup (pa_cons (pe_ix ix_tup (pe_pr (pv 3) Vn.TS.cl Vn.pE hr2) pe_int (fun _ _ => rfl)) (pa_cons (pe_ix ix_tup (pe_pr (pv 3) Vn.TS.cl Vn.pP hr2) pe_int (fun _ _ => rfl)) (pa_cons (pe_ix ix_tup (pe_pr (pv 3) Vn.TS.cl Vn.pT hr2) pe_int (fun _ _ => rfl)) pa_nil)))) (pa_cons (pe_tup (pa_cons pe_non (pa_cons (pv 2) (pa_cons (pv 2) pa_nil)))) pa_nil))))))))), ?_⟩
    refine ⟨_, rfl, a, 4, c, rfl, hp, by decide, by decide, by omega, fun r0 H1 h00 h01 hp1 on1 => ⟨_, _, rfl, rfl, ?_⟩⟩
    refine ⟨_, rfl, a, 10, c + 1, rfl, hp1, by decide, by decide, by omega, fun v H2 v0 v1 hp2 on2 => ⟨_, _, rfl, ?_⟩⟩
    obtain ⟨n, hn⟩ : ∃ n : Nat, 2 + r0 = (n : Int) := ⟨(2 + r0).toNat, by omega⟩
    dsimp only
    rw [hn]
    have n2 : 2 ≤ n := by omega
    have n5 : n ≤ 5 := by omega
    obtain ⟨sl, of⟩ := onF n v n2 n5 v0 v1
    refine ⟨_, rfl, (by show 3 ≤ sizeLine; decide), fun tc htc => ⟨Nat.zero_le _, fun tl htl => ⟨_, rfl, ?_⟩⟩⟩
    have mp : MkP n 1 1 1 [] 0 (some v) := ⟨n2, by omega, (fun z hz => by simp only [List.mem_cons, List.not_mem_nil, or_false] at hz; omega), (fun l hl => by cases hl), List.Pairwise.nil, by show 0 < n; omega, by decide, by omega, (fun h => by cases h), fun _ => ⟨v, rfl, v0, by omega⟩⟩
    intro x dxx hx hdx hne
    refine made (n := n) (e := 1) (r := 1) (d := 1) (liars := []) (first := 0) (value := some v) ((upd_ne (ne_of_none upd_same htl)).trans upd_same) upd_same mp hx hdx hne (fun A H5 ex lv ap nf => ⟨rfl, ?_⟩)
    subst ex
    clear hx hdx hne
    have onB : Only a H (upd (upd H2 tc (.tup [.int 1, .int 1, .int 1])) tl (.tup [])) := Only.trans (Only.trans on1 on2) (Same.only (Same.trans (same_new htc) (same_new htl)))
    have hpB : PotAt (upd (upd H2 tc (.tup [.int 1, .int 1, .int 1])) tl (.tup [])) a (c + 2) := by
      obtain ⟨p0, p1, p2, ha, q⟩ := hp2
      exact ⟨p0, p1, p2, Same.trans (same_new htc) (same_new htl) _ _ ha, q⟩
    generalize upd (upd H2 tc (.tup [.int 1, .int 1, .int 1])) tl (.tup []) = Hb at lv nf onB hpB
    obtain ⟨E0, q0, qe, qp, qt⟩ := of.a
    have lv : Live C CE A Hb 400 (onS n v) H5 := lv
    refine ⟨_, rfl, A.p, A.dx, _, rfl, lv.sp.ob, A, onS n v, rfl, lv.sp, lv.wf, fun l6 H6 _ s6 h6 => ⟨l6, _, 0, _, rfl, rfl, SqT.of h6, sel_at (sel := (·.echoed)) q0 rfl, ?_⟩⟩
    have lv6 := lv.same s6
    refine ⟨_, rfl, A.p, A.dx, _, rfl, lv6.sp.ob, A, onS n v, rfl, lv6.sp, lv6.wf, fun l7 H7 _ s7 h7 => ⟨l7, _, 0, _, rfl, rfl, SqT.of h7, sel_at (sel := (·.promised)) q0 rfl, ?_⟩⟩
    have lv7 := lv6.same s7
    refine ⟨_, rfl, A.p, A.dx, _, rfl, lv7.sp.ob, A, onS n v, rfl, lv7.sp, lv7.wf, fun l8 H8 _ s8 h8 => ⟨l8, _, 0, _, rfl, rfl, SqT.of h8, sel_at (sel := (·.took)) q0 rfl, (by show 3 ≤ sizeLine; decide), fun l9 h9 => ?_⟩⟩
    have lv8 := lv7.same s8
    rw [qe, qp, qt] at *
    refine ⟨_, rfl, _, rfl, _, rfl, (by show 3 ≤ sizeLine; decide), fun l10 h10 => ?_⟩
    have s9 := same_new (o := .tup [ov (some v), ov (some v), ov (some v)]) h9
    have s10 := same_new (o := .tup [.int v, .int v, .int v]) h10
    refine ⟨_, _, rfl, Like.up (Like.up (like_flat (xs := [.int v, .int v, .int v]) (s10 _ _ upd_same) upd_same rfl (by show 3 ≤ 900; decide))), fun H11 s11 => ⟨true, rfl, iteF ?_⟩⟩
    have lv11 := lv8.same (Same.trans s9 (Same.trans s10 s11))
    -- len(spread.under_way)
    refine ⟨_, rfl, A.p, A.dx, _, rfl, lv11.sp.ob, A, onS n v, rfl, lv11.sp, lv11.wf, by rw [of.l]; omega, fun l12 us H12 _ s12 h12 tu12 => ?_⟩
    have lv12 := lv11.same s12
    refine ⟨l12, _, rfl, .inr (SqT.of h12), _, rfl, _, _, rfl, rfl, _, _, rfl, rfl, .inl ⟨by decide, by decide⟩, _, _, rfl, ?_, fun H13 s13 => ⟨true, rfl, iteF ?_⟩⟩
    · refine .inl ⟨?_, rfl⟩
      have : us.length = 3 * (n - 1) := by rw [tu12.len, List.length_map, of.l]
      rw [List.length_map, this]
      have : ((3 * (n - 1) : Nat) : Int) = 3 * ((n : Int) - 1) := by omega
      rw [this]
    have lv13 := lv12.same s13
    -- spread.deliver(2 * (n - 1))
    refine ⟨_, rfl, A.p, A.dx, _, rfl, lv13.sp.ob, rfl, _, rfl, _, _, rfl, rfl, _, _, rfl, rfl, .inl ⟨by decide, by decide⟩, A, onS n v, 2 * ((n : Int) - 1), sl, rfl, lv13.sp, ap, lv13.wf, of.m, Nat.le_trans lv13.slips (by decide), Nat.le_trans lv13.log (by decide), fun H14 sp14 kp14 => ?_⟩
    have wf14 : WfS (dlv (onS n v) (2 * ((n : Int) - 1)) sl) := dlv_wf lv13.wf of.m
    have sm14 : Same Hb H14 := fun b o e => kp14 b o (lv13.sm b o e) (nf b o e)
    obtain ⟨E1, r0, re, rp, rt⟩ := of.b
    generalize dlv (onS n v) (2 * ((n : Int) - 1)) sl = S' at sp14 wf14 r0
    refine ⟨_, rfl, A.p, A.dx, _, rfl, sp14.ob, A, S', rfl, sp14, wf14, fun l15 H15 _ s15 h15 => ⟨l15, _, 1, _, rfl, rfl, SqT.of h15, sel_at (sel := (·.echoed)) r0 rfl, ?_⟩⟩
    have sp15 := sp14.same s15
    refine ⟨_, rfl, A.p, A.dx, _, rfl, sp15.ob, A, S', rfl, sp15, wf14, fun l16 H16 _ s16 h16 => ⟨l16, _, 1, _, rfl, rfl, SqT.of h16, sel_at (sel := (·.promised)) r0 rfl, ?_⟩⟩
    have sp16 := sp15.same s16
    refine ⟨_, rfl, A.p, A.dx, _, rfl, sp16.ob, A, S', rfl, sp16, wf14, fun l17 H17 _ s17 h17 => ⟨l17, _, 1, _, rfl, rfl, SqT.of h17, sel_at (sel := (·.took)) r0 rfl, (by show 3 ≤ sizeLine; decide), fun l18 h18 => ?_⟩⟩
    rw [re, rp, rt] at *
    refine ⟨_, rfl, _, rfl, (by show 3 ≤ sizeLine; decide), fun l19 h19 => ?_⟩
    have s18 := same_new (o := .tup [ov none, ov (some v), ov (some v)]) h18
    have s19 := same_new (o := .tup [.non, .int v, .int v]) h19
    refine ⟨_, _, rfl, Like.up (Like.up (like_flat (xs := [.non, .int v, .int v]) (s19 _ _ upd_same) upd_same rfl (by show 3 ≤ 900; decide))), fun H20 s20 => ?_⟩
    have sfin := Same.trans sm14 (Same.trans s15 (Same.trans s16 (Same.trans s17 (Same.trans s18 (Same.trans s19 s20)))))
    refine kk H20 ?_ (Only.trans onB (Same.only sfin))
    obtain ⟨p0, p1, p2, ha, q⟩ := hpB
    exact ⟨p0, p1, p2, sfin _ _ ha, q⟩
theorem scRi : FnScope ["pot"] ["pot"] (defScope s_law_right) := ⟨rfl, rfl, rfl, by decide +kernel, rfl, by decide +kernel, by decide +kernel⟩
def spRi : Sp := fun vs H Q _ => ∃ (a : Addr) (c : Nat), vs = [.ref a] ∧ PotAt H a c ∧ c ≤ 700000 ∧ ∀ H', Only a H H' → Q (.bl true) H'
theorem ok_ri {f f1 f2 f3 : Addr} {fd d1 d2 d3 : FuncData} (F : Fun K "_law_right" "_law_right" s_law_right f fd) (c1 : Ca P w K mg base 8 "_law_is_honest_right" ["pot"] (spPart 3) f1 d1) (c2 : Ca P w K mg base 8 "_law_is_faced_right" ["pot"] (spPart 1) f2 d2) (c3 : Ca P w K mg base 8 "_law_are_ones_right" ["pot"] (spPart 2) f3 d3) : FnOk P w K mg base CX0 9 f fd ["pot"] spRi := by
  refine F.ok scRi (fun vs H Q E h => ?_) (fun cdv A outer s H vs Q E hr h => ?_)
  · obtain ⟨a, c, rfl, _⟩ := h
    rfl
  · obtain ⟨a, c, rfl, hp, hc, kk⟩ := h
    refine ⟨_, pss_one (ps_ret (pe_and (pe_ca c1 hr (pa_cons (pv 0) pa_nil)) (pe_and (pe_ca c2 hr (pa_cons (pv 0) pa_nil)) (pe_one (pe_ca c3 hr (pa_cons (pv 0) pa_nil)))))), ?_⟩
    refine ⟨_, rfl, a, c, rfl, hp, by omega, fun H1 hp1 on1 => ⟨true, rfl, iteT ?_⟩⟩
    refine ⟨_, rfl, a, c + 3, rfl, hp1, by omega, fun H2 hp2 on2 => ⟨true, rfl, iteT ?_⟩⟩
    exact ⟨_, rfl, a, c + 3 + 1, rfl, hp2, by omega, fun H3 _ on3 => kk H3 (Only.trans (Only.trans on1 on2) on3)⟩
def spLaw (K : PySem.W.Frag) : Sp := fun vs H Q _ => ∃ (a : Addr) (ns : List Int), vs = [.ref a] ∧ SqL K H a (ns.map V.int) ∧ ns.length ≤ 63 ∧ ∀ H', Q (.bl true) H'
theorem scLaw : FnScope ["script", "place"] ["script"] (defScope s_law) := ⟨rfl, rfl, rfl, by decide +kernel, rfl, by decide +kernel, by decide +kernel⟩
theorem ok_law {f f1 f2 f3 : Addr} {fd d1 d2 d3 : FuncData} (F : Fun K "law" "law" s_law f fd) (T : Bn mg) (c1 : Ca P w K mg base 9 "_law_right" ["pot"] spRi f1 d1) (c2 : Ca P w K mg base 1 "_law_pot" ["script", "place"] (spPot K) f2 d2) (c3 : Ca P w K mg base 1 "_law_cells" ["script", "limit"] (spCells K) f3 d3) : FnOk P w K mg base CX0 10 f fd ["script"] (spLaw K) := by
  refine F.ok scLaw (fun vs H Q E h => ?_) (fun cdv A outer s H vs Q E hr h => ?_)
  · obtain ⟨a, ns, rfl, _⟩ := h
    rfl
  · obtain ⟨a, ns, rfl, hS, hlen, kk⟩ := h
    have hr1 := hr.mono (show 1 ≤ 9 by decide)
    refine ⟨_, pss_one (ps_ret (pe_callB (cr_all rfl) (by rfl) T.all (by decide +kernel) (pa_cons (pe_lc (own := [("place", 1)]) (g := gName 1) (tt := tYes) rfl scLaw.nd (pi_list (pe_ca c3 hr1 (pa_cons (pv 0) (pa_cons pe_int pa_nil)))) (blkOk_by (N := ["script", "place"]) (sc := defScope s_law) (by decide +kernel))
          (fun _ _ _ _ _ => pg_name (i := 1) scLaw.nd rfl (Or.inl rfl)) (fun _ _ _ _ _ => pts_nil) (fun _ _ _ _ _ => pe_ca c1 hr (pa_cons (pe_ca c2 hr1 (pa_cons (pv 0) (pa_cons (pv 1) pa_nil))) pa_nil))) pa_nil))), ?_⟩
    refine ⟨_, rfl, a, _, 3, rfl, hS, by decide, by decide, fun l m m1 m2 hl => ?_⟩
    have s1 : Same H (upd H l (.lst (rgV 0 (m : Int)))) := same_new hl
    have hl' : upd H l (.lst (rgV 0 (m : Int))) l = some (.lst (rgV 0 (m : Int))) := upd_same
    generalize upd H l (.lst (rgV 0 (m : Int))) = H0 at s1 hl'
    have rlen : (rgV 0 (m : Int)).length = m := by
      unfold rgV
      rw [List.length_map, List.length_range]
      omega
    refine ⟨l, rfl, ⟨_, SqL.of hl'⟩, fun D hD => ?_⟩
    refine lc_it walk_list (PvS H0 D fun i => List.replicate i (.bl true)) (pv0 hD rfl) (fun i H' _ p => SqL.of (p.1 _ _ hl')) (fun i x H1 H2 hi p y => ?_) (fun H1 p => ?_)
    · obtain ⟨rfl, hx⟩ := y
      have him : i < m := by rw [rlen] at hi; exact hi
      have ex : x = .int (i : Int) := by
        unfold rgV at hx
        rw [List.getElem?_map, List.getElem?_range (by omega)] at hx
        have hx : V.int (0 + (i : Int)) = x := Option.some.inj hx
        rw [← hx, Int.zero_add]
      subst ex
      refine ⟨rfl, _, rfl, _, rfl, a, ns, i, rfl, (Same.trans s1 p.1).seq hS, by omega, fun pt H3 hp0 s3 hpt => ⟨pt, 0, rfl, hpt, by decide, fun H4 on4 => ?_⟩⟩
      have s4 : Same H2 H4 := fun b o e => on4 b o (s3 b o e) (ne_of_none e hp0)
      exact pvStep hD (Same.trans p.1 s4) (s4 _ _ p.2) (by rw [List.length_replicate]; exact small1000 (by omega)) List.replicate_succ'
    · refine ⟨D, _, rfl, SqL.of (by rw [p.2, List.map_replicate]), ?_⟩
      rw [bl_all_replicate]
      exact kk H1
end
end Spr
namespace Spr
open PySem L2
theorem all_mk {l : PySem.W.OpenLaw} {w : World} {K : PySem.W.Frag} {h : Heap} {mg : Str → Option Value} {fa aK f_isint f_isfrom f_ishand f_chkhand f_ishands f_iscounts f_isspread f_chknum f_chkspread f_votes f_usual f_einit f_hear f_due f_sinit f_hon f_put f_putall f_hears f_deliver f_lie f_rest f_und f_ech f_pro f_tak f_pot f_take f_of f_cells f_like f_hr f_fc f_on f_ri f_law C CE p_und p_ech p_pro p_tak : Addr} (X : K.In h) (G : h.Ns mainGlobals mg) (hfa : mg "law" = some (.ref fa))
    {od_isint an_isint : Option Addr} {sl_isint : Array (Option Value)} {oc_isint kV_isint dc_isint pm_isint cd_isint ct_isint : Value}
    {od_isfrom an_isfrom : Option Addr} {sl_isfrom : Array (Option Value)} {oc_isfrom kV_isfrom dc_isfrom pm_isfrom cd_isfrom ct_isfrom : Value}
    {od_ishand an_ishand : Option Addr} {sl_ishand : Array (Option Value)} {oc_ishand kV_ishand dc_ishand pm_ishand cd_ishand ct_ishand : Value}
    {od_chkhand an_chkhand : Option Addr} {sl_chkhand : Array (Option Value)} {oc_chkhand kV_chkhand dc_chkhand pm_chkhand cd_chkhand ct_chkhand : Value}
    {od_ishands an_ishands : Option Addr} {sl_ishands : Array (Option Value)} {oc_ishands kV_ishands dc_ishands pm_ishands cd_ishands ct_ishands : Value}
    {od_iscounts an_iscounts : Option Addr} {sl_iscounts : Array (Option Value)} {oc_iscounts kV_iscounts dc_iscounts pm_iscounts cd_iscounts ct_iscounts : Value}
    {od_isspread an_isspread : Option Addr} {sl_isspread : Array (Option Value)} {oc_isspread kV_isspread dc_isspread pm_isspread cd_isspread ct_isspread : Value}
    {od_chknum an_chknum : Option Addr} {sl_chknum : Array (Option Value)} {oc_chknum kV_chknum dc_chknum pm_chknum cd_chknum ct_chknum : Value}
    {od_chkspread an_chkspread : Option Addr} {sl_chkspread : Array (Option Value)} {oc_chkspread kV_chkspread dc_chkspread pm_chkspread cd_chkspread ct_chkspread : Value}
    {od_votes an_votes : Option Addr} {sl_votes : Array (Option Value)} {oc_votes kV_votes dc_votes pm_votes cd_votes ct_votes : Value}
    {od_usual an_usual : Option Addr} {sl_usual : Array (Option Value)} {oc_usual kV_usual dc_usual pm_usual cd_usual ct_usual : Value}
    {od_einit an_einit : Option Addr} {sl_einit : Array (Option Value)} {oc_einit kV_einit dc_einit pm_einit cd_einit ct_einit : Value}
    {od_hear an_hear : Option Addr} {sl_hear : Array (Option Value)} {oc_hear kV_hear dc_hear pm_hear cd_hear ct_hear : Value}
    {od_due an_due : Option Addr} {sl_due : Array (Option Value)} {oc_due kV_due dc_due pm_due cd_due ct_due : Value}
    {od_sinit an_sinit : Option Addr} {sl_sinit : Array (Option Value)} {oc_sinit kV_sinit dc_sinit pm_sinit cd_sinit ct_sinit : Value}
    {od_hon an_hon : Option Addr} {sl_hon : Array (Option Value)} {oc_hon kV_hon dc_hon pm_hon cd_hon ct_hon : Value}
    {od_put an_put : Option Addr} {sl_put : Array (Option Value)} {oc_put kV_put dc_put pm_put cd_put ct_put : Value}
    {od_putall an_putall : Option Addr} {sl_putall : Array (Option Value)} {oc_putall kV_putall dc_putall pm_putall cd_putall ct_putall : Value}
    {od_hears an_hears : Option Addr} {sl_hears : Array (Option Value)} {oc_hears kV_hears dc_hears pm_hears cd_hears ct_hears : Value}
    {od_deliver an_deliver : Option Addr} {sl_deliver : Array (Option Value)} {oc_deliver kV_deliver dc_deliver pm_deliver cd_deliver ct_deliver : Value}
    {od_lie an_lie : Option Addr} {sl_lie : Array (Option Value)} {oc_lie kV_lie dc_lie pm_lie cd_lie ct_lie : Value}
    {od_rest an_rest : Option Addr} {sl_rest : Array (Option Value)} {oc_rest kV_rest dc_rest pm_rest cd_rest ct_rest : Value}
    {od_und an_und : Option Addr} {sl_und : Array (Option Value)} {oc_und kV_und dc_und pm_und cd_und ct_und : Value}
    {od_ech an_ech : Option Addr} {sl_ech : Array (Option Value)} {oc_ech kV_ech dc_ech pm_ech cd_ech ct_ech : Value}
    {od_pro an_pro : Option Addr} {sl_pro : Array (Option Value)} {oc_pro kV_pro dc_pro pm_pro cd_pro ct_pro : Value}
    {od_tak an_tak : Option Addr} {sl_tak : Array (Option Value)} {oc_tak kV_tak dc_tak pm_tak cd_tak ct_tak : Value}
    {od_pot an_pot : Option Addr} {sl_pot : Array (Option Value)} {oc_pot kV_pot dc_pot pm_pot cd_pot ct_pot : Value}
    {od_take an_take : Option Addr} {sl_take : Array (Option Value)} {oc_take kV_take dc_take pm_take cd_take ct_take : Value}
    {od_of an_of : Option Addr} {sl_of : Array (Option Value)} {oc_of kV_of dc_of pm_of cd_of ct_of : Value}
    {od_cells an_cells : Option Addr} {sl_cells : Array (Option Value)} {oc_cells kV_cells dc_cells pm_cells cd_cells ct_cells : Value}
    {od_like an_like : Option Addr} {sl_like : Array (Option Value)} {oc_like kV_like dc_like pm_like cd_like ct_like : Value}
    {od_hr an_hr : Option Addr} {sl_hr : Array (Option Value)} {oc_hr kV_hr dc_hr pm_hr cd_hr ct_hr : Value}
    {od_fc an_fc : Option Addr} {sl_fc : Array (Option Value)} {oc_fc kV_fc dc_fc pm_fc cd_fc ct_fc : Value}
    {od_on an_on : Option Addr} {sl_on : Array (Option Value)} {oc_on kV_on dc_on pm_on cd_on ct_on : Value}
    {od_ri an_ri : Option Addr} {sl_ri : Array (Option Value)} {oc_ri kV_ri dc_ri pm_ri cd_ri ct_ri : Value}
    {od_law an_law : Option Addr} {sl_law : Array (Option Value)} {oc_law kV_law dc_law pm_law cd_law ct_law : Value}
    {r_und : List Value}
    {r_ech : List Value}
    {r_pro : List Value}
    {r_tak : List Value}
    {odK : Option Addr} {nK : Nat} {slK : Array (Option Value)} {tK1 tK2 tK3 t_GREATEST_COUNT t_GREATEST_SPREAD t_FEWEST_SPREAD t_MOST_SPREAD t_MOST_USUAL_STOPS : Tok}
    (aC : PySem.W.nsIn K mainGlobals "Spread" = some (some (.ref C)))
    (aCE : PySem.W.nsIn K mainGlobals "Ear" = some (some (.ref CE)))
    (a_isint : PySem.W.nsIn K mainGlobals "is_integer" = some (some (.ref f_isint)))
    (l_isint : K.lookup f_isint = some ⟨oc_isint, od_isint, .func (PySem.W.fnOf "is_integer" "is_integer" (defArgs s_is_integer) (defBody s_is_integer) (defScope s_is_integer) .none kV_isint dc_isint pm_isint an_isint cd_isint ct_isint), sl_isint⟩)
    (c_isint : PySem.W.codeIn K cd_isint "is_integer" = true)
    (k_isint : PySem.W.keepIn K (.ref f_isint) = true)
    (a_isfrom : PySem.W.nsIn K mainGlobals "is_from" = some (some (.ref f_isfrom)))
    (l_isfrom : K.lookup f_isfrom = some ⟨oc_isfrom, od_isfrom, .func (PySem.W.fnOf "is_from" "is_from" (defArgs s_is_from) (defBody s_is_from) (defScope s_is_from) .none kV_isfrom dc_isfrom pm_isfrom an_isfrom cd_isfrom ct_isfrom), sl_isfrom⟩)
    (c_isfrom : PySem.W.codeIn K cd_isfrom "is_from" = true)
    (k_isfrom : PySem.W.keepIn K (.ref f_isfrom) = true)
    (a_ishand : PySem.W.nsIn K mainGlobals "is_hand" = some (some (.ref f_ishand)))
    (l_ishand : K.lookup f_ishand = some ⟨oc_ishand, od_ishand, .func (PySem.W.fnOf "is_hand" "is_hand" (defArgs s_is_hand) (defBody s_is_hand) (defScope s_is_hand) .none kV_ishand dc_ishand pm_ishand an_ishand cd_ishand ct_ishand), sl_ishand⟩)
    (c_ishand : PySem.W.codeIn K cd_ishand "is_hand" = true)
    (k_ishand : PySem.W.keepIn K (.ref f_ishand) = true)
    (a_chkhand : PySem.W.nsIn K mainGlobals "check_hand" = some (some (.ref f_chkhand)))
    (l_chkhand : K.lookup f_chkhand = some ⟨oc_chkhand, od_chkhand, .func (PySem.W.fnOf "check_hand" "check_hand" (defArgs s_check_hand) (defBody s_check_hand) (defScope s_check_hand) .none kV_chkhand dc_chkhand pm_chkhand an_chkhand cd_chkhand ct_chkhand), sl_chkhand⟩)
    (c_chkhand : PySem.W.codeIn K cd_chkhand "check_hand" = true)
    (k_chkhand : PySem.W.keepIn K (.ref f_chkhand) = true)
    (a_ishands : PySem.W.nsIn K mainGlobals "is_hands" = some (some (.ref f_ishands)))
    (l_ishands : K.lookup f_ishands = some ⟨oc_ishands, od_ishands, .func (PySem.W.fnOf "is_hands" "is_hands" (defArgs s_is_hands) (defBody s_is_hands) (defScope s_is_hands) .none kV_ishands dc_ishands pm_ishands an_ishands cd_ishands ct_ishands), sl_ishands⟩)
    (c_ishands : PySem.W.codeIn K cd_ishands "is_hands" = true)
    (k_ishands : PySem.W.keepIn K (.ref f_ishands) = true)
    (a_iscounts : PySem.W.nsIn K mainGlobals "is_counts" = some (some (.ref f_iscounts)))
    (l_iscounts : K.lookup f_iscounts = some ⟨oc_iscounts, od_iscounts, .func (PySem.W.fnOf "is_counts" "is_counts" (defArgs s_is_counts) (defBody s_is_counts) (defScope s_is_counts) .none kV_iscounts dc_iscounts pm_iscounts an_iscounts cd_iscounts ct_iscounts), sl_iscounts⟩)
    (c_iscounts : PySem.W.codeIn K cd_iscounts "is_counts" = true)
    (k_iscounts : PySem.W.keepIn K (.ref f_iscounts) = true)
    (a_isspread : PySem.W.nsIn K mainGlobals "is_spread" = some (some (.ref f_isspread)))
    (l_isspread : K.lookup f_isspread = some ⟨oc_isspread, od_isspread, .func (PySem.W.fnOf "is_spread" "is_spread" (defArgs s_is_spread) (defBody s_is_spread) (defScope s_is_spread) .none kV_isspread dc_isspread pm_isspread an_isspread cd_isspread ct_isspread), sl_isspread⟩)
    (c_isspread : PySem.W.codeIn K cd_isspread "is_spread" = true)
    (k_isspread : PySem.W.keepIn K (.ref f_isspread) = true)
    (a_chknum : PySem.W.nsIn K mainGlobals "check_number" = some (some (.ref f_chknum)))
    (l_chknum : K.lookup f_chknum = some ⟨oc_chknum, od_chknum, .func (PySem.W.fnOf "check_number" "check_number" (defArgs s_check_number) (defBody s_check_number) (defScope s_check_number) .none kV_chknum dc_chknum pm_chknum an_chknum cd_chknum ct_chknum), sl_chknum⟩)
    (c_chknum : PySem.W.codeIn K cd_chknum "check_number" = true)
    (k_chknum : PySem.W.keepIn K (.ref f_chknum) = true)
    (a_chkspread : PySem.W.nsIn K mainGlobals "check_spread" = some (some (.ref f_chkspread)))
    (l_chkspread : K.lookup f_chkspread = some ⟨oc_chkspread, od_chkspread, .func (PySem.W.fnOf "check_spread" "check_spread" (defArgs s_check_spread) (defBody s_check_spread) (defScope s_check_spread) .none kV_chkspread dc_chkspread pm_chkspread an_chkspread cd_chkspread ct_chkspread), sl_chkspread⟩)
    (c_chkspread : PySem.W.codeIn K cd_chkspread "check_spread" = true)
    (k_chkspread : PySem.W.keepIn K (.ref f_chkspread) = true)
    (a_votes : PySem.W.nsIn K mainGlobals "votes" = some (some (.ref f_votes)))
    (l_votes : K.lookup f_votes = some ⟨oc_votes, od_votes, .func (PySem.W.fnOf "votes" "votes" (defArgs s_votes) (defBody s_votes) (defScope s_votes) .none kV_votes dc_votes pm_votes an_votes cd_votes ct_votes), sl_votes⟩)
    (c_votes : PySem.W.codeIn K cd_votes "votes" = true)
    (k_votes : PySem.W.keepIn K (.ref f_votes) = true)
    (a_usual : PySem.W.nsIn K mainGlobals "usual" = some (some (.ref f_usual)))
    (l_usual : K.lookup f_usual = some ⟨oc_usual, od_usual, .func (PySem.W.fnOf "usual" "usual" (defArgs s_usual) (defBody s_usual) (defScope s_usual) .none kV_usual dc_usual pm_usual an_usual cd_usual ct_usual), sl_usual⟩)
    (c_usual : PySem.W.codeIn K cd_usual "usual" = true)
    (k_usual : PySem.W.keepIn K (.ref f_usual) = true)
    (a_einit : PySem.W.findIn K (.ref CE) "__init__" = some (some (.ref f_einit)))
    (i_einit : PySem.W.isFn K (.ref f_einit) = true)
    (l_einit : K.lookup f_einit = some ⟨oc_einit, od_einit, .func (PySem.W.fnOf "__init__" "Ear.__init__" (defArgs s_Ear_init) (defBody s_Ear_init) (defScope s_Ear_init) .none kV_einit dc_einit pm_einit an_einit cd_einit ct_einit), sl_einit⟩)
    (c_einit : PySem.W.codeIn K cd_einit "Ear.__init__" = true)
    (k_einit : PySem.W.keepIn K (.ref f_einit) = true)
    (a_hear : PySem.W.findIn K (.ref CE) "hear" = some (some (.ref f_hear)))
    (i_hear : PySem.W.isFn K (.ref f_hear) = true)
    (l_hear : K.lookup f_hear = some ⟨oc_hear, od_hear, .func (PySem.W.fnOf "hear" "Ear.hear" (defArgs s_Ear_hear) (defBody s_Ear_hear) (defScope s_Ear_hear) .none kV_hear dc_hear pm_hear an_hear cd_hear ct_hear), sl_hear⟩)
    (c_hear : PySem.W.codeIn K cd_hear "Ear.hear" = true)
    (k_hear : PySem.W.keepIn K (.ref f_hear) = true)
    (a_due : PySem.W.findIn K (.ref CE) "do_due" = some (some (.ref f_due)))
    (i_due : PySem.W.isFn K (.ref f_due) = true)
    (l_due : K.lookup f_due = some ⟨oc_due, od_due, .func (PySem.W.fnOf "do_due" "Ear.do_due" (defArgs s_Ear_do_due) (defBody s_Ear_do_due) (defScope s_Ear_do_due) .none kV_due dc_due pm_due an_due cd_due ct_due), sl_due⟩)
    (c_due : PySem.W.codeIn K cd_due "Ear.do_due" = true)
    (k_due : PySem.W.keepIn K (.ref f_due) = true)
    (a_sinit : PySem.W.findIn K (.ref C) "__init__" = some (some (.ref f_sinit)))
    (i_sinit : PySem.W.isFn K (.ref f_sinit) = true)
    (l_sinit : K.lookup f_sinit = some ⟨oc_sinit, od_sinit, .func (PySem.W.fnOf "__init__" "Spread.__init__" (defArgs s_Spread_init) (defBody s_Spread_init) (defScope s_Spread_init) .none kV_sinit dc_sinit pm_sinit an_sinit cd_sinit ct_sinit), sl_sinit⟩)
    (c_sinit : PySem.W.codeIn K cd_sinit "Spread.__init__" = true)
    (k_sinit : PySem.W.keepIn K (.ref f_sinit) = true)
    (a_hon : PySem.W.findIn K (.ref C) "_is_honest" = some (some (.ref f_hon)))
    (i_hon : PySem.W.isFn K (.ref f_hon) = true)
    (l_hon : K.lookup f_hon = some ⟨oc_hon, od_hon, .func (PySem.W.fnOf "_is_honest" "Spread._is_honest" (defArgs s_Spread_is_honest) (defBody s_Spread_is_honest) (defScope s_Spread_is_honest) .none kV_hon dc_hon pm_hon an_hon cd_hon ct_hon), sl_hon⟩)
    (c_hon : PySem.W.codeIn K cd_hon "Spread._is_honest" = true)
    (k_hon : PySem.W.keepIn K (.ref f_hon) = true)
    (a_put : PySem.W.findIn K (.ref C) "_put" = some (some (.ref f_put)))
    (i_put : PySem.W.isFn K (.ref f_put) = true)
    (l_put : K.lookup f_put = some ⟨oc_put, od_put, .func (PySem.W.fnOf "_put" "Spread._put" (defArgs s_Spread_put) (defBody s_Spread_put) (defScope s_Spread_put) .none kV_put dc_put pm_put an_put cd_put ct_put), sl_put⟩)
    (c_put : PySem.W.codeIn K cd_put "Spread._put" = true)
    (k_put : PySem.W.keepIn K (.ref f_put) = true)
    (a_putall : PySem.W.findIn K (.ref C) "_put_to_all" = some (some (.ref f_putall)))
    (i_putall : PySem.W.isFn K (.ref f_putall) = true)
    (l_putall : K.lookup f_putall = some ⟨oc_putall, od_putall, .func (PySem.W.fnOf "_put_to_all" "Spread._put_to_all" (defArgs s_Spread_put_to_all) (defBody s_Spread_put_to_all) (defScope s_Spread_put_to_all) .none kV_putall dc_putall pm_putall an_putall cd_putall ct_putall), sl_putall⟩)
    (c_putall : PySem.W.codeIn K cd_putall "Spread._put_to_all" = true)
    (k_putall : PySem.W.keepIn K (.ref f_putall) = true)
    (a_hears : PySem.W.findIn K (.ref C) "_hear" = some (some (.ref f_hears)))
    (i_hears : PySem.W.isFn K (.ref f_hears) = true)
    (l_hears : K.lookup f_hears = some ⟨oc_hears, od_hears, .func (PySem.W.fnOf "_hear" "Spread._hear" (defArgs s_Spread_hear) (defBody s_Spread_hear) (defScope s_Spread_hear) .none kV_hears dc_hears pm_hears an_hears cd_hears ct_hears), sl_hears⟩)
    (c_hears : PySem.W.codeIn K cd_hears "Spread._hear" = true)
    (k_hears : PySem.W.keepIn K (.ref f_hears) = true)
    (a_deliver : PySem.W.findIn K (.ref C) "deliver" = some (some (.ref f_deliver)))
    (i_deliver : PySem.W.isFn K (.ref f_deliver) = true)
    (l_deliver : K.lookup f_deliver = some ⟨oc_deliver, od_deliver, .func (PySem.W.fnOf "deliver" "Spread.deliver" (defArgs s_Spread_deliver) (defBody s_Spread_deliver) (defScope s_Spread_deliver) .none kV_deliver dc_deliver pm_deliver an_deliver cd_deliver ct_deliver), sl_deliver⟩)
    (c_deliver : PySem.W.codeIn K cd_deliver "Spread.deliver" = true)
    (k_deliver : PySem.W.keepIn K (.ref f_deliver) = true)
    (a_lie : PySem.W.findIn K (.ref C) "lie" = some (some (.ref f_lie)))
    (i_lie : PySem.W.isFn K (.ref f_lie) = true)
    (l_lie : K.lookup f_lie = some ⟨oc_lie, od_lie, .func (PySem.W.fnOf "lie" "Spread.lie" (defArgs s_Spread_lie) (defBody s_Spread_lie) (defScope s_Spread_lie) .none kV_lie dc_lie pm_lie an_lie cd_lie ct_lie), sl_lie⟩)
    (c_lie : PySem.W.codeIn K cd_lie "Spread.lie" = true)
    (k_lie : PySem.W.keepIn K (.ref f_lie) = true)
    (a_rest : PySem.W.findIn K (.ref C) "rest" = some (some (.ref f_rest)))
    (i_rest : PySem.W.isFn K (.ref f_rest) = true)
    (l_rest : K.lookup f_rest = some ⟨oc_rest, od_rest, .func (PySem.W.fnOf "rest" "Spread.rest" (defArgs s_Spread_rest) (defBody s_Spread_rest) (defScope s_Spread_rest) .none kV_rest dc_rest pm_rest an_rest cd_rest ct_rest), sl_rest⟩)
    (c_rest : PySem.W.codeIn K cd_rest "Spread.rest" = true)
    (k_rest : PySem.W.keepIn K (.ref f_rest) = true)
    (a_und : PySem.W.findIn K (.ref C) "under_way" = some (some (.ref p_und)))
    (g_und : PySem.W.specialIn K (.ref p_und) "__get__" = some (some (.builtin "property.__get__")))
    (k2_und : PySem.W.takesIn K (.ref p_und) = some true)
    (r2_und : PySem.W.recIn K p_und "property" = some (.ref f_und :: r_und))
    (l_und : K.lookup f_und = some ⟨oc_und, od_und, .func (PySem.W.fnOf "under_way" "Spread.under_way" (defArgs s_Spread_under_way) (defBody s_Spread_under_way) (defScope s_Spread_under_way) .none kV_und dc_und pm_und an_und cd_und ct_und), sl_und⟩)
    (c_und : PySem.W.codeIn K cd_und "Spread.under_way" = true)
    (k_und : PySem.W.keepIn K (.ref f_und) = true)
    (a_ech : PySem.W.findIn K (.ref C) "echoes" = some (some (.ref p_ech)))
    (g_ech : PySem.W.specialIn K (.ref p_ech) "__get__" = some (some (.builtin "property.__get__")))
    (k2_ech : PySem.W.takesIn K (.ref p_ech) = some true)
    (r2_ech : PySem.W.recIn K p_ech "property" = some (.ref f_ech :: r_ech))
    (l_ech : K.lookup f_ech = some ⟨oc_ech, od_ech, .func (PySem.W.fnOf "echoes" "Spread.echoes" (defArgs s_Spread_echoes) (defBody s_Spread_echoes) (defScope s_Spread_echoes) .none kV_ech dc_ech pm_ech an_ech cd_ech ct_ech), sl_ech⟩)
    (c_ech : PySem.W.codeIn K cd_ech "Spread.echoes" = true)
    (k_ech : PySem.W.keepIn K (.ref f_ech) = true)
    (a_pro : PySem.W.findIn K (.ref C) "promises" = some (some (.ref p_pro)))
    (g_pro : PySem.W.specialIn K (.ref p_pro) "__get__" = some (some (.builtin "property.__get__")))
    (k2_pro : PySem.W.takesIn K (.ref p_pro) = some true)
    (r2_pro : PySem.W.recIn K p_pro "property" = some (.ref f_pro :: r_pro))
    (l_pro : K.lookup f_pro = some ⟨oc_pro, od_pro, .func (PySem.W.fnOf "promises" "Spread.promises" (defArgs s_Spread_promises) (defBody s_Spread_promises) (defScope s_Spread_promises) .none kV_pro dc_pro pm_pro an_pro cd_pro ct_pro), sl_pro⟩)
    (c_pro : PySem.W.codeIn K cd_pro "Spread.promises" = true)
    (k_pro : PySem.W.keepIn K (.ref f_pro) = true)
    (a_tak : PySem.W.findIn K (.ref C) "takings" = some (some (.ref p_tak)))
    (g_tak : PySem.W.specialIn K (.ref p_tak) "__get__" = some (some (.builtin "property.__get__")))
    (k2_tak : PySem.W.takesIn K (.ref p_tak) = some true)
    (r2_tak : PySem.W.recIn K p_tak "property" = some (.ref f_tak :: r_tak))
    (l_tak : K.lookup f_tak = some ⟨oc_tak, od_tak, .func (PySem.W.fnOf "takings" "Spread.takings" (defArgs s_Spread_takings) (defBody s_Spread_takings) (defScope s_Spread_takings) .none kV_tak dc_tak pm_tak an_tak cd_tak ct_tak), sl_tak⟩)
    (c_tak : PySem.W.codeIn K cd_tak "Spread.takings" = true)
    (k_tak : PySem.W.keepIn K (.ref f_tak) = true)
    (a_pot : PySem.W.nsIn K mainGlobals "_law_pot" = some (some (.ref f_pot)))
    (l_pot : K.lookup f_pot = some ⟨oc_pot, od_pot, .func (PySem.W.fnOf "_law_pot" "_law_pot" (defArgs s_law_pot) (defBody s_law_pot) (defScope s_law_pot) .none kV_pot dc_pot pm_pot an_pot cd_pot ct_pot), sl_pot⟩)
    (c_pot : PySem.W.codeIn K cd_pot "_law_pot" = true)
    (k_pot : PySem.W.keepIn K (.ref f_pot) = true)
    (a_take : PySem.W.nsIn K mainGlobals "_law_take" = some (some (.ref f_take)))
    (l_take : K.lookup f_take = some ⟨oc_take, od_take, .func (PySem.W.fnOf "_law_take" "_law_take" (defArgs s_law_take) (defBody s_law_take) (defScope s_law_take) .none kV_take dc_take pm_take an_take cd_take ct_take), sl_take⟩)
    (c_take : PySem.W.codeIn K cd_take "_law_take" = true)
    (k_take : PySem.W.keepIn K (.ref f_take) = true)
    (a_of : PySem.W.nsIn K mainGlobals "_law_of" = some (some (.ref f_of)))
    (l_of : K.lookup f_of = some ⟨oc_of, od_of, .func (PySem.W.fnOf "_law_of" "_law_of" (defArgs s_law_of) (defBody s_law_of) (defScope s_law_of) .none kV_of dc_of pm_of an_of cd_of ct_of), sl_of⟩)
    (c_of : PySem.W.codeIn K cd_of "_law_of" = true)
    (k_of : PySem.W.keepIn K (.ref f_of) = true)
    (a_cells : PySem.W.nsIn K mainGlobals "_law_cells" = some (some (.ref f_cells)))
    (l_cells : K.lookup f_cells = some ⟨oc_cells, od_cells, .func (PySem.W.fnOf "_law_cells" "_law_cells" (defArgs s_law_cells) (defBody s_law_cells) (defScope s_law_cells) .none kV_cells dc_cells pm_cells an_cells cd_cells ct_cells), sl_cells⟩)
    (c_cells : PySem.W.codeIn K cd_cells "_law_cells" = true)
    (k_cells : PySem.W.keepIn K (.ref f_cells) = true)
    (a_like : PySem.W.nsIn K mainGlobals "_law_is_like" = some (some (.ref f_like)))
    (l_like : K.lookup f_like = some ⟨oc_like, od_like, .func (PySem.W.fnOf "_law_is_like" "_law_is_like" (defArgs s_law_is_like) (defBody s_law_is_like) (defScope s_law_is_like) .none kV_like dc_like pm_like an_like cd_like ct_like), sl_like⟩)
    (c_like : PySem.W.codeIn K cd_like "_law_is_like" = true)
    (k_like : PySem.W.keepIn K (.ref f_like) = true)
    (a_hr : PySem.W.nsIn K mainGlobals "_law_is_honest_right" = some (some (.ref f_hr)))
    (l_hr : K.lookup f_hr = some ⟨oc_hr, od_hr, .func (PySem.W.fnOf "_law_is_honest_right" "_law_is_honest_right" (defArgs s_law_is_honest_right) (defBody s_law_is_honest_right) (defScope s_law_is_honest_right) .none kV_hr dc_hr pm_hr an_hr cd_hr ct_hr), sl_hr⟩)
    (c_hr : PySem.W.codeIn K cd_hr "_law_is_honest_right" = true)
    (k_hr : PySem.W.keepIn K (.ref f_hr) = true)
    (a_fc : PySem.W.nsIn K mainGlobals "_law_is_faced_right" = some (some (.ref f_fc)))
    (l_fc : K.lookup f_fc = some ⟨oc_fc, od_fc, .func (PySem.W.fnOf "_law_is_faced_right" "_law_is_faced_right" (defArgs s_law_is_faced_right) (defBody s_law_is_faced_right) (defScope s_law_is_faced_right) .none kV_fc dc_fc pm_fc an_fc cd_fc ct_fc), sl_fc⟩)
    (c_fc : PySem.W.codeIn K cd_fc "_law_is_faced_right" = true)
    (k_fc : PySem.W.keepIn K (.ref f_fc) = true)
    (a_on : PySem.W.nsIn K mainGlobals "_law_are_ones_right" = some (some (.ref f_on)))
    (l_on : K.lookup f_on = some ⟨oc_on, od_on, .func (PySem.W.fnOf "_law_are_ones_right" "_law_are_ones_right" (defArgs s_law_are_ones_right) (defBody s_law_are_ones_right) (defScope s_law_are_ones_right) .none kV_on dc_on pm_on an_on cd_on ct_on), sl_on⟩)
    (c_on : PySem.W.codeIn K cd_on "_law_are_ones_right" = true)
    (k_on : PySem.W.keepIn K (.ref f_on) = true)
    (a_ri : PySem.W.nsIn K mainGlobals "_law_right" = some (some (.ref f_ri)))
    (l_ri : K.lookup f_ri = some ⟨oc_ri, od_ri, .func (PySem.W.fnOf "_law_right" "_law_right" (defArgs s_law_right) (defBody s_law_right) (defScope s_law_right) .none kV_ri dc_ri pm_ri an_ri cd_ri ct_ri), sl_ri⟩)
    (c_ri : PySem.W.codeIn K cd_ri "_law_right" = true)
    (k_ri : PySem.W.keepIn K (.ref f_ri) = true)
    (a_law : PySem.W.nsIn K mainGlobals "law" = some (some (.ref f_law)))
    (l_law : K.lookup f_law = some ⟨oc_law, od_law, .func (PySem.W.fnOf "law" "law" (defArgs s_law) (defBody s_law) (defScope s_law) .none kV_law dc_law pm_law an_law cd_law ct_law), sl_law⟩)
    (c_law : PySem.W.codeIn K cd_law "law" = true)
    (k_law : PySem.W.keepIn K (.ref f_law) = true)
    (pgC : PySem.W.plainGet K C Str.empty = true)
    (hdC : PySem.W.hasDictIn K C = true)
    (poC : PySem.W.plainOver K C = true)
    (saC : PySem.W.findIn K (.ref C) "__setattr__" = some (some (.builtin "object.__setattr__")))
    (mkC : PySem.W.makesIn K C = true)
    (kcC : PySem.W.keepIn K (.ref C) = true)
    (pgCE : PySem.W.plainGet K CE Str.empty = true)
    (hdCE : PySem.W.hasDictIn K CE = true)
    (poCE : PySem.W.plainOver K CE = true)
    (saCE : PySem.W.findIn K (.ref CE) "__setattr__" = some (some (.builtin "object.__setattr__")))
    (mkCE : PySem.W.makesIn K CE = true)
    (kcCE : PySem.W.keepIn K (.ref CE) = true)
    (nE_hand : PySem.W.findIn K (.ref CE) "hand" = some none)
    (nE_counts : PySem.W.findIn K (.ref CE) "counts" = some none)
    (nE_first : PySem.W.findIn K (.ref CE) "first" = some none)
    (nE_told : PySem.W.findIn K (.ref CE) "told" = some none)
    (nE_echo_from : PySem.W.findIn K (.ref CE) "echo_from" = some none)
    (nE_promise_from : PySem.W.findIn K (.ref CE) "promise_from" = some none)
    (nE_echoed : PySem.W.findIn K (.ref CE) "echoed" = some none)
    (nE_promised : PySem.W.findIn K (.ref CE) "promised" = some none)
    (nE_took : PySem.W.findIn K (.ref CE) "took" = some none)
    (nS_n : PySem.W.findIn K (.ref C) "n" = some none)
    (nS_counts : PySem.W.findIn K (.ref C) "counts" = some none)
    (nS_liars : PySem.W.findIn K (.ref C) "liars" = some none)
    (nS_first : PySem.W.findIn K (.ref C) "first" = some none)
    (nS__value : PySem.W.findIn K (.ref C) "_value" = some none)
    (nS__ears : PySem.W.findIn K (.ref C) "_ears" = some none)
    (nS__slips : PySem.W.findIn K (.ref C) "_slips" = some none)
    (nS__put_ever : PySem.W.findIn K (.ref C) "_put_ever" = some none)
    (nS__log : PySem.W.findIn K (.ref C) "_log" = some none)
    (z_isinstance : PySem.W.nsIn K mainGlobals "isinstance" = some none)
    (z_int : PySem.W.nsIn K mainGlobals "int" = some none)
    (z_bool : PySem.W.nsIn K mainGlobals "bool" = some none)
    (z_tuple : PySem.W.nsIn K mainGlobals "tuple" = some none)
    (z_str : PySem.W.nsIn K mainGlobals "str" = some none)
    (z_list : PySem.W.nsIn K mainGlobals "list" = some none)
    (z_all : PySem.W.nsIn K mainGlobals "all" = some none)
    (z_zip : PySem.W.nsIn K mainGlobals "zip" = some none)
    (z_len : PySem.W.nsIn K mainGlobals "len" = some none)
    (z_range : PySem.W.nsIn K mainGlobals "range" = some none)
    (z_sorted : PySem.W.nsIn K mainGlobals "sorted" = some none)
    (z_enumerate : PySem.W.nsIn K mainGlobals "enumerate" = some none)
    (z_min : PySem.W.nsIn K mainGlobals "min" = some none)
    (z_max : PySem.W.nsIn K mainGlobals "max" = some none)
    (z_sum : PySem.W.nsIn K mainGlobals "sum" = some none)
    (z_abs : PySem.W.nsIn K mainGlobals "abs" = some none)
    (v_GREATEST_COUNT : PySem.W.nsIn K mainGlobals "GREATEST_COUNT" = some (some (.int 20 t_GREATEST_COUNT)))
    (v_GREATEST_SPREAD : PySem.W.nsIn K mainGlobals "GREATEST_SPREAD" = some (some (.int 99 t_GREATEST_SPREAD)))
    (v_FEWEST_SPREAD : PySem.W.nsIn K mainGlobals "FEWEST_SPREAD" = some (some (.int 2 t_FEWEST_SPREAD)))
    (v_MOST_SPREAD : PySem.W.nsIn K mainGlobals "MOST_SPREAD" = some (some (.int 12 t_MOST_SPREAD)))
    (v_MOST_USUAL_STOPS : PySem.W.nsIn K mainGlobals "MOST_USUAL_STOPS" = some (some (.int 9 t_MOST_USUAL_STOPS)))
    (aKi : PySem.W.nsIn K mainGlobals "KINDS" = some (some (.ref aK)))
    (lKi : K.lookup aK = some ⟨.type "tuple", odK, .seq #[.str "said" tK1, .str "echo" tK2, .str "promise" tK3] nK, slK⟩)
    (hCC : C ≠ CE) :
    ∃ fd : FuncData, (∀ (s : Shared) (v : Value), BindsTo s fd ⟨[v], []⟩ [("script", v)]) ∧ ∀ base : Heap, K.In base → base.Ns mainGlobals mg → FnOk l.prog w K mg base CX0 10 fa fd ["script"] (spLaw K) := by
  have e := hfa.symm.trans (PySem.W.mg_of X G a_law)
  cases e
  have T : Bn mg := ⟨PySem.W.mg_none_of X G z_isinstance, PySem.W.mg_none_of X G z_int, PySem.W.mg_none_of X G z_bool, PySem.W.mg_none_of X G z_tuple, PySem.W.mg_none_of X G z_str, PySem.W.mg_none_of X G z_list, PySem.W.mg_none_of X G z_all, PySem.W.mg_none_of X G z_zip, PySem.W.mg_none_of X G z_len, PySem.W.mg_none_of X G z_range, PySem.W.mg_none_of X G z_sorted, PySem.W.mg_none_of X G z_enumerate, PySem.W.mg_none_of X G z_min, PySem.W.mg_none_of X G z_max, PySem.W.mg_none_of X G z_sum, PySem.W.mg_none_of X G z_abs⟩
  have N : Cn mg := ⟨⟨_, PySem.W.mg_of X G v_GREATEST_COUNT⟩, ⟨_, PySem.W.mg_of X G v_GREATEST_SPREAD⟩, ⟨_, PySem.W.mg_of X G v_FEWEST_SPREAD⟩, ⟨_, PySem.W.mg_of X G v_MOST_SPREAD⟩, ⟨_, PySem.W.mg_of X G v_MOST_USUAL_STOPS⟩⟩
  have KT : Kt K mg := ⟨aK, PySem.W.mg_of X G aKi, fun H => .inr ⟨_, _, _, lKi, rfl, rfl, by show 3 ≤ sizeLine; decide, .cons ⟨_, rfl⟩ (.cons ⟨_, rfl⟩ (.cons ⟨_, rfl⟩ .nil))⟩⟩
  have TE : TxE K CE := ⟨⟨pgCE, hdCE, poCE, saCE⟩, nE_hand, nE_counts, nE_first, nE_told, nE_echo_from, nE_promise_from, nE_echoed, nE_promised, nE_took⟩
  have TS : TxS K C := ⟨⟨pgC, hdC, poC, saC⟩, nS_n, nS_counts, nS_liars, nS_first, nS__value, nS__ears, nS__slips, nS__put_ever, nS__log⟩
  have F_isint := fun_mk (st := s_is_integer) l_isint c_isint k_isint
  have b_isint := F_isint.binds (ps := ["value"]) fun _ _ _ _ _ _ us hl => match us, hl with | [_], _ => rfl
  have m_isint := PySem.W.mg_of X G a_isint
  have F_isfrom := fun_mk (st := s_is_from) l_isfrom c_isfrom k_isfrom
  have b_isfrom := F_isfrom.binds (ps := ["value", "low", "high"]) fun _ _ _ _ _ _ us hl => match us, hl with | [_, _, _], _ => rfl
  have m_isfrom := PySem.W.mg_of X G a_isfrom
  have F_ishand := fun_mk (st := s_is_hand) l_ishand c_ishand k_ishand
  have b_ishand := F_ishand.binds (ps := ["value", "n"]) fun _ _ _ _ _ _ us hl => match us, hl with | [_, _], _ => rfl
  have m_ishand := PySem.W.mg_of X G a_ishand
  have F_chkhand := fun_mk (st := s_check_hand) l_chkhand c_chkhand k_chkhand
  have b_chkhand := F_chkhand.binds (ps := ["hand", "n"]) fun _ _ _ _ _ _ us hl => match us, hl with | [_, _], _ => rfl
  have m_chkhand := PySem.W.mg_of X G a_chkhand
  have F_ishands := fun_mk (st := s_is_hands) l_ishands c_ishands k_ishands
  have b_ishands := F_ishands.binds (ps := ["value", "n"]) fun _ _ _ _ _ _ us hl => match us, hl with | [_, _], _ => rfl
  have m_ishands := PySem.W.mg_of X G a_ishands
  have F_iscounts := fun_mk (st := s_is_counts) l_iscounts c_iscounts k_iscounts
  have b_iscounts := F_iscounts.binds (ps := ["value"]) fun _ _ _ _ _ _ us hl => match us, hl with | [_], _ => rfl
  have m_iscounts := PySem.W.mg_of X G a_iscounts
  have F_isspread := fun_mk (st := s_is_spread) l_isspread c_isspread k_isspread
  have b_isspread := F_isspread.binds (ps := ["value"]) fun _ _ _ _ _ _ us hl => match us, hl with | [_], _ => rfl
  have m_isspread := PySem.W.mg_of X G a_isspread
  have F_chknum := fun_mk (st := s_check_number) l_chknum c_chknum k_chknum
  have b_chknum := F_chknum.binds (ps := ["n"]) fun _ _ _ _ _ _ us hl => match us, hl with | [_], _ => rfl
  have m_chknum := PySem.W.mg_of X G a_chknum
  have F_chkspread := fun_mk (st := s_check_spread) l_chkspread c_chkspread k_chkspread
  have b_chkspread := F_chkspread.binds (ps := ["n", "counts", "liars", "first", "value"]) fun _ _ _ _ _ _ us hl => match us, hl with | [_, _, _, _, _], _ => rfl
  have m_chkspread := PySem.W.mg_of X G a_chkspread
  have F_votes := fun_mk (st := s_votes) l_votes c_votes k_votes
  have b_votes := F_votes.binds (ps := ["told", "value"]) fun _ _ _ _ _ _ us hl => match us, hl with | [_, _], _ => rfl
  have m_votes := PySem.W.mg_of X G a_votes
  have F_usual := fun_mk (st := s_usual) l_usual c_usual k_usual
  have b_usual := F_usual.binds (ps := ["n", "t"]) fun _ _ _ _ _ _ us hl => match us, hl with | [_, _], _ => rfl
  have m_usual := PySem.W.mg_of X G a_usual
  have F_einit := fun_mk (st := s_Ear_init) l_einit c_einit k_einit
  have b_einit := F_einit.binds (ps := ["self", "hand", "counts", "first"]) fun _ _ _ _ _ _ us hl => match us, hl with | [_, _, _, _], _ => rfl
  have F_hear := fun_mk (st := s_Ear_hear) l_hear c_hear k_hear
  have b_hear := F_hear.binds (ps := ["self", "kind", "sender", "value"]) fun _ _ _ _ _ _ us hl => match us, hl with | [_, _, _, _], _ => rfl
  have F_due := fun_mk (st := s_Ear_do_due) l_due c_due k_due
  have b_due := F_due.binds (ps := ["self", "value"]) fun _ _ _ _ _ _ us hl => match us, hl with | [_, _], _ => rfl
  have F_sinit := fun_mk (st := s_Spread_init) l_sinit c_sinit k_sinit
  have b_sinit := F_sinit.binds (ps := ["self", "n", "counts", "liars", "first", "value"]) fun _ _ _ _ _ _ us hl => match us, hl with | [_, _, _, _, _, _], _ => rfl
  have F_hon := fun_mk (st := s_Spread_is_honest) l_hon c_hon k_hon
  have b_hon := F_hon.binds (ps := ["self", "hand"]) fun _ _ _ _ _ _ us hl => match us, hl with | [_, _], _ => rfl
  have F_put := fun_mk (st := s_Spread_put) l_put c_put k_put
  have b_put := F_put.binds (ps := ["self", "sender", "to", "kind", "value"]) fun _ _ _ _ _ _ us hl => match us, hl with | [_, _, _, _, _], _ => rfl
  have F_putall := fun_mk (st := s_Spread_put_to_all) l_putall c_putall k_putall
  have b_putall := F_putall.binds (ps := ["self", "sender", "kind", "value"]) fun _ _ _ _ _ _ us hl => match us, hl with | [_, _, _, _], _ => rfl
  have F_hears := fun_mk (st := s_Spread_hear) l_hears c_hears k_hears
  have b_hears := F_hears.binds (ps := ["self", "hand", "sender", "kind", "value"]) fun _ _ _ _ _ _ us hl => match us, hl with | [_, _, _, _, _], _ => rfl
  have F_deliver := fun_mk (st := s_Spread_deliver) l_deliver c_deliver k_deliver
  have b_deliver := F_deliver.binds (ps := ["self", "number"]) fun _ _ _ _ _ _ us hl => match us, hl with | [_, _], _ => rfl
  have F_lie := fun_mk (st := s_Spread_lie) l_lie c_lie k_lie
  have b_lie := F_lie.binds (ps := ["self", "liar", "to", "kind", "value"]) fun _ _ _ _ _ _ us hl => match us, hl with | [_, _, _, _, _], _ => rfl
  have F_rest := fun_mk (st := s_Spread_rest) l_rest c_rest k_rest
  have b_rest := F_rest.binds (ps := ["self"]) fun _ _ _ _ _ _ us hl => match us, hl with | [_], _ => rfl
  have F_und := fun_mk (st := s_Spread_under_way) l_und c_und k_und
  have b_und := F_und.binds (ps := ["self"]) fun _ _ _ _ _ _ us hl => match us, hl with | [_], _ => rfl
  have F_ech := fun_mk (st := s_Spread_echoes) l_ech c_ech k_ech
  have b_ech := F_ech.binds (ps := ["self"]) fun _ _ _ _ _ _ us hl => match us, hl with | [_], _ => rfl
  have F_pro := fun_mk (st := s_Spread_promises) l_pro c_pro k_pro
  have b_pro := F_pro.binds (ps := ["self"]) fun _ _ _ _ _ _ us hl => match us, hl with | [_], _ => rfl
  have F_tak := fun_mk (st := s_Spread_takings) l_tak c_tak k_tak
  have b_tak := F_tak.binds (ps := ["self"]) fun _ _ _ _ _ _ us hl => match us, hl with | [_], _ => rfl
  have F_pot := fun_mk (st := s_law_pot) l_pot c_pot k_pot
  have b_pot := F_pot.binds (ps := ["script", "place"]) fun _ _ _ _ _ _ us hl => match us, hl with | [_, _], _ => rfl
  have m_pot := PySem.W.mg_of X G a_pot
  have F_take := fun_mk (st := s_law_take) l_take c_take k_take
  have b_take := F_take.binds (ps := ["pot", "upto"]) fun _ _ _ _ _ _ us hl => match us, hl with | [_, _], _ => rfl
  have m_take := PySem.W.mg_of X G a_take
  have F_of := fun_mk (st := s_law_of) l_of c_of k_of
  have b_of := F_of.binds (ps := ["pot", "some"]) fun _ _ _ _ _ _ us hl => match us, hl with | [_, _], _ => rfl
  have m_of := PySem.W.mg_of X G a_of
  have F_cells := fun_mk (st := s_law_cells) l_cells c_cells k_cells
  have b_cells := F_cells.binds (ps := ["script", "limit"]) fun _ _ _ _ _ _ us hl => match us, hl with | [_, _], _ => rfl
  have m_cells := PySem.W.mg_of X G a_cells
  have F_like := fun_mk (st := s_law_is_like) l_like c_like k_like
  have b_like := F_like.binds (ps := ["one", "other"]) fun _ _ _ _ _ _ us hl => match us, hl with | [_, _], _ => rfl
  have m_like := PySem.W.mg_of X G a_like
  have F_hr := fun_mk (st := s_law_is_honest_right) l_hr c_hr k_hr
  have b_hr := F_hr.binds (ps := ["pot"]) fun _ _ _ _ _ _ us hl => match us, hl with | [_], _ => rfl
  have m_hr := PySem.W.mg_of X G a_hr
  have F_fc := fun_mk (st := s_law_is_faced_right) l_fc c_fc k_fc
  have b_fc := F_fc.binds (ps := ["pot"]) fun _ _ _ _ _ _ us hl => match us, hl with | [_], _ => rfl
  have m_fc := PySem.W.mg_of X G a_fc
  have F_on := fun_mk (st := s_law_are_ones_right) l_on c_on k_on
  have b_on := F_on.binds (ps := ["pot"]) fun _ _ _ _ _ _ us hl => match us, hl with | [_], _ => rfl
  have m_on := PySem.W.mg_of X G a_on
  have F_ri := fun_mk (st := s_law_right) l_ri c_ri k_ri
  have b_ri := F_ri.binds (ps := ["pot"]) fun _ _ _ _ _ _ us hl => match us, hl with | [_], _ => rfl
  have m_ri := PySem.W.mg_of X G a_ri
  have F_law := fun_mk (st := s_law) l_law c_law k_law
  have b_law := F_law.binds (ps := ["script"]) fun _ _ _ _ _ _ us hl => match us, hl with | [_], _ => rfl
  have m_law := PySem.W.mg_of X G a_law
  refine ⟨PySem.W.fnOf "law" "law" (defArgs s_law) (defBody s_law) (defScope s_law) .none kV_law dc_law pm_law an_law cd_law ct_law, fun s v => .of_eq rfl, fun base _ _ => ?_⟩
  have C_isint : Ca l.prog w K mg base _ _ _ _ _ _ := ⟨ok_is_integer F_isint T, m_isint, k_isint, b_isint⟩
  have C_isfrom : Ca l.prog w K mg base _ _ _ _ _ _ := ⟨ok_is_from F_isfrom C_isint, m_isfrom, k_isfrom, b_isfrom⟩
  have C_ishand : Ca l.prog w K mg base _ _ _ _ _ _ := ⟨ok_is_hand F_ishand C_isfrom, m_ishand, k_ishand, b_ishand⟩
  have C_chkhand : Ca l.prog w K mg base _ _ _ _ _ _ := ⟨ok_check_hand F_chkhand C_ishand, m_chkhand, k_chkhand, b_chkhand⟩
  have C_ishands : Ca l.prog w K mg base _ _ _ _ _ _ := ⟨ok_is_hands F_ishands T C_ishand, m_ishands, k_ishands, b_ishands⟩
  have C_iscounts : Ca l.prog w K mg base _ _ _ _ _ _ := ⟨ok_is_counts F_iscounts T N C_isfrom, m_iscounts, k_iscounts, b_iscounts⟩
  have C_isspread : Ca l.prog w K mg base _ _ _ _ _ _ := ⟨ok_is_spread F_isspread N C_isfrom, m_isspread, k_isspread, b_isspread⟩
  have C_chknum : Ca l.prog w K mg base _ _ _ _ _ _ := ⟨ok_check_number F_chknum N C_isfrom, m_chknum, k_chknum, b_chknum⟩
  have C_chkspread : Ca l.prog w K mg base _ _ _ _ _ _ := ⟨ok_check_spread F_chkspread T C_chknum C_iscounts C_ishands C_chkhand C_isspread, m_chkspread, k_chkspread, b_chkspread⟩
  have C_votes : Ca l.prog w K mg base _ _ _ _ _ _ := ⟨ok_votes F_votes T, m_votes, k_votes, b_votes⟩
  have C_usual : Ca l.prog w K mg base _ _ _ _ _ _ := ⟨ok_usual F_usual N C_chknum C_isfrom, m_usual, k_usual, b_usual⟩
  have C_due : Me l.prog w K mg base _ CE _ _ _ _ _ := ⟨ok_due F_due T TE C_votes, ⟨a_due, i_due, k_due⟩, b_due⟩
  have C_hear : Me l.prog w K mg base _ CE _ _ _ _ _ := ⟨ok_hear F_hear TE C_due, ⟨a_hear, i_hear, k_hear⟩, b_hear⟩
  have C_hon : Me l.prog w K mg base _ C _ _ _ _ _ := ⟨ok_hon (CE := CE) F_hon TS C_ishand, ⟨a_hon, i_hon, k_hon⟩, b_hon⟩
  have C_put : Me l.prog w K mg base _ C _ _ _ _ _ := ⟨ok_put (CE := CE) F_put TS, ⟨a_put, i_put, k_put⟩, b_put⟩
  have C_putall : Me l.prog w K mg base _ C _ _ _ _ _ := ⟨ok_putAll F_putall T TS C_put, ⟨a_putall, i_putall, k_putall⟩, b_putall⟩
  have C_hears : Me l.prog w K mg base _ C _ _ _ _ _ := ⟨ok_hearS F_hears TS TE C_putall C_hear, ⟨a_hears, i_hears, k_hears⟩, b_hears⟩
  have C_deliver : Me l.prog w K mg base _ C _ _ _ _ _ := ⟨ok_del F_deliver TS C_isint C_hears, ⟨a_deliver, i_deliver, k_deliver⟩, b_deliver⟩
  have C_lie : Me l.prog w K mg base _ C _ _ _ _ _ := ⟨ok_lie F_lie T KT TS C_isint C_hon C_isspread C_put, ⟨a_lie, i_lie, k_lie⟩, b_lie⟩
  have C_rest : Me l.prog w K mg base _ C _ _ _ _ _ := ⟨ok_rest F_rest T TS C_deliver, ⟨a_rest, i_rest, k_rest⟩, b_rest⟩
  have G_sinit := ok_init (P := l.prog) (w := w) (mg := mg) (base := base) F_sinit T TS hCC C_chkspread ⟨mkCE, a_einit, i_einit, kcCE⟩ (PySem.W.mg_of X G aCE) (ok_einit F_einit TE) b_einit C_putall C_hears
  have C_und : Pr l.prog w K mg base _ C _ _ _ _ _ := ⟨ok_und (CE := CE) F_und T TS, ⟨a_und, g_und, k2_und, _, r2_und⟩, b_und⟩
  have C_ech : Pr l.prog w K mg base _ C _ _ _ _ _ := ⟨ok_ech F_ech T TS TE, ⟨a_ech, g_ech, k2_ech, _, r2_ech⟩, b_ech⟩
  have C_pro : Pr l.prog w K mg base _ C _ _ _ _ _ := ⟨ok_pro F_pro T TS TE, ⟨a_pro, g_pro, k2_pro, _, r2_pro⟩, b_pro⟩
  have C_tak : Pr l.prog w K mg base _ C _ _ _ _ _ := ⟨ok_tak F_tak T TS TE, ⟨a_tak, g_tak, k2_tak, _, r2_tak⟩, b_tak⟩
  have C_take : Ca l.prog w K mg base _ _ _ _ _ _ := ⟨ok_take F_take T, m_take, k_take, b_take⟩
  have C_pot : Ca l.prog w K mg base _ _ _ _ _ _ := ⟨ok_pot F_pot T, m_pot, k_pot, b_pot⟩
  have C_of : Ca l.prog w K mg base _ _ _ _ _ _ := ⟨ok_of F_of T C_take, m_of, k_of, b_of⟩
  have C_cells : Ca l.prog w K mg base _ _ _ _ _ _ := ⟨ok_cells F_cells T, m_cells, k_cells, b_cells⟩
  have C_like : Ca l.prog w K mg base _ _ _ _ _ _ := ⟨ok_like F_like T m_like k_like b_like 3, m_like, k_like, b_like⟩
  have Vn : Env19 l.prog w K mg base C CE _ _ _ _ _ _ _ _ _ _ _ _ _ _ _ _ _ _ _ _ _ _ _ _ _ _ _ _ := ⟨T, TS, C_take, C_usual, C_like, C_of, ⟨mkC, a_sinit, i_sinit, kcC⟩, PySem.W.mg_of X G aC, G_sinit, b_sinit, C_und, C_ech, C_pro, C_tak, C_rest, C_lie, C_deliver⟩
  have C_hr : Ca l.prog w K mg base _ _ _ _ _ _ := ⟨ok_hr F_hr Vn, m_hr, k_hr, b_hr⟩
  have C_fc : Ca l.prog w K mg base _ _ _ _ _ _ := ⟨ok_fc F_fc Vn, m_fc, k_fc, b_fc⟩
  have C_on : Ca l.prog w K mg base _ _ _ _ _ _ := ⟨ok_on F_on Vn, m_on, k_on, b_on⟩
  have C_ri : Ca l.prog w K mg base _ _ _ _ _ _ := ⟨ok_ri F_ri C_hr C_fc C_on, m_ri, k_ri, b_ri⟩
  exact ok_law F_law T C_ri C_pot C_cells
theorem walk {l : PySem.W.OpenLaw} {q : Program} {loose : List Str} {XP : (Str → Option Value) → Heap → Prop} {YP : World → Heap → Prop} {d : DefRec} {K : Params → PySem.W.Frag} (hn : l.most = some 63) (hdf : d.params.defaults = [])
    (hY : ∀ (w : World) (h : Heap), YP w h → (K w.params).In h)
    (F : ∀ (w : World) (mg : Str → Option Value) (fa : Addr) (h : Heap), (K w.params).In h → h.Ns mainGlobals mg → mg d.name = some (.ref fa) →
      ∃ fd : FuncData, (∀ (s : Shared) (u : Value), BindsTo s fd ⟨[u], []⟩ [("script", u)]) ∧ ∀ base : Heap, (K w.params).In base → base.Ns mainGlobals mg → FnOk l.prog w (K w.params) mg base CX0 10 fa fd ["script"] (spLaw (K w.params))) :
    PySem.W.WalkO q loose XP YP l.row.toRowW d [] (fun f vs => PySem.call f vs) :=
  L2.walk_of (n := 63) (k := 10) (x := "script") (CX := fun _ => CX0) (sp := fun w => spLaw (K w.params)) hn (by decide) hdf ⟨rfl, by decide, by decide⟩ hY F (fun _ _ a ns hl _ hS => ⟨a, ns, rfl, hS, hl, fun _ => rfl⟩) fun _ _ _ _ _ z => z
end Spr
open PySem PySem.W PyProof.Rows
set_option maxRecDepth 100000 in
set_option maxHeartbeats 0 in
theorem PySem.Challenge.cw_liarslate_k19_spread_by_hand_holds : PySem.Challenge.rw_liarslate_k19_spread_by_hand.Holds := by
  w_on; o_law; k_head; (case hw => w_witness2)
  k_fill
  refine Spr.walk (l := PySem.Challenge.rw_liarslate_k19_spread_by_hand) rfl rfl (fun w h Y => PySem.W.kIn_of Y) ?F
  case F =>
    intro w mg fa h KX G hmg
    refine' Spr.all_mk KX G hmg ?aC ?aCE ?a_isint ?l_isint ?c_isint ?k_isint ?a_isfrom ?l_isfrom ?c_isfrom ?k_isfrom ?a_ishand ?l_ishand ?c_ishand ?k_ishand ?a_chkhand ?l_chkhand ?c_chkhand ?k_chkhand ?a_ishands ?l_ishands ?c_ishands ?k_ishands ?a_iscounts ?l_iscounts ?c_iscounts ?k_iscounts ?a_isspread ?l_isspread ?c_isspread ?k_isspread ?a_chknum ?l_chknum ?c_chknum ?k_chknum ?a_chkspread ?l_chkspread ?c_chkspread ?k_chkspread ?a_votes ?l_votes ?c_votes ?k_votes ?a_usual ?l_usual ?c_usual ?k_usual ?a_einit ?i_einit ?l_einit ?c_einit ?k_einit ?a_hear ?i_hear ?l_hear ?c_hear ?k_hear ?a_due ?i_due ?l_due ?c_due ?k_due ?a_sinit ?i_sinit ?l_sinit ?c_sinit ?k_sinit ?a_hon ?i_hon ?l_hon ?c_hon ?k_hon ?a_put ?i_put ?l_put ?c_put ?k_put ?a_putall ?i_putall ?l_putall ?c_putall ?k_putall ?a_hears ?i_hears ?l_hears ?c_hears ?k_hears ?a_deliver ?i_deliver ?l_deliver ?c_deliver ?k_deliver ?a_lie ?i_lie ?l_lie ?c_lie ?k_lie ?a_rest ?i_rest ?l_rest ?c_rest ?k_rest ?a_und ?g_und ?k2_und ?r2_und ?l_und ?c_und ?k_und ?a_ech ?g_ech ?k2_ech ?r2_ech ?l_ech ?c_ech ?k_ech ?a_pro ?g_pro ?k2_pro ?r2_pro ?l_pro ?c_pro ?k_pro ?a_tak ?g_tak ?k2_tak ?r2_tak ?l_tak ?c_tak ?k_tak ?a_pot ?l_pot ?c_pot ?k_pot ?a_take ?l_take ?c_take ?k_take ?a_of ?l_of ?c_of ?k_of ?a_cells ?l_cells ?c_cells ?k_cells ?a_like ?l_like ?c_like ?k_like ?a_hr ?l_hr ?c_hr ?k_hr ?a_fc ?l_fc ?c_fc ?k_fc ?a_on ?l_on ?c_on ?k_on ?a_ri ?l_ri ?c_ri ?k_ri ?a_law ?l_law ?c_law ?k_law ?pgC ?hdC ?poC ?saC ?mkC ?kcC ?pgCE ?hdCE ?poCE ?saCE ?mkCE ?kcCE ?nE_hand ?nE_counts ?nE_first ?nE_told ?nE_echo_from ?nE_promise_from ?nE_echoed ?nE_promised ?nE_took ?nS_n ?nS_counts ?nS_liars ?nS_first ?nS__value ?nS__ears ?nS__slips ?nS__put_ever ?nS__log ?z_isinstance ?z_int ?z_bool ?z_tuple ?z_str ?z_list ?z_all ?z_zip ?z_len ?z_range ?z_sorted ?z_enumerate ?z_min ?z_max ?z_sum ?z_abs ?v_GREATEST_COUNT ?v_GREATEST_SPREAD ?v_FEWEST_SPREAD ?v_MOST_SPREAD ?v_MOST_USUAL_STOPS ?aKi ?lKi ?hCC
    (case aC => k_is)
    (case aCE => k_is)
    (case a_isint => k_is)
    (case l_isint => k_is)
    (case c_isint => k_is)
    (case k_isint => k_is)
    (case a_isfrom => k_is)
    (case l_isfrom => k_is)
    (case c_isfrom => k_is)
    (case k_isfrom => k_is)
    (case a_ishand => k_is)
    (case l_ishand => k_is)
    (case c_ishand => k_is)
    (case k_ishand => k_is)
    (case a_chkhand => k_is)
    (case l_chkhand => k_is)
    (case c_chkhand => k_is)
    (case k_chkhand => k_is)
    (case a_ishands => k_is)
    (case l_ishands => k_is)
    (case c_ishands => k_is)
    (case k_ishands => k_is)
    (case a_iscounts => k_is)
    (case l_iscounts => k_is)
    (case c_iscounts => k_is)
    (case k_iscounts => k_is)
    (case a_isspread => k_is)
    (case l_isspread => k_is)
    (case c_isspread => k_is)
    (case k_isspread => k_is)
    (case a_chknum => k_is)
    (case l_chknum => k_is)
    (case c_chknum => k_is)
    (case k_chknum => k_is)
    (case a_chkspread => k_is)
    (case l_chkspread => k_is)
    (case c_chkspread => k_is)
    (case k_chkspread => k_is)
    (case a_votes => k_is)
    (case l_votes => k_is)
    (case c_votes => k_is)
    (case k_votes => k_is)
    (case a_usual => k_is)
    (case l_usual => k_is)
    (case c_usual => k_is)
    (case k_usual => k_is)
    (case a_einit => k_is)
    (case i_einit => k_is)
    (case l_einit => k_is)
    (case c_einit => k_is)
    (case k_einit => k_is)
    (case a_hear => k_is)
    (case i_hear => k_is)
    (case l_hear => k_is)
    (case c_hear => k_is)
    (case k_hear => k_is)
    (case a_due => k_is)
    (case i_due => k_is)
    (case l_due => k_is)
    (case c_due => k_is)
    (case k_due => k_is)
    (case a_sinit => k_is)
    (case i_sinit => k_is)
    (case l_sinit => k_is)
    (case c_sinit => k_is)
    (case k_sinit => k_is)
    (case a_hon => k_is)
    (case i_hon => k_is)
    (case l_hon => k_is)
    (case c_hon => k_is)
    (case k_hon => k_is)
    (case a_put => k_is)
    (case i_put => k_is)
    (case l_put => k_is)
    (case c_put => k_is)
    (case k_put => k_is)
    (case a_putall => k_is)
    (case i_putall => k_is)
    (case l_putall => k_is)
    (case c_putall => k_is)
    (case k_putall => k_is)
    (case a_hears => k_is)
    (case i_hears => k_is)
    (case l_hears => k_is)
    (case c_hears => k_is)
    (case k_hears => k_is)
    (case a_deliver => k_is)
    (case i_deliver => k_is)
    (case l_deliver => k_is)
    (case c_deliver => k_is)
    (case k_deliver => k_is)
    (case a_lie => k_is)
    (case i_lie => k_is)
    (case l_lie => k_is)
    (case c_lie => k_is)
    (case k_lie => k_is)
    (case a_rest => k_is)
    (case i_rest => k_is)
    (case l_rest => k_is)
    (case c_rest => k_is)
    (case k_rest => k_is)
    (case a_und => k_is)
    (case g_und => k_is)
    (case k2_und => k_is)
    (case r2_und => k_is)
    (case l_und => k_is)
    (case c_und => k_is)
    (case k_und => k_is)
    (case a_ech => k_is)
    (case g_ech => k_is)
    (case k2_ech => k_is)
    (case r2_ech => k_is)
    (case l_ech => k_is)
    (case c_ech => k_is)
    (case k_ech => k_is)
    (case a_pro => k_is)
    (case g_pro => k_is)
    (case k2_pro => k_is)
    (case r2_pro => k_is)
    (case l_pro => k_is)
    (case c_pro => k_is)
    (case k_pro => k_is)
    (case a_tak => k_is)
    (case g_tak => k_is)
    (case k2_tak => k_is)
    (case r2_tak => k_is)
    (case l_tak => k_is)
    (case c_tak => k_is)
    (case k_tak => k_is)
    (case a_pot => k_is)
    (case l_pot => k_is)
    (case c_pot => k_is)
    (case k_pot => k_is)
    (case a_take => k_is)
    (case l_take => k_is)
    (case c_take => k_is)
    (case k_take => k_is)
    (case a_of => k_is)
    (case l_of => k_is)
    (case c_of => k_is)
    (case k_of => k_is)
    (case a_cells => k_is)
    (case l_cells => k_is)
    (case c_cells => k_is)
    (case k_cells => k_is)
    (case a_like => k_is)
    (case l_like => k_is)
    (case c_like => k_is)
    (case k_like => k_is)
    (case a_hr => k_is)
    (case l_hr => k_is)
    (case c_hr => k_is)
    (case k_hr => k_is)
    (case a_fc => k_is)
    (case l_fc => k_is)
    (case c_fc => k_is)
    (case k_fc => k_is)
    (case a_on => k_is)
    (case l_on => k_is)
    (case c_on => k_is)
    (case k_on => k_is)
    (case a_ri => k_is)
    (case l_ri => k_is)
    (case c_ri => k_is)
    (case k_ri => k_is)
    (case a_law => k_is)
    (case l_law => k_is)
    (case c_law => k_is)
    (case k_law => k_is)
    (case pgC => k_is)
    (case hdC => k_is)
    (case poC => k_is)
    (case saC => k_is)
    (case mkC => k_is)
    (case kcC => k_is)
    (case pgCE => k_is)
    (case hdCE => k_is)
    (case poCE => k_is)
    (case saCE => k_is)
    (case mkCE => k_is)
    (case kcCE => k_is)
    (case nE_hand => k_is)
    (case nE_counts => k_is)
    (case nE_first => k_is)
    (case nE_told => k_is)
    (case nE_echo_from => k_is)
    (case nE_promise_from => k_is)
    (case nE_echoed => k_is)
    (case nE_promised => k_is)
    (case nE_took => k_is)
    (case nS_n => k_is)
    (case nS_counts => k_is)
    (case nS_liars => k_is)
    (case nS_first => k_is)
    (case nS__value => k_is)
    (case nS__ears => k_is)
    (case nS__slips => k_is)
    (case nS__put_ever => k_is)
    (case nS__log => k_is)
    (case z_isinstance => k_is)
    (case z_int => k_is)
    (case z_bool => k_is)
    (case z_tuple => k_is)
    (case z_str => k_is)
    (case z_list => k_is)
    (case z_all => k_is)
    (case z_zip => k_is)
    (case z_len => k_is)
    (case z_range => k_is)
    (case z_sorted => k_is)
    (case z_enumerate => k_is)
    (case z_min => k_is)
    (case z_max => k_is)
    (case z_sum => k_is)
    (case z_abs => k_is)
    (case v_GREATEST_COUNT => k_is)
    (case v_GREATEST_SPREAD => k_is)
    (case v_FEWEST_SPREAD => k_is)
    (case v_MOST_SPREAD => k_is)
    (case v_MOST_USUAL_STOPS => k_is)
    (case aKi => k_is)
    (case lKi => k_is)
    (case hCC => decide)
