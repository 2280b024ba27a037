import PyProof.Rows.All
import Wide.All
import OpenK.AllK
import Wide.FinOn
import HandS.ForMost
import HandS.IsInst
import HandS.Property
import HandS.SetKeys
import HandS.Conv
import HandS.Zip
import HandS.Star
import HandS.Walk
import HandS.TupAny
import HandS.Flow
import HandS.SortInts
import HandS.TupMul
import HandS.Codes
import HandS.SortInts
import HandS.Style
import PySem.Challenge.RW_liarslate_k17_whole_usual_counts_whoever
set_option Elab.async false
set_option maxRecDepth 100000
set_option maxHeartbeats 4000000
namespace Spr
open PySem L2
def top (i : Nat) : Stmt := PySem.Challenge.pw_liarslate_k17_whole_usual_counts_whoever.main.body.getD i (.Pass ⟨0, 0, 0, 0⟩)
abbrev s_wall : Stmt := top 0
abbrev s_SlateError_init : Stmt := inClass (top 2) 0
abbrev s_is_integer : Stmt := top 13
abbrev s_is_from : Stmt := top 14
abbrev s_is_hand : Stmt := top 15
abbrev s_check_hand : Stmt := top 16
abbrev s_is_hands : Stmt := top 17
abbrev s_is_counts : Stmt := top 25
abbrev s_is_spread : Stmt := top 26
abbrev s_check_number : Stmt := top 27
abbrev s_check_spread : Stmt := top 28
abbrev s_votes : Stmt := top 29
abbrev s_Ear_init : Stmt := inClass (top 30) 0
abbrev s_Ear_hear : Stmt := inClass (top 30) 1
abbrev s_Ear_do_due : Stmt := inClass (top 30) 2
abbrev s_Spread_init : Stmt := inClass (top 31) 0
abbrev s_Spread_eq : Stmt := inClass (top 31) 1
abbrev s_Spread_len : Stmt := inClass (top 31) 2
abbrev s_Spread_under_way : Stmt := inClass (top 31) 3
abbrev s_Spread_echoes : Stmt := inClass (top 31) 4
abbrev s_Spread_promises : Stmt := inClass (top 31) 5
abbrev s_Spread_takings : Stmt := inClass (top 31) 6
abbrev s_Spread_log : Stmt := inClass (top 31) 7
abbrev s_Spread_is_honest : Stmt := inClass (top 31) 8
abbrev s_Spread_put : Stmt := inClass (top 31) 9
abbrev s_Spread_put_to_all : Stmt := inClass (top 31) 10
abbrev s_Spread_hear : Stmt := inClass (top 31) 11
abbrev s_Spread_deliver : Stmt := inClass (top 31) 12
abbrev s_Spread_lie : Stmt := inClass (top 31) 13
abbrev s_Spread_rest : Stmt := inClass (top 31) 14
abbrev s_Spread_heard : Stmt := inClass (top 31) 15
abbrev s_Spread_copy : Stmt := inClass (top 31) 16
abbrev s_usual : Stmt := top 32
abbrev s_law_pot : Stmt := top 34
abbrev s_law_take : Stmt := top 35
abbrev s_law_of : Stmt := top 36
abbrev s_law_some : Stmt := top 37
abbrev s_law_cells : Stmt := top 38
abbrev s_law_usual : Stmt := top 39
abbrev s_law_is_like : Stmt := top 40
abbrev s_law_is_sound : Stmt := top 41
abbrev s_law_right : Stmt := top 42
abbrev s_law : Stmt := top 43
end Spr
namespace Spr
open PySem L2
/-! ### helpers -/
theorem same_upd {H H' : Hp} {D : Addr} {o : HO} (s : Same H H') (h : H D = none) : Same H (upd H' D o) := fun b u e => by
  rw [upd_ne (ne_of_none e h)]
  exact s b u e
theorem same_new {H : Hp} {D : Addr} {o : HO} (h : H D = none) : Same H (upd H D o) := same_upd (Same.refl H) h
theorem sTup {K : PySem.W.Frag} {H H' : Hp} {a : Addr} {xs : List V} (e : Same H H') (h : SqT K H a xs) : SqT K H' a xs := by
  rcases h with (h | ⟨o, h⟩) | h
  · exact .inl (.inl (e _ _ h))
  · exact .inl (.inr ⟨o, e _ _ h⟩)
  · exact .inr h
/-- all that stood stands, and at D a list of ys i -/
def PvS (H1 : Hp) (D : Addr) (ys : Nat → List V) (i : Nat) (H : Hp) : Prop := Same H1 H ∧ H D = some (.lst (ys i))
theorem pv0 {H1 : Hp} {D : Addr} {ys : Nat → List V} (hD : H1 D = none) (y0 : ys 0 = []) : PvS H1 D ys 0 (upd H1 D (.lst [])) := ⟨same_new hD, by rw [upd_same, y0]⟩
theorem pvStep {H1 H4 : Hp} {D : Addr} {ys : Nat → List V} {i : Nat} {y : V} (hD : H1 D = none) (s : Same H1 H4) (h : H4 D = some (.lst (ys i))) (hl : (ys i).length < sizeLine) (e : ys (i + 1) = ys i ++ [y]) :
    ∃ acc, H4 D = some (.lst acc) ∧ acc.length < sizeLine ∧ PvS H1 D ys (i + 1) (upd H4 D (.lst (acc ++ [y]))) := ⟨ys i, h, hl, same_upd s hD, by rw [upd_same, e]⟩
theorem pvSkip {H1 H4 : Hp} {D : Addr} {ys : Nat → List V} {i : Nat} (s : Same H1 H4) (h : H4 D = some (.lst (ys i))) (e : ys (i + 1) = ys i) : PvS H1 D ys (i + 1) H4 := ⟨s, by rw [e]; exact h⟩
theorem walk_zipT {K : PySem.W.Frag} {a b : Addr} {xs ys : List V} {n : Nat} (hn : n = min xs.length ys.length) : Walk (RZ.ItzT K a b) n (fun H => SqT K H a xs ∧ SqT K H b ys) (YPair (fun i => xs[i]?) (fun i => ys[i]?)) := by
  subst hn
  refine ⟨fun i _ hi q => ?_, fun _ q => ⟨xs, ys, q.1, q.2, by omega⟩, fun i H v H' _ q y => ?_⟩
  · have h1 : i < xs.length := by omega
    have h2 : i < ys.length := by omega
    exact ⟨xs, ys, xs[i], ys[i], q.1, q.2, by simp [h1], by simp [h2]⟩
  · obtain ⟨T, x, z, h1, h2, h3, h4, h5⟩ := y
    exact ⟨T, x, z, h1, h2, h3, h4 xs q.1, h5 ys q.2⟩

/-- a def of the top that may be called by its name -/
structure Ca (P : Program) (w : World) (K : PySem.W.Frag) (mg : Str → Option Value) (base : Heap) (k : Nat) (x : Str) (ps : List Str) (sp : Sp) (f : Addr) (fd : FuncData) : Prop where
  ok : FnOk P w K mg base CX0 k f fd ps sp
  m : mg x = some (.ref f)
  kp : PySem.W.keepIn K (.ref f) = true
  b : Binds K fd ps []
/-- such a method -/
structure Me (P : Program) (w : World) (K : PySem.W.Frag) (mg : Str → Option Value) (base : Heap) (k : Nat) (C : Addr) (x : Str) (ps : List Str) (sp : Sp) (f : Addr) (fd : FuncData) : Prop where
  ok : FnOk P w K mg base CX0 k f fd ps sp
  m : Meth K C x f
  b : Binds K fd ps []
section
variable {X : Cx} {k : Nat} {f C : Addr} {fd : FuncData} {ps : List Str} {sp : Sp} {x : Str} {p pos apos : Pos} {e o : PySem.Expr} {es : List PySem.Expr} {t : TA} {ta : TE}
theorem pe_ca (c : Ca X.prog X.w X.K X.mg X.base k x ps sp f fd) (hr : Room k X.A) (ha : PA X (e :: es) t) (hg : Gl X x := by rfl) (hdb : (x == ("__debug__" : Str)) = false := by decide)
    (he : starEach (e :: es) X.env = (false, eval e X.env) :: starEach es X.env := by rfl) (hpl : (backTo pos (starEach es X.env)).any (·.1) = false := by rfl) : PE X (.Call (.Name x p) (e :: es) [] pos) (tCall sp [] E0 t) :=
  pe_call c.ok hr hg c.m c.kp c.b .nil pass0 ha hdb he hpl
theorem pe_me {pl : Sem Bool} (he : PE X o ta) (cl : Cls X.K C) (c : Me X.prog X.w X.K X.mg X.base k C x ps sp f fd) (hr : Room k X.A) (ha : PA X (e :: es) t) (hst : starEach (e :: es) X.env = (false, eval e X.env) :: starEach es X.env := by rfl) (hpl : (backTo pos (starEach es X.env)).any (·.1) = false := by rfl)
    (ht : eval (.Call (.Attribute o x apos) (e :: es) [] pos) X.env = (do
      let ov ← eval o X.env
      standAt apos.atName
      let (f, first) ← holding [ov] (getMethod ov x pl)
      callWith pos f first (backTo pos (starEach (e :: es) X.env)) (backToKw pos (keywordEach [] X.env))) := by rfl) : PE X (.Call (.Attribute o x apos) (e :: es) [] pos) (tMeth C x sp [] E0 ta t) :=
  pe_meth he cl c.m c.ok hr c.b .nil pass0 ha hst hpl ht
theorem pe_me0 {pl : Sem Bool} (he : PE X o ta) (cl : Cls X.K C) (c : Me X.prog X.w X.K X.mg X.base k C x ps sp f fd) (hr : Room k X.A)
    (ht : eval (.Call (.Attribute o x apos) [] [] pos) X.env = (do
      let ov ← eval o X.env
      standAt apos.atName
      let (f, first) ← holding [ov] (getMethod ov x pl)
      callWith pos f first (backTo pos (starEach [] X.env)) (backToKw pos (keywordEach [] X.env))) := by rfl) : PE X (.Call (.Attribute o x apos) [] [] pos) (tMeth C x sp [] E0 ta tNil) :=
  pe_meth0 he cl c.m c.ok hr c.b .nil pass0 ht
end
theorem Ca.up {P : Program} {w : World} {K : PySem.W.Frag} {mg : Str → Option Value} {base : Heap} {k : Nat} {x : Str} {ps : List Str} {sp : Sp} {f : Addr} {fd : FuncData} (c : FnOk P w K mg base CX0 k f fd ps sp) (m : mg x = some (.ref f)) (kp : PySem.W.keepIn K (.ref f) = true) (b : Binds K fd ps []) : Ca P w K mg base k x ps sp f fd := ⟨c, m, kp, b⟩
end Spr
namespace Spr
open PySem L2
/-- the built-in names that the text leaves alone -/
structure Bn (mg : Str → Option Value) : Prop where
  isi : mg "isinstance" = none
  int : mg "int" = none
  bool : mg "bool" = none
  tuple : mg "tuple" = none
  str : mg "str" = none
  list : mg "list" = none
  all : mg "all" = none
  zip : mg "zip" = none
  len : mg "len" = none
  range : mg "range" = none
  sorted : mg "sorted" = none
  enumerate : mg "enumerate" = none
  min : mg "min" = none
  max : mg "max" = none
  sum : mg "sum" = none
  abs : mg "abs" = none
section
variable {P : Program} {w : World} {K : PySem.W.Frag} {mg : Str → Option Value} {base : Heap}

/-! ### terms.py -/
def spIsInt : Sp := fun vs H Q _ => ∃ i : Int, vs = [.int i] ∧ Q (.bl true) H
theorem scIsInt : FnScope ["value"] ["value"] (defScope s_is_integer) := ⟨rfl, rfl, rfl, by decide +kernel, rfl, by decide +kernel, by decide +kernel⟩
theorem ok_is_integer {f : Addr} {fd : FuncData} (F : Fun K "is_integer" "is_integer" s_is_integer f fd) (T : Bn mg) : FnOk P w K mg base CX0 1 f fd ["value"] spIsInt := by
  refine F.ok scIsInt (fun vs H Q E h => ?_) (fun cdv A outer s H vs Q E hr h => ?_)
  · obtain ⟨i, rfl, _⟩ := h
    rfl
  · obtain ⟨i, rfl, k⟩ := h
    refine ⟨_, pss_one (ps_ret (pe_and (pe_callB call_isi (by rfl) T.isi (by decide +kernel) (pa_cons (pv 0) (pa_cons (pe_bltn (v := .ty "int") (by rfl) T.int (by decide +kernel) rfl) pa_nil)))
      (pe_one (pe_not (pe_callB call_isi (by rfl) T.isi (by decide +kernel) (pa_cons (pv 0) (pa_cons (pe_bltn (v := .ty "bool") (by rfl) T.bool (by decide +kernel) rfl) pa_nil))))))), ?_⟩
    refine ⟨_, rfl, .int i, _, _, _, true, rfl, .ty "int", .base (.int i), kit_ty (by decide +kernel), true, rfl, ?_⟩
    refine iteT ⟨_, rfl, .int i, _, _, _, false, rfl, .ty "bool", .base (.int i), kit_ty (by decide +kernel), false, rfl, ?_⟩
    exact k
def spIsFrom : Sp := fun vs H Q _ => ∃ v l h : Int, vs = [.int v, .int l, .int h] ∧ Q (.bl (decide (l ≤ v ∧ v ≤ h))) H
theorem scIsFrom : FnScope ["value", "low", "high"] ["value", "low", "high"] (defScope s_is_from) := ⟨rfl, rfl, rfl, by decide +kernel, rfl, by decide +kernel, by decide +kernel⟩
theorem ok_is_from {f fI : Addr} {fd fdI : FuncData} (F : Fun K "is_from" "is_from" s_is_from f fd) (cI : Ca P w K mg base 1 "is_integer" ["value"] spIsInt fI fdI) : FnOk P w K mg base CX0 2 f fd ["value", "low", "high"] spIsFrom := by
  refine F.ok scIsFrom (fun vs H Q E h => ?_) (fun cdv A outer s H vs Q E hr h => ?_)
  · obtain ⟨v, l, hh, rfl, _⟩ := h
    rfl
  · obtain ⟨v, l, hh, rfl, k⟩ := h
    refine ⟨_, pss_one (ps_ret (pe_and (pe_ca cI hr (pa_cons (pv 0) pa_nil)) (pe_one (pe_chain op_le op_le (pv 1) (pv 0) (pv 2))))), ?_⟩
    refine ⟨_, rfl, v, rfl, true, rfl, iteT ?_⟩
    refine ⟨_, rfl, _, rfl, _, _, rfl, rfl, _, rfl, ?_⟩
    by_cases h1 : l ≤ v
    · have e : decide (l ≤ v ∧ v ≤ hh) = decide (v ≤ hh) := by simp [h1]
      rw [e] at k
      rw [if_pos (decide_eq_true h1)]
      exact ⟨_, rfl, _, _, rfl, rfl, k⟩
    · have e : decide (l ≤ v ∧ v ≤ hh) = false := by simp [h1]
      rw [e] at k
      rw [if_neg (by simp [h1])]
      exact k
def spIsHand : Sp := fun vs H Q _ => ∃ v n : Int, vs = [.int v, .int n] ∧ Q (.bl (decide (0 ≤ v ∧ v < n))) H
theorem scIsHand : FnScope ["value", "n"] ["value", "n"] (defScope s_is_hand) := ⟨rfl, rfl, rfl, by decide +kernel, rfl, by decide +kernel, by decide +kernel⟩
theorem ok_is_hand {f fI : Addr} {fd fdI : FuncData} (F : Fun K "is_hand" "is_hand" s_is_hand f fd) (cI : Ca P w K mg base 2 "is_from" ["value", "low", "high"] spIsFrom fI fdI) : FnOk P w K mg base CX0 3 f fd ["value", "n"] spIsHand := by
  refine F.ok scIsHand (fun vs H Q E h => ?_) (fun cdv A outer s H vs Q E hr h => ?_)
  · obtain ⟨v, n, rfl, _⟩ := h
    rfl
  · obtain ⟨v, n, rfl, k⟩ := h
    refine ⟨_, pss_one (ps_ret (pe_ca cI hr (pa_cons (pv 0) (pa_cons pe_int (pa_cons (pe_op op_sub (pv 1) pe_int) pa_nil))))), ?_⟩
    refine ⟨_, rfl, _, rfl, _, _, rfl, rfl, v, 0, n - 1, rfl, ?_⟩
    have e : decide (0 ≤ v ∧ v ≤ n - 1) = decide (0 ≤ v ∧ v < n) := by
      congr 1
      apply propext
      omega
    rw [e]
    exact k
def spChkHand : Sp := fun vs H Q _ => ∃ v n : Int, vs = [.int v, .int n] ∧ 0 ≤ v ∧ v < n ∧ Q .non H
theorem scChkHand : FnScope ["hand", "n"] ["hand", "n"] (defScope s_check_hand) := ⟨rfl, rfl, rfl, by decide +kernel, rfl, by decide +kernel, by decide +kernel⟩
theorem ok_check_hand {f fI : Addr} {fd fdI : FuncData} (F : Fun K "check_hand" "check_hand" s_check_hand f fd) (cI : Ca P w K mg base 3 "is_hand" ["value", "n"] spIsHand fI fdI) : FnOk P w K mg base CX0 4 f fd ["hand", "n"] spChkHand := by
  refine F.ok scChkHand (fun vs H Q E h => ?_) (fun cdv A outer s H vs Q E hr h => ?_)
  · obtain ⟨v, n, rfl, _⟩ := h
    rfl
  · obtain ⟨v, n, rfl, h0, h1, k⟩ := h
    refine ⟨_, pss_one (ps_if (pt_not (pt_val (pe_ca cI hr (pa_cons (pv 0) (pa_cons (pv 1) pa_nil))))) pss_never pss_nil), ?_⟩
    refine ⟨_, rfl, _, rfl, v, n, rfl, _, rfl, ?_⟩
    rw [decide_eq_true (show 0 ≤ v ∧ v < n from ⟨h0, h1⟩)]
    exact iteF k
def Asc (ls : List Int) : Prop := ls.Pairwise (· < ·)
def spIsHands : Sp := fun vs H Q _ => ∃ (a : Addr) (ls : List Int) (n : Int), vs = [.ref a, .int n] ∧ H a = some (.tup (ls.map V.int)) ∧ (∀ l ∈ ls, 0 ≤ l ∧ l < n) ∧ Asc ls ∧ ls.length ≤ 1000 ∧ ∀ H', Same H H' → Q (.bl true) H'
theorem scIsHands : FnScope ["value", "n", "hand", "one", "other"] ["value", "n"] (defScope s_is_hands) := ⟨rfl, rfl, rfl, by decide +kernel, rfl, by decide +kernel, by decide +kernel⟩
theorem map_at {ls : List Int} {i : Nat} {x : V} (h : (ls.map V.int)[i]? = some x) : ∃ l, ls[i]? = some l ∧ x = V.int l := by
  rw [List.getElem?_map] at h
  cases e : ls[i]? with
  | none => rw [e] at h; cases h
  | some l => rw [e] at h; exact ⟨l, rfl, (Option.some.inj h).symm⟩
theorem bl_all_replicate (n : Nat) : ((List.replicate n true).all id) = true := by
  induction n with
  | zero => rfl
  | succ n ih => rw [List.replicate_succ, List.all_cons, ih]; rfl
theorem ok_is_hands {f fI : Addr} {fd fdI : FuncData} (F : Fun K "is_hands" "is_hands" s_is_hands f fd) (T : Bn mg) (cI : Ca P w K mg base 3 "is_hand" ["value", "n"] spIsHand fI fdI) : FnOk P w K mg base CX0 4 f fd ["value", "n"] spIsHands := by
  refine F.ok scIsHands (fun vs H Q E h => ?_) (fun cdv A outer s H vs Q E hr h => ?_)
  · obtain ⟨a, ls, n, rfl, _⟩ := h
    rfl
  · obtain ⟨a, ls, n, rfl, ha, hb, hasc, hlen, k⟩ := h
    refine ⟨_, pss_cons (ps_if (PW.pt (pw_or (pt_not (pt_val (pe_callB call_isi (by rfl) T.isi (by decide +kernel) (pa_cons (pv 0) (pa_cons (pe_bltn (v := .ty "tuple") (by rfl) T.tuple (by decide +kernel) rfl) pa_nil)))))
        (pw_or1 (pt_not (pt_val (pe_callB (cr_all rfl) (by rfl) T.all (by decide +kernel) (pa_cons (pe_lc (own := [("hand", 2)]) (g := gName 2) (tt := tYes) rfl scIsHands.nd (pi_tup (pv 0)) (blkOk_by (N := ["value", "n", "hand", "one", "other"]) (sc := defScope s_is_hands) (by decide +kernel))
          (fun _ _ _ _ _ => pg_name (i := 2) scIsHands.nd rfl (Or.inl rfl)) (fun _ _ _ _ _ => pts_nil) (fun _ _ _ _ _ => pe_ca cI (by assumption) (pa_cons (pv 2) (pa_cons (pv 1) pa_nil)))) pa_nil)))))))
        (pss_one (ps_ret pe_bl)) pss_nil)
      (pss_one (ps_ret (pe_callB (cr_all rfl) (by rfl) T.all (by decide +kernel) (pa_cons (pe_lc (own := [("one", 3), ("other", 4)]) (g := gTup K 2 (gCons (gName 3) (gCons (gName 4) gNil))) (tt := tYes) rfl scIsHands.nd (RZ.pi_zipA (by rfl) T.zip (pa_cons (pv 0) (pa_cons (pe_slice sl_tupA (pv 0) (po_some pe_int) po_none) pa_nil))) (blkOk_by (N := ["value", "n", "hand", "one", "other"]) (sc := defScope s_is_hands) (by decide +kernel))
          (fun _ _ _ _ _ => pg_tup rfl (pgs_cons (pg_name (i := 3) scIsHands.nd rfl (Or.inl rfl)) (pgs_cons (pg_name (i := 4) scIsHands.nd rfl (Or.inl rfl)) pgs_nil))) (fun _ _ _ _ _ => pts_nil) (fun _ _ _ _ _ => pe_cmpR op_lt (pv 3) (pv 4) (nomark _))) pa_nil)))), ?_⟩
    refine ⟨_, rfl, .ref a, _, _, _, true, rfl, .ty "tuple", .base (.tup ha), kit_ty (by decide +kernel), true, rfl, ?_⟩
    refine iteF ⟨_, rfl, a, rfl, ⟨_, SqT.of ha⟩, fun D hD => ?_⟩
    refine lc_it walk_tup (PvS H D fun i => List.replicate i (.bl true)) (pv0 hD rfl) (fun i H' _ p => sTup p.1 (SqT.of ha)) (fun i x H1 H2 hi p y => ?_) (fun H1 p => ?_)
    · obtain ⟨rfl, hx⟩ := y
      obtain ⟨l, hl, rfl⟩ := map_at hx
      have hil : i < ls.length := by rw [List.length_map] at hi; exact hi
      refine ⟨rfl, _, rfl, _, rfl, l, n, rfl, ?_⟩
      rw [decide_eq_true (hb l (List.mem_of_getElem? hl))]
      exact pvStep hD p.1 p.2 (by rw [List.length_replicate]; exact small1000 (by omega)) List.replicate_succ'
    · refine ⟨D, _, rfl, SqL.of (by rw [p.2, List.map_replicate]), true, by rw [bl_all_replicate], iteF ?_⟩
      have hcut : cutV (ls.map V.int) (some 1) Option.none = (ls.drop 1).map V.int := by
        show ((ls.map V.int).drop (HT.sIx (ls.map V.int).length 0 (some ((1 : Nat) : Int)))).take ((ls.map V.int).length - HT.sIx (ls.map V.int).length 0 (some ((1 : Nat) : Int))) = _
        rw [HT.sIx_nat, List.length_map, ← List.map_drop]
        cases ls with
        | nil => rfl
        | cons z r =>
          have e : min 1 (z :: r).length = 1 := by simp
          rw [e]
          apply List.take_of_length_le
          simp
      refine ⟨_, rfl, _, rfl, 1, rfl, a, _, rfl, sTup p.1 (SqT.of ha), fun hw => ?_, fun hw b hb2 => ?_⟩
      · have hls : ls = [] := by
          cases ls with
          | nil => rfl
          | cons z r =>
            have := hw.1
            rw [show (some (1 : Int)) = some ((1 : Nat) : Int) from rfl, HT.sIx_nat] at this
            simp at this
        subst hls
        refine ⟨a, a, _, _, rfl, .inr ⟨sTup p.1 (SqT.of ha), sTup p.1 (SqT.of ha), fun D2 hD2 => ?_⟩⟩
        refine lc_it (walk_zipT rfl) (PvS H1 D2 fun i => List.replicate i (.bl true)) (pv0 hD2 rfl) (fun i H' _ q => ⟨sTup q.1 (sTup p.1 (SqT.of ha)), sTup q.1 (sTup p.1 (SqT.of ha))⟩) (fun i x H2 H3 hi q y => absurd hi (Nat.not_lt_zero i)) (fun H2 q => ?_)
        refine ⟨D2, _, rfl, SqL.of (by rw [q.2, List.map_replicate]), ?_⟩
        rw [bl_all_replicate]
        exact k H2 (Same.trans p.1 q.1)
      · have s2 : Same H (upd H1 b (.tup (cutV (ls.map V.int) (some 1) Option.none))) := Same.trans p.1 (same_new hb2)
        have hb3 : SqT K (upd H1 b (.tup (cutV (ls.map V.int) (some 1) Option.none))) b ((ls.drop 1).map V.int) := by
          rw [← hcut]
          exact SqT.of upd_same
        refine ⟨a, b, _, _, rfl, .inr ⟨sTup s2 (SqT.of ha), hb3, fun D2 hD2 => ?_⟩⟩
        refine lc_it (walk_zipT rfl) (PvS _ D2 fun i => List.replicate i (.bl true)) (pv0 hD2 rfl) (fun i H' _ q => ⟨sTup q.1 (sTup s2 (SqT.of ha)), sTup q.1 hb3⟩) (fun i x H2 H3 hi q y => ?_) (fun H2 q => ?_)
        · obtain ⟨T', x1, x2, rfl, hT, rfl, e1, e2⟩ := y
          obtain ⟨l1, g1, rfl⟩ := map_at e1
          obtain ⟨l2, g2, rfl⟩ := map_at e2
          have hlt : l1 < l2 := by
            rw [List.getElem?_drop] at g2
            obtain ⟨b1, c1⟩ := List.getElem?_eq_some_iff.mp g1
            obtain ⟨b2, c2⟩ := List.getElem?_eq_some_iff.mp g2
            have := List.pairwise_iff_getElem.mp hasc i (1 + i) b1 b2 (by omega)
            rw [c1, c2] at this
            exact this
          have hil : i < ls.length := (List.getElem?_eq_some_iff.mp g1).1
          refine ⟨T', _, rfl, SqT.of upd_same, rfl, _, _, rfl, _, _, rfl, rfl, rfl, _, rfl, _, rfl, _, _, rfl, rfl, ?_⟩
          dsimp only
          rw [decide_eq_true hlt]
          refine pvStep hD2 (same_upd q.1 ?_) ?_ (by rw [List.length_replicate]; exact small1000 (by omega)) List.replicate_succ'
          · cases e : upd H1 b (.tup (cutV (ls.map V.int) (some 1) Option.none)) T' with
            | none => rfl
            | some o => rw [q.1 _ _ e] at hT; cases hT
          · rw [upd_ne (ne_of_none q.2 hT)]
            exact q.2
        · refine ⟨D2, _, rfl, SqL.of (by rw [q.2, List.map_replicate]), ?_⟩
          rw [bl_all_replicate]
          exact k H2 (Same.trans s2 q.1)
end
end Spr
namespace Spr
open PySem L2
/-- the top's constants -/
structure Cn (mg : Str → Option Value) : Prop where
  c20 : ∃ t, mg "GREATEST_COUNT" = some (.int 20 t)
  c99 : ∃ t, mg "GREATEST_SPREAD" = some (.int 99 t)
  c2 : ∃ t, mg "FEWEST_SPREAD" = some (.int 2 t)
  c12 : ∃ t, mg "MOST_SPREAD" = some (.int 12 t)
  c9 : ∃ t, mg "MOST_USUAL_STOPS" = some (.int 9 t)
section
variable {P : Program} {w : World} {K : PySem.W.Frag} {mg : Str → Option Value} {base : Heap}
def spIsCounts : Sp := fun vs H Q _ => ∃ (a : Addr) (cs : List Int), vs = [.ref a] ∧ H a = some (.tup (cs.map V.int)) ∧ cs.length = 3 ∧ (∀ c ∈ cs, 1 ≤ c ∧ c ≤ 20) ∧ ∀ H', Same H H' → Q (.bl true) H'
theorem scIsCounts : FnScope ["value", "count"] ["value"] (defScope s_is_counts) := ⟨rfl, rfl, rfl, by decide +kernel, rfl, by decide +kernel, by decide +kernel⟩
theorem ok_is_counts {f fI : Addr} {fd fdI : FuncData} (F : Fun K "is_counts" "is_counts" s_is_counts f fd) (T : Bn mg) (N : Cn mg) (cI : Ca P w K mg base 2 "is_from" ["value", "low", "high"] spIsFrom fI fdI) : FnOk P w K mg base CX0 3 f fd ["value"] spIsCounts := by
  refine F.ok scIsCounts (fun vs H Q E h => ?_) (fun cdv A outer s H vs Q E hr h => ?_)
  · obtain ⟨a, cs, rfl, _⟩ := h
    rfl
  · obtain ⟨a, cs, rfl, ha, h3, hb, k⟩ := h
    obtain ⟨t20, m20⟩ := N.c20
    refine ⟨_, pss_cons (ps_if (PW.pt (pw_or (pt_not (pt_val (pe_callB call_isi (by rfl) T.isi (by decide +kernel) (pa_cons (pv 0) (pa_cons (pe_bltn (v := .ty "tuple") (by rfl) T.tuple (by decide +kernel) rfl) pa_nil)))))
        (pw_or1 (pt_cmpR op_ne (pe_callB call_len_seq (by rfl) T.len PySem.boot_len (pa_cons (pv 0) pa_nil)) pe_int (nomark _)))))
        (pss_one (ps_ret pe_bl)) pss_nil)
      (pss_one (ps_ret (pe_callB (cr_all rfl) (by rfl) T.all (by decide +kernel) (pa_cons (pe_lc (own := [("count", 1)]) (g := gName 1) (tt := tYes) rfl scIsCounts.nd (pi_tup (pv 0)) (blkOk_by (N := ["value", "count"]) (sc := defScope s_is_counts) (by decide +kernel))
          (fun _ _ _ _ _ => pg_name (i := 1) scIsCounts.nd rfl (Or.inl rfl)) (fun _ _ _ _ _ => pts_nil) (fun _ _ _ _ _ => pe_ca cI (by assumption) (pa_cons (pv 1) (pa_cons pe_int (pa_cons (pe_glob (v := .int 20) rfl m20 ⟨_, rfl⟩) pa_nil))))) pa_nil)))), ?_⟩
    refine ⟨_, rfl, .ref a, _, _, _, true, rfl, .ty "tuple", .base (.tup ha), kit_ty (by decide +kernel), true, rfl, ?_⟩
    refine iteF ⟨_, rfl, a, _, rfl, .inr (SqT.of ha), rfl, _, rfl, ?_⟩
    rw [List.length_map, h3]
    refine ⟨_, rfl, a, rfl, ⟨_, SqT.of ha⟩, fun D hD => ?_⟩
    refine lc_it walk_tup (PvS H D fun i => List.replicate i (.bl true)) (pv0 hD rfl) (fun i H' _ p => sTup p.1 (SqT.of ha)) (fun i x H1 H2 hi p y => ?_) (fun H1 p => ?_)
    · obtain ⟨rfl, hx⟩ := y
      obtain ⟨l, hl, rfl⟩ := map_at hx
      have hil : i < cs.length := by rw [List.length_map] at hi; exact hi
      refine ⟨rfl, _, rfl, l, 1, 20, rfl, ?_⟩
      rw [decide_eq_true (hb l (List.mem_of_getElem? hl))]
      exact pvStep hD p.1 p.2 (by rw [List.length_replicate]; exact small1000 (by omega)) List.replicate_succ'
    · refine ⟨D, _, rfl, SqL.of (by rw [p.2, List.map_replicate]), ?_⟩
      rw [bl_all_replicate]
      exact k H1 p.1
def spIsSpread : Sp := fun vs H Q _ => ∃ v : Int, vs = [.int v] ∧ Q (.bl (decide (0 ≤ v ∧ v ≤ 99))) H
theorem scIsSpread : FnScope ["value"] ["value"] (defScope s_is_spread) := ⟨rfl, rfl, rfl, by decide +kernel, rfl, by decide +kernel, by decide +kernel⟩
theorem ok_is_spread {f fI : Addr} {fd fdI : FuncData} (F : Fun K "is_spread" "is_spread" s_is_spread f fd) (N : Cn mg) (cI : Ca P w K mg base 2 "is_from" ["value", "low", "high"] spIsFrom fI fdI) : FnOk P w K mg base CX0 3 f fd ["value"] spIsSpread := by
  refine F.ok scIsSpread (fun vs H Q E h => ?_) (fun cdv A outer s H vs Q E hr h => ?_)
  · obtain ⟨v, rfl, _⟩ := h
    rfl
  · obtain ⟨v, rfl, k⟩ := h
    obtain ⟨t99, m99⟩ := N.c99
    refine ⟨_, pss_one (ps_ret (pe_ca cI hr (pa_cons (pv 0) (pa_cons pe_int (pa_cons (pe_glob (v := .int 99) rfl m99 ⟨_, rfl⟩) pa_nil))))), ?_⟩
    exact ⟨_, rfl, v, 0, 99, rfl, k⟩
def spChkNumber : Sp := fun vs H Q _ => ∃ n : Int, vs = [.int n] ∧ 2 ≤ n ∧ n ≤ 12 ∧ Q .non H
theorem scChkNumber : FnScope ["n"] ["n"] (defScope s_check_number) := ⟨rfl, rfl, rfl, by decide +kernel, rfl, by decide +kernel, by decide +kernel⟩
theorem ok_check_number {f fI : Addr} {fd fdI : FuncData} (F : Fun K "check_number" "check_number" s_check_number f fd) (N : Cn mg) (cI : Ca P w K mg base 2 "is_from" ["value", "low", "high"] spIsFrom fI fdI) : FnOk P w K mg base CX0 3 f fd ["n"] spChkNumber := by
  refine F.ok scChkNumber (fun vs H Q E h => ?_) (fun cdv A outer s H vs Q E hr h => ?_)
  · obtain ⟨v, rfl, _⟩ := h
    rfl
  · obtain ⟨v, rfl, h0, h1, k⟩ := h
    obtain ⟨t2, m2⟩ := N.c2
    obtain ⟨t12, m12⟩ := N.c12
    refine ⟨_, pss_one (ps_if (pt_not (pt_val (pe_ca cI hr (pa_cons (pv 0) (pa_cons (pe_glob (v := .int 2) rfl m2 ⟨_, rfl⟩) (pa_cons (pe_glob (v := .int 12) rfl m12 ⟨_, rfl⟩) pa_nil)))))) pss_never pss_nil), ?_⟩
    refine ⟨_, rfl, v, 2, 12, rfl, _, rfl, ?_⟩
    rw [decide_eq_true (show 2 ≤ v ∧ v ≤ 12 from ⟨h0, h1⟩)]
    exact iteF k
/-- the value of an option -/
def ov : Option Int → V
  | none => .non
  | some i => .int i
theorem ov_none (o : Option Int) : decide (ov o = .non) = o.isNone := by
  cases o with
  | none => rfl
  | some i => rfl
def inI (i : Int) (ls : List Int) : Bool := decide (i ∈ ls)
theorem inV_int (i : Int) (ls : List Int) : inV (.int i) (ls.map V.int) = inI i ls := by
  unfold inI inV
  induction ls with
  | nil => rfl
  | cons z r ih =>
    rw [List.map_cons, List.any_cons, ih]
    show ((z == i) || _) = _
    by_cases h : z = i
    · subst h
      simp
    · have h' : ¬ i = z := fun q => h q.symm
      simp [h, h']
theorem flat_ints (ls : List Int) : (ls.map V.int).all flatV = true := by
  rw [List.all_map]
  apply List.all_eq_true.mpr
  intro x _
  rfl
def spChkSpread : Sp := fun vs H Q _ => ∃ (n : Int) (tc tl : Addr) (cs ls : List Int) (first : Int) (v : Option Int), vs = [.int n, .ref tc, .ref tl, .int first, ov v] ∧ 2 ≤ n ∧ n ≤ 12 ∧ H tc = some (.tup (cs.map V.int)) ∧ cs.length = 3 ∧ (∀ c ∈ cs, 1 ≤ c ∧ c ≤ 20) ∧
  H tl = some (.tup (ls.map V.int)) ∧ (∀ l ∈ ls, 0 ≤ l ∧ l < n) ∧ Asc ls ∧ (ls.length : Int) < n ∧ 0 ≤ first ∧ first < n ∧ (first ∈ ls → v = none) ∧ (first ∉ ls → ∃ i, v = some i ∧ 0 ≤ i ∧ i ≤ 99) ∧ ∀ H', Same H H' → Q .non H'
theorem scChkSpread : FnScope ["n", "counts", "liars", "first", "value"] ["n", "counts", "liars", "first", "value"] (defScope s_check_spread) := ⟨rfl, rfl, rfl, by decide +kernel, rfl, by decide +kernel, by decide +kernel⟩
theorem ok_check_spread {f f1 f2 f3 f4 f5 : Addr} {fd d1 d2 d3 d4 d5 : FuncData} (F : Fun K "check_spread" "check_spread" s_check_spread f fd) (T : Bn mg) (c1 : Ca P w K mg base 3 "check_number" ["n"] spChkNumber f1 d1) (c2 : Ca P w K mg base 3 "is_counts" ["value"] spIsCounts f2 d2)
    (c3 : Ca P w K mg base 4 "is_hands" ["value", "n"] spIsHands f3 d3) (c4 : Ca P w K mg base 4 "check_hand" ["hand", "n"] spChkHand f4 d4) (c5 : Ca P w K mg base 3 "is_spread" ["value"] spIsSpread f5 d5) : FnOk P w K mg base CX0 5 f fd ["n", "counts", "liars", "first", "value"] spChkSpread := by
  refine F.ok scChkSpread (fun vs H Q E h => ?_) (fun cdv A outer s H vs Q E hr h => ?_)
  · obtain ⟨n, tc, tl, cs, ls, first, v, rfl, _⟩ := h
    rfl
  · obtain ⟨n, tc, tl, cs, ls, first, v, rfl, hn1, hn2, htc, hc3, hcb, htl, hlb, hasc, hln, hf0, hf1, hv0, hv1, k⟩ := h
    have hr3 := hr.mono (show 3 ≤ 4 by decide)
    refine ⟨_, pss_cons (ps_expr (pe_ca c1 hr3 (pa_cons (pv 0) pa_nil)))
      (pss_cons (ps_if (pt_not (pt_val (pe_ca c2 hr3 (pa_cons (pv 1) pa_nil)))) pss_never pss_nil)
      (pss_cons (ps_if (PW.pt (pw_or (pt_not (pt_val (pe_ca c3 hr (pa_cons (pv 2) (pa_cons (pv 0) pa_nil))))) (pw_or1 (pt_cmpR op_eq (pe_callB call_len_seq (by rfl) T.len PySem.boot_len (pa_cons (pv 2) pa_nil)) (pv 0) (nomark _))))) pss_never pss_nil)
      (pss_cons (ps_expr (pe_ca c4 hr (pa_cons (pv 3) (pa_cons (pv 0) pa_nil))))
      (pss_one (ps_if (PW.pt (pw_or (PW.pt (pw_and (pt_cmpR op_in_seq (pv 3) (pv 2) (by rfl)) (pw_and1 (pt_cmp (pc_notN (pv 4))))))
        (pw_or1 (PW.pt (pw_and (pt_cmpR op_notIn_seq (pv 3) (pv 2) (by rfl)) (pw_and1 (pt_not (pt_val (pe_ca c5 hr3 (pa_cons (pv 4) pa_nil))))))))))
        pss_never pss_nil))))), ?_⟩
    refine ⟨_, rfl, n, rfl, hn1, hn2, ?_⟩
    refine ⟨_, rfl, tc, cs, rfl, htc, hc3, hcb, fun H1 s1 => ⟨true, rfl, iteF ?_⟩⟩
    refine ⟨_, rfl, _, rfl, tl, ls, n, rfl, s1 _ _ htl, hlb, hasc, by omega, fun H2 s2 => ⟨true, rfl, iteF ?_⟩⟩
    have e2 := Same.trans s1 s2
    refine ⟨_, rfl, tl, _, rfl, .inr (SqT.of (e2 _ _ htl)), _, rfl, rfl, _, rfl, ?_⟩
    rw [List.length_map, decide_eq_false (show ¬ V.int (ls.length : Int) = V.int n from fun q => by injection q with q; omega)]
    refine iteF ⟨_, rfl, _, rfl, first, n, rfl, hf0, hf1, ?_⟩
    refine ⟨_, rfl, _, rfl, tl, _, rfl, .inr (SqT.of (e2 _ _ htl)), rfl, flat_ints ls, _, rfl, ?_⟩
    rw [inV_int]
    by_cases hf : first ∈ ls
    · rw [show inI first ls = true from decide_eq_true hf, hv0 hf]
      refine iteT ⟨_, rfl, _, rfl, iteF ?_⟩
      refine ⟨_, rfl, _, rfl, tl, _, rfl, .inr (SqT.of (e2 _ _ htl)), rfl, flat_ints ls, _, rfl, ?_⟩
      rw [inV_int, show inI first ls = true from decide_eq_true hf]
      exact iteF (iteF (k H2 e2))
    · obtain ⟨i, ei, hi0, hi1⟩ := hv1 hf
      rw [show inI first ls = false from decide_eq_false hf, ei]
      refine iteF (iteF ?_)
      refine ⟨_, rfl, _, rfl, tl, _, rfl, .inr (SqT.of (e2 _ _ htl)), rfl, flat_ints ls, _, rfl, ?_⟩
      rw [inV_int, show inI first ls = false from decide_eq_false hf]
      refine iteT ⟨_, rfl, i, rfl, _, rfl, ?_⟩
      rw [decide_eq_true (show 0 ≤ i ∧ i ≤ 99 from ⟨hi0, hi1⟩)]
      exact iteF (k H2 e2)
end
end Spr
namespace Spr
open PySem L2
/-! ### the mirror -/
abbrev Pm := List (Int × Int)
def dk (m : Pm) : List (Key × V) := m.map fun p => (Sum.inl p.1, V.int p.2)
structure ME where
  told : Option Int
  ef : Pm
  pf : Pm
  echoed : Option Int
  promised : Option Int
  took : Option Int
def votes (m : Pm) (v : Int) : Nat := (m.filter fun p => decide (p.2 = v)).length
inductive Kd where | said | echo | prom
  deriving DecidableEq
def ks : Kd → Str
  | .said => "said"
  | .echo => "echo"
  | .prom => "promise"
def hasK (m : Pm) (k : Int) : Bool := m.any fun p => decide (p.1 = k)
/-- setdefault -/
def setd (m : Pm) (k v : Int) : Pm := if hasK m k = true then m else m ++ [(k, v)]
/-- what is due: the three steps -/
def due1 (hand : Int) (E : ME) : ME × List (Kd × Int) := match E.told, E.echoed with
  | some u, none => ({ E with echoed := some u, ef := E.ef ++ [(hand, u)] }, [(.echo, u)])
  | _, _ => (E, [])
def due2 (hand e r v : Int) (E : ME) : ME × List (Kd × Int) :=
  if (e ≤ (votes E.ef v : Int) ∨ r ≤ (votes E.pf v : Int)) ∧ E.promised = none then ({ E with promised := some v, pf := E.pf ++ [(hand, v)] }, [(.prom, v)]) else (E, [])
def due3 (d v : Int) (E : ME) : ME := if d ≤ (votes E.pf v : Int) ∧ E.took = none then { E with took := some v } else E
def doDue (hand e r d v : Int) (E : ME) : ME × List (Kd × Int) :=
  (due3 d v (due2 hand e r v (due1 hand E).1).1, (due1 hand E).2 ++ (due2 hand e r v (due1 hand E).1).2)
def hear0 (first : Int) (k : Kd) (snd v : Int) (E : ME) : ME := match k with
  | .said => if snd = first ∧ E.told = none then { E with told := some v } else E
  | .echo => { E with ef := setd E.ef snd v }
  | .prom => { E with pf := setd E.pf snd v }
def hear (hand first e r d : Int) (k : Kd) (snd v : Int) (E : ME) : ME × List (Kd × Int) := doDue hand e r d v (hear0 first k snd v E)

theorem dk_length (m : Pm) : (dk m).length = m.length := by
  unfold dk
  rw [List.length_map]
theorem valV_dk (m : Pm) (k : Int) : (valV (dk m) (Sum.inl k : Key)).isSome = hasK m k := by
  rw [← valV_any]
  unfold dk hasK
  rw [List.any_map]
  congr 1
  funext p
  show decide ((Sum.inl p.1 : Key) = Sum.inl k) = decide (p.1 = k)
  by_cases h : p.1 = k
  · rw [h]
    simp
  · rw [decide_eq_false h, decide_eq_false fun q => h (Sum.inl.inj q)]
theorem valV_none (m : Pm) (k : Int) (h : hasK m k = false) : valV (dk m) (Sum.inl k : Key) = none := by
  have := valV_dk m k
  rw [h] at this
  cases e : valV (dk m) (Sum.inl k : Key) with
  | none => rfl
  | some v => rw [e] at this; cases this
theorem putK_dk (m : Pm) (k v : Int) (h : hasK m k = false) : putK (dk m) (Sum.inl k : Key) (.int v) = dk (m ++ [(k, v)]) := by
  rw [putK_new _ (valV_none m k h)]
  unfold dk
  rw [List.map_append]
  rfl
theorem votes_le (m : Pm) (v : Int) : votes m v ≤ m.length := List.length_filter_le _ _
end Spr
namespace Spr
open PySem L2
section
variable {P : Program} {w : World} {K : PySem.W.Frag} {mg : Str → Option Value} {base : Heap}
def spVotes : Sp := fun vs H Q _ => ∃ (d : Addr) (m : Pm) (v : Int), vs = [.ref d, .int v] ∧ H d = some (.dK (dk m)) ∧ m.length ≤ 1000 ∧ ∀ H', Same H H' → Q (.int (votes m v)) H'
theorem scVotes : FnScope ["told", "value", "one"] ["told", "value"] (defScope s_votes) := ⟨rfl, rfl, rfl, by decide +kernel, rfl, by decide +kernel, by decide +kernel⟩
theorem filter_take_succ {m : Pm} {i : Nat} {p : Int × Int} (h : m[i]? = some p) (f : Int × Int → Bool) : (m.take (i + 1)).filter f = (m.take i).filter f ++ (if f p = true then [p] else []) := by
  rw [List.take_add_one, h, List.filter_append]
  congr 1
  show [p].filter f = _
  rw [List.filter_cons]
  split <;> rfl
theorem ok_votes {f : Addr} {fd : FuncData} (F : Fun K "votes" "votes" s_votes f fd) (T : Bn mg) : FnOk P w K mg base CX0 1 f fd ["told", "value"] spVotes := by
  refine F.ok scVotes (fun vs H Q E h => ?_) (fun cdv A outer s H vs Q E hr h => ?_)
  · obtain ⟨d, m, v, rfl, _⟩ := h
    rfl
  · obtain ⟨d, m, v, rfl, hd, hm, k⟩ := h
    refine ⟨_, pss_one (ps_ret (pe_callB call_len_seq (by rfl) T.len PySem.boot_len (pa_cons (pe_lock (pe_lc (own := [("one", 2)]) (g := gName 2) rfl scVotes.nd (pi_values (pv 0)) (blkOk_by (N := ["told", "value", "one"]) (sc := defScope s_votes) (by decide +kernel))
          (fun _ _ _ _ _ => pg_name (i := 2) scVotes.nd rfl (Or.inl rfl)) (fun _ _ _ _ _ => pts_one (pt_cmpR op_eq (pv 2) (pv 1) (nomark _))) (fun _ _ _ _ _ => pv 2))) pa_nil))), ?_⟩
    refine ⟨d, _, hd, True.intro, fun od => ?_⟩
    refine ⟨_, rfl, d, od, _, rfl, upd_same, fun D hD => ?_⟩
    have hDd : D ≠ d := fun q => by rw [q, upd_same] at hD; cases hD
    refine lc_it walk_values (PvS _ D fun i => ((m.take i).filter fun p => decide (p.2 = v)).map fun p => V.int p.2) (pv0 hD rfl) (fun i H' _ p => p.1 _ _ upd_same) (fun i x H1 H2 hi p y => ?_) (fun H1 p => ?_)
    · obtain ⟨rfl, kk, hx⟩ := y
      have : ∃ q, m[i]? = some q ∧ x = V.int q.2 := by
        unfold dk at hx
        rw [List.getElem?_map] at hx
        cases e : m[i]? with
        | none => rw [e] at hx; cases hx
        | some q => rw [e] at hx; exact ⟨q, rfl, by injection hx with hx; injection hx with _ hx; exact hx.symm⟩
      obtain ⟨q, hq, rfl⟩ := this
      refine ⟨rfl, _, rfl, _, rfl, rfl, _, rfl, ?_⟩
      dsimp only
      by_cases hqv : q.2 = v
      · rw [decide_eq_true (show V.int q.2 = V.int v by rw [hqv])]
        refine iteT ⟨_, rfl, ?_⟩
        refine pvStep hD p.1 p.2 ?_ ?_
        · rw [List.length_map]
          exact small1000 (Nat.le_trans (List.length_filter_le _ _) (Nat.le_trans (List.length_take_le _ _) (by rw [dk_length] at hi; omega)))
        · show ((m.take (i + 1)).filter fun p => decide (p.2 = v)).map (fun p => V.int p.2) = _
          rw [filter_take_succ hq, if_pos (decide_eq_true hqv), List.map_append]
          rfl
      · rw [decide_eq_false (show ¬ V.int q.2 = V.int v from fun z => hqv (by injection z))]
        refine iteF ?_
        refine pvSkip p.1 p.2 ?_
        show ((m.take (i + 1)).filter fun p => decide (p.2 = v)).map (fun p => V.int p.2) = _
        rw [filter_take_succ hq, if_neg (by simp [hqv]), List.append_nil]
    · refine ⟨p.1 _ _ upd_same, D, _, rfl, .inl (SqL.of (by rw [upd_ne hDd]; exact p.2)), ?_⟩
      rw [List.length_map, dk_length, List.take_of_length_le (Nat.le_refl _)]
      refine k _ fun b o e => ?_
      by_cases hb : b = d
      · rw [hb, upd_same]
        rw [hb, hd] at e
        exact e
      · rw [upd_ne hb]
        exact p.1 _ _ (by rw [upd_ne hb]; exact e)
end
end Spr
namespace Spr
open PySem L2
section
variable {P : Program} {w : World} {K : PySem.W.Frag} {mg : Str → Option Value} {base : Heap}
def earF (hand : Int) (tc : Addr) (first : Int) (d1 d2 : Addr) (E : ME) : List (Str × V) := [("hand", .int hand), ("counts", .ref tc), ("first", .int first), ("told", ov E.told), ("echo_from", .ref d1), ("promise_from", .ref d2), ("echoed", ov E.echoed), ("promised", ov E.promised), ("took", ov E.took)]
structure EarAt (CE : Addr) (H : Hp) (a dx d1 d2 : Addr) (hand : Int) (tc : Addr) (first : Int) (E : ME) : Prop where
  ob : H a = some (.ins CE dx (earF hand tc first d1 d2 E))
  h1 : H d1 = some (.dK (dk E.ef))
  h2 : H d2 = some (.dK (dk E.pf))
  ne : d1 ≠ d2
/-- what the text says of the class Ear -/
structure TxE (K : PySem.W.Frag) (CE : Addr) : Prop where
  cl : Cls K CE
  hand : NoAttr K CE "hand"
  counts : NoAttr K CE "counts"
  first : NoAttr K CE "first"
  told : NoAttr K CE "told"
  ef : NoAttr K CE "echo_from"
  pf : NoAttr K CE "promise_from"
  echoed : NoAttr K CE "echoed"
  promised : NoAttr K CE "promised"
  took : NoAttr K CE "took"
def Sends (H : Hp) : List Addr → List (Kd × Int) → Prop
  | [], [] => True
  | a :: as, x :: xs => H a = some (.tup [.str (ks x.1), .int x.2]) ∧ Sends H as xs
  | _, _ => False
theorem Sends.mono {H H' : Hp} (h : ∀ b xs, H b = some (.tup xs) → H' b = some (.tup xs)) : ∀ {as : List Addr} {xs : List (Kd × Int)}, Sends H as xs → Sends H' as xs
  | [], [], _ => True.intro
  | _ :: _, _ :: _, q => ⟨h _ _ q.1, Sends.mono h q.2⟩
  | [], _ :: _, q => q.elim
  | _ :: _, [], q => q.elim
theorem Sends.snoc {H : Hp} {a : Addr} {x : Kd × Int} (h : H a = some (.tup [.str (ks x.1), .int x.2])) : ∀ {as : List Addr} {xs : List (Kd × Int)}, Sends H as xs → Sends H (as ++ [a]) (xs ++ [x])
  | [], [], _ => ⟨h, True.intro⟩
  | _ :: _, _ :: _, q => ⟨q.1, Sends.snoc h q.2⟩
  | [], _ :: _, q => q.elim
  | _ :: _, [], q => q.elim
theorem Sends.len {H : Hp} : ∀ {as : List Addr} {xs : List (Kd × Int)}, Sends H as xs → as.length = xs.length
  | [], [], _ => rfl
  | _ :: _, _ :: _, q => by rw [List.length_cons, List.length_cons, Sends.len q.2]
  | [], _ :: _, q => q.elim
  | _ :: _, [], q => q.elim
theorem Sends.at {H : Hp} : ∀ {as : List Addr} {xs : List (Kd × Int)} {i : Nat} {a : Addr}, Sends H as xs → as[i]? = some a → ∃ x, xs[i]? = some x ∧ H a = some (.tup [.str (ks x.1), .int x.2])
  | [], [], i, a, _, e => by simp at e
  | b :: _, x :: _, 0, a, q, e => ⟨x, rfl, by rw [← Option.some.inj e]; exact q.1⟩
  | b :: _, x :: _, i + 1, a, q, e => Sends.at (i := i) q.2 e
  | [], _ :: _, _, _, q, _ => q.elim
  | _ :: _, [], _, _, q, _ => q.elim
/-- all but an ear's own three objects is kept -/
def KeepE (H H' : Hp) (a d1 d2 : Addr) : Prop := ∀ b o, H b = some o → b ≠ a → b ≠ d1 → b ≠ d2 → H' b = some o
structure WfE (hand : Int) (E : ME) (n : Nat) : Prop where
  l1 : E.ef.length ≤ n
  l2 : E.pf.length ≤ n
  n1 : E.echoed = none → hasK E.ef hand = false
  n2 : E.promised = none → hasK E.pf hand = false
structure DD (CE : Addr) (H0 : Hp) (a dx d1 d2 : Addr) (hand : Int) (tc : Addr) (first : Int) (E' : ME) (xs : List (Kd × Int)) (l : Addr) (H' : Hp) : Prop where
  keep : KeepE H0 H' a d1 d2
  l0 : H0 l = none
  ear : EarAt CE H' a dx d1 d2 hand tc first E'
  lst : ∃ as : List Addr, H' l = some (.lst (as.map V.ref)) ∧ Sends H' as xs
def spDue (CE : Addr) : Sp := fun vs H Q _ => ∃ (a dx d1 d2 tc : Addr) (hand first e r d v : Int) (E : ME), vs = [.ref a, .int v] ∧ EarAt CE H a dx d1 d2 hand tc first E ∧ H tc = some (.tup [.int e, .int r, .int d]) ∧ WfE hand E 500 ∧
  ∀ (l : Addr) (H' : Hp), DD CE H a dx d1 d2 hand tc first (doDue hand e r d v E).1 (doDue hand e r d v E).2 l H' → Q (.ref l) H'
abbrev nDue : List Str := ["self", "value", "e", "r", "d", "sends", "enough"]
theorem scDue : FnScope nDue ["self", "value"] (defScope s_Ear_do_due) := ⟨rfl, rfl, rfl, by decide +kernel, rfl, by decide +kernel, by decide +kernel⟩
/-- a step that changes the ear alone -/
theorem KeepE.trans {H H1 H2 : Hp} {a d1 d2 : Addr} (p : KeepE H H1 a d1 d2) (q : KeepE H1 H2 a d1 d2) : KeepE H H2 a d1 d2 := fun b o e x y z => q b o (p b o e x y z) x y z
theorem keepE_upd {H H' : Hp} {a d1 d2 c : Addr} {o : HO} (p : KeepE H H' a d1 d2) (h : c = a ∨ c = d1 ∨ c = d2 ∨ H c = none) : KeepE H (upd H' c o) a d1 d2 := fun b u e x y z => by
  have : b ≠ c := by
    rcases h with h | h | h | h
    · rw [h]; exact x
    · rw [h]; exact y
    · rw [h]; exact z
    · exact ne_of_none e h
  rw [upd_ne this]
  exact p b u e x y z
theorem EarAt.of {CE : Addr} {H H' : Hp} {a dx d1 d2 : Addr} {hand : Int} {tc : Addr} {first : Int} {E : ME} (x : EarAt CE H a dx d1 d2 hand tc first E) (ha : H' a = H a) (h1 : H' d1 = H d1) (h2 : H' d2 = H d2) : EarAt CE H' a dx d1 d2 hand tc first E :=
  ⟨ha.trans x.ob, h1.trans x.h1, h2.trans x.h2, x.ne⟩
theorem KeepE.free {CE : Addr} {H H' : Hp} {a dx d1 d2 t : Addr} {hand : Int} {tc : Addr} {first : Int} {E : ME} (p : KeepE H H' a d1 d2) (x : EarAt CE H' a dx d1 d2 hand tc first E) (h : H' t = none) : H t = none := by
  cases e : H t with
  | none => rfl
  | some o =>
    have n1 : t ≠ a := fun q => by rw [q, x.ob] at h; cases h
    have n2 : t ≠ d1 := fun q => by rw [q, x.h1] at h; cases h
    have n3 : t ≠ d2 := fun q => by rw [q, x.h2] at h; cases h
    rw [p t o e n1 n2 n3] at h
    cases h
theorem EarAt.ad1 {CE : Addr} {H : Hp} {a dx d1 d2 : Addr} {hand : Int} {tc : Addr} {first : Int} {E : ME} (x : EarAt CE H a dx d1 d2 hand tc first E) : a ≠ d1 := ne_of x.ob x.h1 (by intro q; cases q)
theorem EarAt.ad2 {CE : Addr} {H : Hp} {a dx d1 d2 : Addr} {hand : Int} {tc : Addr} {first : Int} {E : ME} (x : EarAt CE H a dx d1 d2 hand tc first E) : a ≠ d2 := ne_of x.ob x.h2 (by intro q; cases q)
theorem tup_keep {H H' : Hp} {a d1 d2 : Addr} {CE dx : Addr} {hand : Int} {tc : Addr} {first : Int} {E : ME} (p : KeepE H H' a d1 d2) (x : EarAt CE H a dx d1 d2 hand tc first E) : ∀ b xs, H b = some (.tup xs) → H' b = some (.tup xs) := fun b xs h =>
  p b _ h (ne_of h x.ob (by intro q; cases q)) (ne_of h x.h1 (by intro q; cases q)) (ne_of h x.h2 (by intro q; cases q))
theorem EarAt.same {CE : Addr} {H H' : Hp} {a dx d1 d2 : Addr} {hand : Int} {tc : Addr} {first : Int} {E : ME} (x : EarAt CE H a dx d1 d2 hand tc first E) (s : Same H H') : EarAt CE H' a dx d1 d2 hand tc first E := ⟨s _ _ x.ob, s _ _ x.h1, s _ _ x.h2, x.ne⟩
theorem DD.same {CE : Addr} {H0 H H' : Hp} {a dx d1 d2 : Addr} {hand : Int} {tc : Addr} {first : Int} {E : ME} {xs : List (Kd × Int)} {l : Addr} (x : DD CE H0 a dx d1 d2 hand tc first E xs l H) (s : Same H H') : DD CE H0 a dx d1 d2 hand tc first E xs l H' :=
  ⟨fun b o e p q r => s _ _ (x.keep b o e p q r), x.l0, x.ear.same s, let ⟨as, h1, h2⟩ := x.lst; ⟨as, s _ _ h1, h2.mono fun b xs e => s _ _ e⟩⟩
theorem due1_wf {hand : Int} {E : ME} (wf : WfE hand E 500) : WfE hand (due1 hand E).1 501 ∨ ((due1 hand E).1.ef.length ≤ 501 ∧ (due1 hand E).1.pf.length ≤ 501 ∧ ((due1 hand E).1.promised = none → hasK (due1 hand E).1.pf hand = false)) := by
  unfold due1
  obtain ⟨told, ef, pf, ec, pr, tk⟩ := E
  obtain ⟨w1, w2, w3, w4⟩ := wf
  refine .inr ?_
  cases told with
  | none => exact ⟨Nat.le_succ_of_le w1, Nat.le_succ_of_le w2, w4⟩
  | some u =>
    cases ec with
    | some z => exact ⟨Nat.le_succ_of_le w1, Nat.le_succ_of_le w2, w4⟩
    | none => exact ⟨by rw [List.length_append]; exact Nat.succ_le_succ w1, Nat.le_succ_of_le w2, w4⟩
theorem due1_x {hand : Int} {E : ME} : (due1 hand E).2.length ≤ 1 := by
  unfold due1
  obtain ⟨told, ef, pf, ec, pr, tk⟩ := E
  cases told with
  | none => exact Nat.zero_le _
  | some u =>
    cases ec with
    | some z => exact Nat.zero_le _
    | none => exact Nat.le_refl _
theorem due1_p {hand : Int} {E : ME} (wf : WfE hand E 500) : (due1 hand E).1.ef.length ≤ 501 ∧ (due1 hand E).1.pf.length ≤ 501 ∧ ((due1 hand E).1.promised = none → hasK (due1 hand E).1.pf hand = false) := (due1_wf wf).elim (fun q => ⟨q.l1, q.l2, q.n2⟩) id
theorem ok_due {f fV CE : Addr} {fd fdV : FuncData} (F : Fun K "do_due" "Ear.do_due" s_Ear_do_due f fd) (T : Bn mg) (TE : TxE K CE) (cV : Ca P w K mg base 1 "votes" ["told", "value"] spVotes fV fdV) : FnOk P w K mg base CX0 2 f fd ["self", "value"] (spDue CE) := by
  refine F.ok scDue (fun vs H Q E h => ?_) (fun cdv A outer s H vs Q E hr h => ?_)
  · obtain ⟨a, dx, d1, d2, tc, hand, first, e, r, d, v, E, rfl, _⟩ := h
    rfl
  · obtain ⟨a, dx, d1, d2, tc, hand, first, e, r, d, v, E, rfl, hE, htc, wf, k⟩ := h
    have hu := hu_of hr
    refine ⟨_, pss_cons (ps_asg (pe_fld (pv 0) rfl) (pg_tup (by rfl) (pgs_cons (pg_name (i := 2) scDue.nd rfl (Or.inl rfl)) (pgs_cons (pg_name (i := 3) scDue.nd rfl (Or.inl rfl)) (pgs_cons (pg_name (i := 4) scDue.nd rfl (Or.inl rfl)) pgs_nil)))))
      (pss_cons (ps_set (i := 5) scDue.nd rfl (Or.inl rfl) (pe_lst pa_nil))
      (C8.pss_cut (ps_if (PW.pt (pw_and (pt_cmp (pc_notN (pe_fld (pv 0) rfl))) (pw_and1 (pt_cmp (pc_isN (pe_fld (pv 0) rfl))))))
          (pss_cons (ps_fld (pv 0) (pe_fld (pv 0) rfl) rfl)
          (pss_cons (ps_dput hu (pe_fld (pv 0) rfl) (pe_fld (pv 0) rfl) (pe_fld (pv 0) rfl) rfl)
          (pss_one (ps_expr (pe_bm PySem.F.plainAttrs_list PySem.F.slot_list_append PySem.F.type_list_append mt_append (pv 5) (pa_cons (pe_tup (pa_cons pe_str (pa_cons (pe_fld (pv 0) rfl) pa_nil))) pa_nil)))))) pss_nil)
      (C8.pss_cut (ps_set (i := 6) scDue.nd rfl (Or.inl rfl) (pe_or (pe_cmpR op_ge (pe_ca cV hr (pa_cons (pe_fld (pv 0) rfl) (pa_cons (pv 1) pa_nil))) (pv 2) (nomark _)) (pe_one (pe_cmpR op_ge (pe_ca cV hr (pa_cons (pe_fld (pv 0) rfl) (pa_cons (pv 1) pa_nil))) (pv 3) (nomark _)))))
      (C8.pss_cut (ps_if (PW.pt (pw_and (pt_val (pv 6)) (pw_and1 (pt_cmp (pc_isN (pe_fld (pv 0) rfl))))))
          (pss_cons (ps_fld (pv 0) (pv 1) rfl)
          (pss_cons (ps_dput hu (pe_fld (pv 0) rfl) (pe_fld (pv 0) rfl) (pv 1) rfl)
          (pss_one (ps_expr (pe_bm PySem.F.plainAttrs_list PySem.F.slot_list_append PySem.F.type_list_append mt_append (pv 5) (pa_cons (pe_tup (pa_cons pe_str (pa_cons (pv 1) pa_nil))) pa_nil)))))) pss_nil)
      (pss_cons (ps_if (PW.pt (pw_and (pt_cmpR op_ge (pe_ca cV hr (pa_cons (pe_fld (pv 0) rfl) (pa_cons (pv 1) pa_nil))) (pv 4) (nomark _)) (pw_and1 (pt_cmp (pc_isN (pe_fld (pv 0) rfl))))))
          (pss_one (ps_fld (pv 0) (pv 1) rfl)) pss_nil)
      (pss_one (ps_ret (pv 5)))))))), ?_⟩
    -- e, r, d = self.counts; sends = []
    refine ⟨_, rfl, a, CE, dx, _, _, rfl, hE.ob, TE.cl, TE.counts, rfl, tc, _, rfl, SqT.of htc, rfl, _, _, rfl, _, _, rfl, _, _, rfl, rfl, ?_⟩
    refine ⟨Nat.zero_le _, fun l hl => ?_⟩
    have la : l ≠ a := fun q => by rw [q, hE.ob] at hl; cases hl
    have l1 : l ≠ d1 := fun q => by rw [q, hE.h1] at hl; cases hl
    have l2 : l ≠ d2 := fun q => by rw [q, hE.h2] at hl; cases hl
    have ad1 := hE.ad1
    have ad2 := hE.ad2
    have hE1 : EarAt CE (upd H l (.lst [])) a dx d1 d2 hand tc first E := hE.of (upd_ne la.symm) (upd_ne l1.symm) (upd_ne l2.symm)
    have kp1 : KeepE H (upd H l (.lst [])) a d1 d2 := keepE_upd (fun b o e _ _ _ => e) (.inr (.inr (.inr hl)))
    -- the first due
    refine ⟨fun σ' H' => σ' = [some (.ref a), some (.int v), some (.int e), some (.int r), some (.int d), some (.ref l), none] ∧ DD CE H a dx d1 d2 hand tc first (due1 hand E).1 (due1 hand E).2 l H', ?_, ?_⟩
    · refine ⟨_, rfl, a, CE, dx, _, _, rfl, hE1.ob, TE.cl, TE.told, rfl, _, rfl, ?_⟩
      have none_case : (due1 hand E) = (E, []) → DD CE H a dx d1 d2 hand tc first (due1 hand E).1 (due1 hand E).2 l (upd H l (.lst [])) := fun q => by
        rw [q]
        exact ⟨kp1, hl, hE1, [], upd_same, True.intro⟩
      rw [ov_none]
      cases ht : E.told with
      | none =>
        refine iteF (iteF ⟨rfl, none_case ?_⟩)
        unfold due1
        rw [ht]
      | some u =>
        refine iteT ⟨_, rfl, a, CE, dx, _, _, rfl, hE1.ob, TE.cl, TE.echoed, rfl, _, rfl, ?_⟩
        rw [ov_none]
        cases hec : E.echoed with
        | some z =>
          refine iteF ⟨rfl, none_case ?_⟩
          unfold due1
          rw [ht, hec]
        | none =>
          refine iteT ?_
          have hk : hasK E.ef hand = false := wf.n1 hec
          obtain ⟨told, ef, pf, ec, pr, tk⟩ := E
          have ht : told = some u := ht
          have hec : ec = none := hec
          subst ht hec
          refine ⟨_, rfl, a, CE, dx, _, _, rfl, hE1.ob, TE.cl, TE.told, rfl, _, rfl, a, CE, dx, _, rfl, hE1.ob, TE.cl, TE.echoed, (by show 9 < 1000; decide), ?_⟩
          refine ⟨_, rfl, a, CE, dx, _, _, rfl, upd_same, TE.cl, TE.told, rfl, _, rfl, a, CE, dx, _, _, rfl, upd_same, TE.cl, TE.ef, rfl, _, rfl, a, CE, dx, _, _, rfl, upd_same, TE.cl, TE.hand, rfl, d1, _, rfl, DPut.k (k := Sum.inl hand) ((upd_ne ad1.symm).trans hE1.h1) (by rw [dk_length]; exact small1000 (by have := wf.l1; omega)), ?_⟩
          refine ⟨_, rfl, .inl ⟨rfl, _, SqL.of ((upd_ne l1).trans ((upd_ne la).trans upd_same))⟩, _, rfl, a, CE, dx, _, _, rfl, (upd_ne ad1).trans upd_same, TE.cl, TE.told, rfl, (by show 2 ≤ sizeLine; decide), fun t ht' => ?_⟩
          have hE' : EarAt CE (upd (upd (upd H l (.lst [])) a (.ins CE dx (earF hand tc first d1 d2 ⟨some u, ef, pf, some u, pr, tk⟩))) d1 (.dK (putK (dk ef) (Sum.inl hand : Key) (.int u)))) a dx d1 d2 hand tc first ⟨some u, ef ++ [(hand, u)], pf, some u, pr, tk⟩ :=
            ⟨(upd_ne ad1).trans upd_same, by rw [upd_same, putK_dk _ _ _ hk], (upd_ne hE.ne.symm).trans ((upd_ne ad2.symm).trans hE1.h2), hE.ne⟩
          have kp3 := keepE_upd (o := .dK (putK (dk ef) (Sum.inl hand : Key) (.int u))) (c := d1) (keepE_upd (o := .ins CE dx (earF hand tc first d1 d2 ⟨some u, ef, pf, some u, pr, tk⟩)) (c := a) kp1 (.inl rfl)) (.inr (.inl rfl))
          have hst : H t = none := kp3.free hE' ht'
          have ta : t ≠ a := fun q => by rw [q, hE.ob] at hst; cases hst
          have t1 : t ≠ d1 := fun q => by rw [q, hE.h1] at hst; cases hst
          have t2 : t ≠ d2 := fun q => by rw [q, hE.h2] at hst; cases hst
          have tl : t ≠ l := fun q => by
            rw [q, upd_ne l1, upd_ne la, upd_same] at ht'
            cases ht'
          refine ⟨l, _, _, rfl, rfl, (upd_ne tl.symm).trans ((upd_ne l1).trans ((upd_ne la).trans upd_same)), (by decide), rfl, ?_⟩
          refine ⟨keepE_upd (keepE_upd kp3 (.inr (.inr (.inr hst)))) (.inr (.inr (.inr hl))), hl, hE'.of ?_ ?_ ?_, [t], upd_same, ?_, True.intro⟩
          · exact (upd_ne la.symm).trans (upd_ne ta.symm)
          · exact (upd_ne l1.symm).trans (upd_ne t1.symm)
          · exact (upd_ne l2.symm).trans (upd_ne t2.symm)
          · rw [upd_ne tl, upd_same]
            rfl
    · rintro σ' H' ⟨rfl, d1d⟩
      have hp := due1_p wf
      have hx := due1_x (hand := hand) (E := E)
      have hdd : doDue hand e r d v E = (due3 d v (due2 hand e r v (due1 hand E).1).1, (due1 hand E).2 ++ (due2 hand e r v (due1 hand E).1).2) := rfl
      rw [hdd] at k
      generalize (due1 hand E).1 = E1 at k d1d hp
      generalize (due1 hand E).2 = x1 at k d1d hx
      -- enough
      refine ⟨fun σ2 H2 => σ2 = [some (.ref a), some (.int v), some (.int e), some (.int r), some (.int d), some (.ref l), some (.bl (decide (e ≤ (votes E1.ef v : Int) ∨ r ≤ (votes E1.pf v : Int))))] ∧ DD CE H a dx d1 d2 hand tc first E1 x1 l H2, ?_, ?_⟩
      · refine ⟨_, rfl, a, CE, dx, _, _, rfl, d1d.ear.ob, TE.cl, TE.ef, rfl, _, rfl, d1, E1.ef, v, rfl, d1d.ear.h1, by omega, fun H2 s2 => ⟨_, rfl, _, _, rfl, rfl, _, rfl, ?_⟩⟩
        have D2 := d1d.same s2
        by_cases c1 : e ≤ (votes E1.ef v : Int)
        · rw [decide_eq_true c1]
          exact iteT ⟨by rw [decide_eq_true (.inl c1)]; rfl, D2⟩
        · rw [decide_eq_false c1]
          refine iteF ⟨_, rfl, a, CE, dx, _, _, rfl, D2.ear.ob, TE.cl, TE.pf, rfl, _, rfl, d2, E1.pf, v, rfl, D2.ear.h2, by omega, fun H3 s3 => ⟨_, rfl, _, _, rfl, rfl, ?_, D2.same s3⟩⟩
          have : decide (e ≤ (votes E1.ef v : Int) ∨ r ≤ (votes E1.pf v : Int)) = decide (r ≤ (votes E1.pf v : Int)) := by simp [c1]
          rw [this]
          rfl
      · rintro σ2 H2 ⟨rfl, d2d⟩
        refine ⟨fun σ3 H3 => (∃ q, σ3 = [some (.ref a), some (.int v), some (.int e), some (.int r), some (.int d), some (.ref l), q]) ∧ DD CE H a dx d1 d2 hand tc first (due2 hand e r v E1).1 (x1 ++ (due2 hand e r v E1).2) l H3, ?_, ?_⟩
        · have none2 : due2 hand e r v E1 = (E1, []) → DD CE H a dx d1 d2 hand tc first (due2 hand e r v E1).1 (x1 ++ (due2 hand e r v E1).2) l H2 := fun q => by
            rw [q, List.append_nil]
            exact d2d
          refine ⟨_, rfl, _, rfl, ?_⟩
          by_cases c : e ≤ (votes E1.ef v : Int) ∨ r ≤ (votes E1.pf v : Int)
          · rw [decide_eq_true c]
            refine iteT ⟨_, rfl, a, CE, dx, _, _, rfl, d2d.ear.ob, TE.cl, TE.promised, rfl, _, rfl, ?_⟩
            rw [ov_none]
            cases hpr : E1.promised with
            | some z =>
              refine iteF ⟨⟨_, rfl⟩, none2 ?_⟩
              unfold due2
              rw [if_neg fun q => by rw [hpr] at q; cases q.2]
            | none =>
              refine iteT ?_
              have hk : hasK E1.pf hand = false := hp.2.2 hpr
              have e2 : due2 hand e r v E1 = ({ E1 with promised := some v, pf := E1.pf ++ [(hand, v)] }, [(.prom, v)]) := by
                unfold due2
                rw [if_pos ⟨c, hpr⟩]
              rw [e2]
              obtain ⟨told, ef, pf, ec, pr, tk⟩ := E1
              have hpr : pr = none := hpr
              subst hpr
              obtain ⟨kp2, _, hE2, as, hl2, hs2⟩ := d2d
              have lnd : l ≠ d2 := ne_of hl2 hE2.h2 (by intro q; cases q)
              have lna : l ≠ a := ne_of hl2 hE2.ob (by intro q; cases q)
              have lnd1 : l ≠ d1 := ne_of hl2 hE2.h1 (by intro q; cases q)
              refine ⟨_, rfl, _, rfl, a, CE, dx, _, rfl, hE2.ob, TE.cl, TE.promised, (by show 9 < 1000; decide), ?_⟩
              refine ⟨_, rfl, _, rfl, a, CE, dx, _, _, rfl, upd_same, TE.cl, TE.pf, rfl, _, rfl, a, CE, dx, _, _, rfl, upd_same, TE.cl, TE.hand, rfl, d2, _, rfl, DPut.k (k := Sum.inl hand) ((upd_ne ad2.symm).trans hE2.h2) (by rw [dk_length]; exact small1000 (by have := hp.2.1; omega)), ?_⟩
              refine ⟨_, rfl, .inl ⟨rfl, _, SqL.of ((upd_ne lnd).trans ((upd_ne lna).trans hl2))⟩, _, rfl, (by show 2 ≤ sizeLine; decide), fun t ht' => ?_⟩
              have hE' : EarAt CE (upd (upd H2 a (.ins CE dx (earF hand tc first d1 d2 ⟨told, ef, pf, ec, some v, tk⟩))) d2 (.dK (putK (dk pf) (Sum.inl hand : Key) (.int v)))) a dx d1 d2 hand tc first ⟨told, ef, pf ++ [(hand, v)], ec, some v, tk⟩ :=
                ⟨(upd_ne ad2).trans upd_same, (upd_ne hE2.ne).trans ((upd_ne ad1.symm).trans hE2.h1), by rw [upd_same, putK_dk _ _ _ hk], hE2.ne⟩
              have kp3 := keepE_upd (o := .dK (putK (dk pf) (Sum.inl hand : Key) (.int v))) (c := d2) (keepE_upd (o := .ins CE dx (earF hand tc first d1 d2 ⟨told, ef, pf, ec, some v, tk⟩)) (c := a) kp2 (.inl rfl)) (.inr (.inr (.inl rfl)))
              have hst : H t = none := kp3.free hE' ht'
              have ta : t ≠ a := fun q => by rw [q, hE.ob] at hst; cases hst
              have t1 : t ≠ d1 := fun q => by rw [q, hE.h1] at hst; cases hst
              have t2 : t ≠ d2 := fun q => by rw [q, hE.h2] at hst; cases hst
              have tl : t ≠ l := fun q => by
                rw [q, upd_ne lnd, upd_ne lna, hl2] at ht'
                cases ht'
              have aslen : as.length < sizeLine := by
                rw [hs2.len]
                exact small1000 (by omega)
              refine ⟨l, _, _, rfl, rfl, (upd_ne tl.symm).trans ((upd_ne lnd).trans ((upd_ne lna).trans hl2)), (by rw [List.length_map]; exact aslen), ⟨_, rfl⟩, ?_⟩
              refine ⟨keepE_upd (keepE_upd kp3 (.inr (.inr (.inr hst)))) (.inr (.inr (.inr hl))), hl, hE'.of ?_ ?_ ?_, as ++ [t], (by rw [upd_same, List.map_append]; rfl), Sends.snoc ?_ (hs2.mono fun b xs h => ?_)⟩
              · exact (upd_ne lna.symm).trans (upd_ne ta.symm)
              · exact (upd_ne lnd1.symm).trans (upd_ne t1.symm)
              · exact (upd_ne lnd.symm).trans (upd_ne t2.symm)
              · rw [upd_ne tl, upd_same]
                rfl
              · have b1 : b ≠ l := ne_of h hl2 (by intro q; cases q)
                have b2 : b ≠ a := ne_of h hE2.ob (by intro q; cases q)
                have b3 : b ≠ d2 := ne_of h hE2.h2 (by intro q; cases q)
                have b4 : b ≠ t := fun q => by
                  rw [q] at h
                  rw [upd_ne t2, upd_ne ta, h] at ht'
                  cases ht'
                rw [upd_ne b1, upd_ne b4, upd_ne b3, upd_ne b2]
                exact h
          · rw [decide_eq_false c]
            refine iteF (iteF ⟨⟨_, rfl⟩, none2 ?_⟩)
            unfold due2
            rw [if_neg fun q => c q.1]
        · rintro σ3 H3 ⟨⟨q, rfl⟩, d3d⟩
          have hp2 : (due2 hand e r v E1).1.pf.length ≤ 502 := by
            unfold due2
            split
            · show (E1.pf ++ [(hand, v)]).length ≤ 502
              rw [List.length_append]
              exact Nat.succ_le_succ hp.2.1
            · exact Nat.le_succ_of_le hp.2.1
          generalize (due2 hand e r v E1).1 = E2 at k d3d hp2
          generalize x1 ++ (due2 hand e r v E1).2 = x2 at k d3d
          refine ⟨_, rfl, a, CE, dx, _, _, rfl, d3d.ear.ob, TE.cl, TE.pf, rfl, _, rfl, d2, E2.pf, v, rfl, d3d.ear.h2, by omega, fun H4 s4 => ⟨_, rfl, _, _, rfl, rfl, _, rfl, ?_⟩⟩
          have D4 := d3d.same s4
          have none3 : due3 d v E2 = E2 → DD CE H a dx d1 d2 hand tc first (due3 d v E2) x2 l H4 := fun q => by
            rw [q]
            exact D4
          by_cases c : d ≤ (votes E2.pf v : Int)
          · rw [decide_eq_true c]
            refine iteT ⟨_, rfl, a, CE, dx, _, _, rfl, D4.ear.ob, TE.cl, TE.took, rfl, _, rfl, ?_⟩
            rw [ov_none]
            cases htk : E2.took with
            | some z =>
              refine iteF ⟨_, rfl, k l H4 (none3 ?_)⟩
              unfold due3
              rw [if_neg fun q => by rw [htk] at q; cases q.2]
            | none =>
              refine iteT ?_
              have e3 : due3 d v E2 = { E2 with took := some v } := by
                unfold due3
                rw [if_pos ⟨c, htk⟩]
              rw [e3] at k
              obtain ⟨told, ef, pf, ec, pr, tk⟩ := E2
              have htk : tk = none := htk
              subst htk
              obtain ⟨kp2, _, hE2, as, hl2, hs2⟩ := D4
              have lna : l ≠ a := ne_of hl2 hE2.ob (by intro q; cases q)
              refine ⟨_, rfl, _, rfl, a, CE, dx, _, rfl, hE2.ob, TE.cl, TE.took, (by show 9 < 1000; decide), ?_⟩
              refine ⟨_, rfl, k l _ ⟨keepE_upd kp2 (.inl rfl), hl, ⟨upd_same, (upd_ne ad1.symm).trans hE2.h1, (upd_ne ad2.symm).trans hE2.h2, hE2.ne⟩, as, (upd_ne lna).trans hl2, hs2.mono fun b xs h => (upd_ne (ne_of h hE2.ob (by intro q; cases q))).trans h⟩⟩
          · rw [decide_eq_false c]
            refine iteF (iteF ⟨_, rfl, k l H4 (none3 ?_)⟩)
            unfold due3
            rw [if_neg fun q => c q.1]
end
end Spr
namespace Spr
open PySem L2
theorem ks_said_echo : ¬ (V.str (ks .echo) = V.str "said") := by decide +kernel
theorem ks_said_prom : ¬ (V.str (ks .prom) = V.str "said") := by decide +kernel
theorem ks_echo_prom : ¬ (V.str (ks .prom) = V.str "echo") := by decide +kernel
section
variable {P : Program} {w : World} {K : PySem.W.Frag} {mg : Str → Option Value} {base : Heap}
abbrev nHear : List Str := ["self", "kind", "sender", "value"]
theorem scHear : FnScope nHear nHear (defScope s_Ear_hear) := ⟨rfl, rfl, rfl, by decide +kernel, rfl, by decide +kernel, by decide +kernel⟩
def spHear (CE : Addr) : Sp := fun vs H Q _ => ∃ (a dx d1 d2 tc : Addr) (hand first e r d : Int) (k : Kd) (snd v : Int) (E : ME), vs = [.ref a, .str (ks k), .int snd, .int v] ∧ EarAt CE H a dx d1 d2 hand tc first E ∧ H tc = some (.tup [.int e, .int r, .int d]) ∧ WfE hand E 400 ∧ (k ≠ .said → snd ≠ hand) ∧
  ∀ (l : Addr) (H' : Hp), DD CE H a dx d1 d2 hand tc first (hear hand first e r d k snd v E).1 (hear hand first e r d k snd v E).2 l H' → Q (.ref l) H'
theorem setd_len (m : Pm) (k v : Int) : (setd m k v).length ≤ m.length + 1 := by
  unfold setd
  split
  · exact Nat.le_succ _
  · rw [List.length_append]
    exact Nat.le_refl _
theorem hasK_snoc (m : Pm) (k v j : Int) : hasK (m ++ [(k, v)]) j = (hasK m j || decide (k = j)) := by
  unfold hasK
  rw [List.any_append]
  congr 1
  simp
theorem hasK_setd (m : Pm) (k v j : Int) (h : k ≠ j) : hasK (setd m k v) j = hasK m j := by
  unfold setd
  split
  · rfl
  · rw [hasK_snoc, decide_eq_false h, Bool.or_false]
theorem hear0_wf {hand first snd v : Int} {k : Kd} {E : ME} {n : Nat} (wf : WfE hand E n) (h : k ≠ .said → snd ≠ hand) : WfE hand (hear0 first k snd v E) (n + 1) := by
  obtain ⟨w1, w2, w3, w4⟩ := wf
  cases k with
  | said =>
    unfold hear0
    dsimp only
    split
    · exact ⟨Nat.le_succ_of_le w1, Nat.le_succ_of_le w2, w3, w4⟩
    · exact ⟨Nat.le_succ_of_le w1, Nat.le_succ_of_le w2, w3, w4⟩
  | echo => exact ⟨Nat.le_trans (setd_len _ _ _) (Nat.succ_le_succ w1), Nat.le_succ_of_le w2, fun q => (hasK_setd _ _ _ _ (h (by decide))).trans (w3 q), w4⟩
  | prom => exact ⟨Nat.le_succ_of_le w1, Nat.le_trans (setd_len _ _ _) (Nat.succ_le_succ w2), w3, fun q => (hasK_setd _ _ _ _ (h (by decide))).trans (w4 q)⟩
theorem DD.over {CE : Addr} {H0 H H' : Hp} {a dx d1 d2 : Addr} {hand : Int} {tc : Addr} {first : Int} {E E0 : ME} {xs : List (Kd × Int)} {l : Addr} (p : KeepE H0 H a d1 d2) (y : EarAt CE H a dx d1 d2 hand tc first E0) (x : DD CE H a dx d1 d2 hand tc first E xs l H') : DD CE H0 a dx d1 d2 hand tc first E xs l H' :=
  ⟨p.trans x.keep, p.free y x.l0, x.ear, x.lst⟩
theorem ok_hear {f fV CE : Addr} {fd fdV : FuncData} (F : Fun K "hear" "Ear.hear" s_Ear_hear f fd) (TE : TxE K CE) (cV : Me P w K mg base 2 CE "do_due" ["self", "value"] (spDue CE) fV fdV) : FnOk P w K mg base CX0 3 f fd nHear (spHear CE) := by
  refine F.ok scHear (fun vs H Q E h => ?_) (fun cdv A outer s H vs Q E hr h => ?_)
  · obtain ⟨a, dx, d1, d2, tc, hand, first, e, r, d, k, snd, v, E, rfl, _⟩ := h
    rfl
  · obtain ⟨a, dx, d1, d2, tc, hand, first, e, r, d, k, snd, v, E, rfl, hE, htc, wf, hs, kk⟩ := h
    have hu := hu_of hr
    refine ⟨_, C8.pss_cut (ps_if (pt_cmpR op_eq (pv 1) pe_str (nomark _))
          (pss_one (ps_if (PW.pt (pw_and (pt_cmpR op_eq (pv 2) (pe_fld (pv 0) rfl) (nomark _)) (pw_and1 (pt_cmp (pc_isN (pe_fld (pv 0) rfl)))))) (pss_one (ps_fld (pv 0) (pv 3) rfl)) pss_nil))
          (pss_one (ps_if (pt_cmpR op_eq (pv 1) pe_str (nomark _))
            (pss_one (ps_expr (pe_dsetd (pe_fld (pv 0) rfl) (pv 2) (pv 3) ⟨rfl, rfl, rfl, rfl⟩)))
            (pss_one (ps_expr (pe_dsetd (pe_fld (pv 0) rfl) (pv 2) (pv 3) ⟨rfl, rfl, rfl, rfl⟩))))))
      (pss_one (ps_ret (pe_me (pv 0) TE.cl cV hr (pa_cons (pv 3) pa_nil)))), ?_⟩
    have ad1 := hE.ad1
    have ad2 := hE.ad2
    have kp0 : KeepE H H a d1 d2 := fun b o e _ _ _ => e
    refine ⟨fun σ' H' => σ' = [some (.ref a), some (.str (ks k)), some (.int snd), some (.int v)] ∧ KeepE H H' a d1 d2 ∧ EarAt CE H' a dx d1 d2 hand tc first (hear0 first k snd v E), ?_, ?_⟩
    · refine ⟨_, rfl, rfl, _, rfl, ?_⟩
      cases k with
      | said =>
        refine iteT ⟨_, rfl, _, rfl, a, CE, dx, _, _, rfl, hE.ob, TE.cl, TE.first, rfl, rfl, _, rfl, ?_⟩
        by_cases c : snd = first
        · rw [decide_eq_true (show V.int snd = V.int first by rw [c])]
          refine iteT ⟨_, rfl, a, CE, dx, _, _, rfl, hE.ob, TE.cl, TE.told, rfl, _, rfl, ?_⟩
          rw [ov_none]
          cases ht : E.told with
          | some u =>
            refine iteF ⟨rfl, kp0, ?_⟩
            have : hear0 first .said snd v E = E := by
              unfold hear0
              dsimp only
              rw [if_neg fun q => by rw [ht] at q; cases q.2]
            rw [this]
            exact hE
          | none =>
            refine iteT ⟨_, rfl, _, rfl, a, CE, dx, _, rfl, hE.ob, TE.cl, TE.told, (by show 9 < 1000; decide), rfl, keepE_upd kp0 (.inl rfl), ?_⟩
            have : hear0 first .said snd v E = { E with told := some v } := by
              unfold hear0
              dsimp only
              rw [if_pos ⟨c, ht⟩]
            rw [this]
            exact ⟨upd_same, (upd_ne ad1.symm).trans hE.h1, (upd_ne ad2.symm).trans hE.h2, hE.ne⟩
        · rw [decide_eq_false (show ¬ V.int snd = V.int first from fun q => c (by injection q))]
          refine iteF (iteF ⟨rfl, kp0, ?_⟩)
          have : hear0 first .said snd v E = E := by
            unfold hear0
            dsimp only
            rw [if_neg fun q => c q.1]
          rw [this]
          exact hE
      | echo =>
        rw [decide_eq_false ks_said_echo]
        refine iteF ⟨_, rfl, rfl, _, rfl, iteT ?_⟩
        refine ⟨_, rfl, a, CE, dx, _, _, rfl, hE.ob, TE.cl, TE.ef, rfl, d1, rfl, .inl ⟨_, Rd.of hE.h1⟩, _, rfl, _, rfl, _, Sum.inl snd, hE.h1, rfl, (by rw [dk_length]; exact small1000 (by have := wf.l1; omega)), fun z hz => ⟨rfl, kp0, ?_⟩, fun hz => ⟨rfl, keepE_upd kp0 (.inr (.inl rfl)), ?_⟩⟩
        · have hh : hasK E.ef snd = true := by
            rw [← valV_dk, hz]
            rfl
          have : hear0 first .echo snd v E = E := by
            show { E with ef := setd E.ef snd v } = E
            unfold setd
            rw [if_pos hh]
          rw [this]
          exact hE
        · have hh : hasK E.ef snd = false := by
            rw [← valV_dk, hz]
            rfl
          have e1 : hear0 first .echo snd v E = { E with ef := E.ef ++ [(snd, v)] } := by
            show { E with ef := setd E.ef snd v } = _
            unfold setd
            rw [if_neg (by simp [hh])]
          rw [e1]
          exact ⟨(upd_ne ad1).trans hE.ob, by rw [upd_same, putK_dk _ _ _ hh], (upd_ne hE.ne.symm).trans hE.h2, hE.ne⟩
      | prom =>
        rw [decide_eq_false ks_said_prom]
        refine iteF ⟨_, rfl, rfl, _, rfl, ?_⟩
        rw [decide_eq_false ks_echo_prom]
        refine iteF ?_
        refine ⟨_, rfl, a, CE, dx, _, _, rfl, hE.ob, TE.cl, TE.pf, rfl, d2, rfl, .inl ⟨_, Rd.of hE.h2⟩, _, rfl, _, rfl, _, Sum.inl snd, hE.h2, rfl, (by rw [dk_length]; exact small1000 (by have := wf.l2; omega)), fun z hz => ⟨rfl, kp0, ?_⟩, fun hz => ⟨rfl, keepE_upd kp0 (.inr (.inr (.inl rfl))), ?_⟩⟩
        · have hh : hasK E.pf snd = true := by
            rw [← valV_dk, hz]
            rfl
          have : hear0 first .prom snd v E = E := by
            show { E with pf := setd E.pf snd v } = E
            unfold setd
            rw [if_pos hh]
          rw [this]
          exact hE
        · have hh : hasK E.pf snd = false := by
            rw [← valV_dk, hz]
            rfl
          have e1 : hear0 first .prom snd v E = { E with pf := E.pf ++ [(snd, v)] } := by
            show { E with pf := setd E.pf snd v } = _
            unfold setd
            rw [if_neg (by simp [hh])]
          rw [e1]
          exact ⟨(upd_ne ad2).trans hE.ob, (upd_ne hE.ne).trans hE.h1, by rw [upd_same, putK_dk _ _ _ hh], hE.ne⟩
    · rintro σ' H' ⟨rfl, kp, hE'⟩
      have wf' := hear0_wf (first := first) (v := v) wf hs
      refine ⟨_, rfl, a, dx, _, rfl, hE'.ob, rfl, _, rfl, a, dx, d1, d2, tc, hand, first, e, r, d, v, _, rfl, hE', tup_keep kp hE _ _ htc, ⟨Nat.le_trans wf'.l1 (by decide), Nat.le_trans wf'.l2 (by decide), wf'.n1, wf'.n2⟩, fun l H2 dd => ?_⟩
      exact kk l H2 (dd.over kp hE')
abbrev nEInit : List Str := ["self", "hand", "counts", "first"]
theorem scEInit : FnScope nEInit nEInit (defScope s_Ear_init) := ⟨rfl, rfl, rfl, by decide +kernel, rfl, by decide +kernel, by decide +kernel⟩
def ME0 : ME := ⟨none, [], [], none, none, none⟩
def spEInit (CE : Addr) : Sp := fun vs H Q _ => ∃ (a dx tc : Addr) (hand first : Int), vs = [.ref a, .int hand, .ref tc, .int first] ∧ H a = some (.ins CE dx []) ∧
  ∀ (d1 d2 : Addr) (H' : Hp), H d1 = none → H d2 = none → EarAt CE H' a dx d1 d2 hand tc first ME0 → (∀ b o, H b = some o → b ≠ a → H' b = some o) → Q .non H'
theorem ok_einit {f CE : Addr} {fd : FuncData} (F : Fun K "__init__" "Ear.__init__" s_Ear_init f fd) (TE : TxE K CE) : FnOk P w K mg base CX0 1 f fd nEInit (spEInit CE) := by
  refine F.ok scEInit (fun vs H Q E h => ?_) (fun cdv A outer s H vs Q E hr h => ?_)
  · obtain ⟨a, dx, tc, hand, first, rfl, _⟩ := h
    rfl
  · obtain ⟨a, dx, tc, hand, first, rfl, ha, k⟩ := h
    refine ⟨_, pss_cons (ps_fld (pv 0) (pv 1) rfl) (pss_cons (ps_fld (pv 0) (pv 2) rfl) (pss_cons (ps_fld (pv 0) (pv 3) rfl) (pss_cons (ps_fld (pv 0) pe_non rfl) (pss_cons (ps_fld (pv 0) pe_dnewK rfl) (pss_cons (ps_fld (pv 0) pe_dnewK rfl)
      (pss_cons (ps_fld (pv 0) pe_non rfl) (pss_cons (ps_fld (pv 0) pe_non rfl) (pss_one (ps_fld (pv 0) pe_non rfl))))))))), ?_⟩
    refine ⟨_, rfl, _, rfl, a, CE, dx, _, rfl, ha, TE.cl, TE.hand, (by show 0 < 1000; decide), ?_⟩
    refine ⟨_, rfl, _, rfl, a, CE, dx, _, rfl, upd_same, TE.cl, TE.counts, (by show 1 < 1000; decide), ?_⟩
    refine ⟨_, rfl, _, rfl, a, CE, dx, _, rfl, upd_same, TE.cl, TE.first, (by show 2 < 1000; decide), ?_⟩
    refine ⟨_, rfl, a, CE, dx, _, rfl, upd_same, TE.cl, TE.told, (by show 3 < 1000; decide), fun d1 h1 => ?_⟩
    have n1 : a ≠ d1 := ne_of_none upd_same h1
    refine ⟨_, rfl, a, CE, dx, _, rfl, (upd_ne n1).trans upd_same, TE.cl, TE.ef, (by show 4 < 1000; decide), fun d2 h2 => ?_⟩
    have n2 : a ≠ d2 := ne_of_none upd_same h2
    have n12 : d1 ≠ d2 := ne_of_none ((upd_ne n1.symm).trans upd_same) h2
    refine ⟨_, rfl, a, CE, dx, _, rfl, (upd_ne n2).trans upd_same, TE.cl, TE.pf, (by show 5 < 1000; decide), ?_⟩
    refine ⟨_, rfl, a, CE, dx, _, rfl, upd_same, TE.cl, TE.echoed, (by show 6 < 1000; decide), ?_⟩
    refine ⟨_, rfl, a, CE, dx, _, rfl, upd_same, TE.cl, TE.promised, (by show 7 < 1000; decide), ?_⟩
    refine ⟨_, rfl, a, CE, dx, _, rfl, upd_same, TE.cl, TE.took, (by show 8 < 1000; decide), ?_⟩
    have q1 : H d1 = none := by
      rw [upd_ne n1.symm, upd_ne n1.symm, upd_ne n1.symm, upd_ne n1.symm] at h1
      exact h1
    have q2 : H d2 = none := by
      rw [upd_ne n2.symm, upd_ne n12.symm, upd_ne n2.symm, upd_ne n2.symm, upd_ne n2.symm, upd_ne n2.symm] at h2
      exact h2
    refine k d1 d2 _ q1 q2 ⟨upd_same, ?_, ?_, n12⟩ fun b o e hb => ?_
    · rw [upd_ne n1.symm, upd_ne n1.symm, upd_ne n1.symm, upd_ne n1.symm, upd_ne n12, upd_ne n1.symm, upd_same]
      rfl
    · rw [upd_ne n2.symm, upd_ne n2.symm, upd_ne n2.symm, upd_ne n2.symm, upd_same]
      rfl
    · have b1 : b ≠ d1 := ne_of_none e q1
      have b2 : b ≠ d2 := ne_of_none e q2
      rw [upd_ne hb, upd_ne hb, upd_ne hb, upd_ne hb, upd_ne b2, upd_ne hb, upd_ne b1, upd_ne hb, upd_ne hb, upd_ne hb, upd_ne hb]
      exact e
end
end Spr
namespace Spr
open PySem L2
/-! ### the mirror of a Spread -/
structure Sl where
  frm : Int
  to : Int
  kd : Kd
  val : Int
inductive Dd where
  | deliver (k : Int)
  | lie (liar to : Int) (kd : Kd) (v : Int)
structure MS where
  n : Nat
  e : Int
  r : Int
  d : Int
  liars : List Int
  first : Int
  value : Option Int
  ears : List ME
  slips : List (Int × Sl)
  put : Nat
  log : List Dd
def put1 (S : MS) (s : Sl) : MS := { S with slips := S.slips ++ [((S.put : Int), s)], put := S.put + 1 }
/-- who hears what a hand sends to all, of the first i hands -/
def hears (S : MS) (snd : Int) (to : Nat) : Bool := !decide ((to : Int) = snd) && !inI (to : Int) S.liars
def putTo (S : MS) (snd : Int) (k : Kd) (v : Int) : Nat → MS
  | 0 => S
  | i + 1 => if hears S snd i = true then put1 (putTo S snd k v i) ⟨snd, (i : Int), k, v⟩ else putTo S snd k v i
def putAll (S : MS) (snd : Int) (k : Kd) (v : Int) : MS := putTo S snd k v S.n
def putSends (S : MS) (hand : Int) : List (Kd × Int) → MS
  | [] => S
  | x :: xs => putSends (putAll S hand x.1 x.2) hand xs
def earOf (S : MS) (hand : Int) : ME := S.ears.getD hand.toNat ⟨none, [], [], none, none, none⟩
def hearS (S : MS) (hand snd : Int) (k : Kd) (v : Int) : MS :=
  putSends { S with ears := S.ears.set hand.toNat (hear hand S.first S.e S.r S.d k snd v (earOf S hand)).1 } hand (hear hand S.first S.e S.r S.d k snd v (earOf S hand)).2
def dlv (S : MS) (k : Int) (s : Sl) : MS := hearS { S with slips := S.slips.filter fun x => decide (¬ x.1 = k), log := S.log ++ [.deliver k] } s.to s.frm s.kd s.val
def lieS (S : MS) (liar to : Int) (k : Kd) (v : Int) : MS := put1 { S with log := S.log ++ [.lie liar to k v] } ⟨liar, to, k, v⟩
def honest (S : MS) (h : Int) : Bool := decide (0 ≤ h ∧ h < S.n) && !inI h S.liars
def init0 (n : Nat) (e r d : Int) (liars : List Int) (first : Int) (value : Option Int) : MS := ⟨n, e, r, d, liars, first, value, List.replicate n ⟨none, [], [], none, none, none⟩, [], 0, []⟩
def initS (n : Nat) (e r d : Int) (liars : List Int) (first : Int) (value : Option Int) : MS := match value with
  | some v => if inI first liars = true then init0 n e r d liars first value else hearS (putAll (init0 n e r d liars first value) first .said v) first first .said v
  | none => init0 n e r d liars first value
/-! what stays -/
theorem put1_n (S : MS) (s : Sl) : (put1 S s).n = S.n := rfl
theorem putTo_keeps (S : MS) (snd : Int) (k : Kd) (v : Int) (i : Nat) : (putTo S snd k v i).n = S.n ∧ (putTo S snd k v i).e = S.e ∧ (putTo S snd k v i).r = S.r ∧ (putTo S snd k v i).d = S.d ∧ (putTo S snd k v i).liars = S.liars ∧ (putTo S snd k v i).first = S.first ∧ (putTo S snd k v i).value = S.value ∧ (putTo S snd k v i).ears = S.ears ∧ (putTo S snd k v i).log = S.log := by
  induction i with
  | zero => exact ⟨rfl, rfl, rfl, rfl, rfl, rfl, rfl, rfl, rfl⟩
  | succ i ih =>
    unfold putTo
    split
    · exact ih
    · exact ih
theorem putSends_keeps (hand : Int) : ∀ (xs : List (Kd × Int)) (S : MS), (putSends S hand xs).n = S.n ∧ (putSends S hand xs).e = S.e ∧ (putSends S hand xs).r = S.r ∧ (putSends S hand xs).d = S.d ∧ (putSends S hand xs).liars = S.liars ∧ (putSends S hand xs).first = S.first ∧ (putSends S hand xs).value = S.value ∧ (putSends S hand xs).ears = S.ears ∧ (putSends S hand xs).log = S.log
  | [], S => ⟨rfl, rfl, rfl, rfl, rfl, rfl, rfl, rfl, rfl⟩
  | x :: xs, S => by
    have h := putSends_keeps hand xs (putAll S hand x.1 x.2)
    have q := putTo_keeps S hand x.1 x.2 S.n
    unfold putSends
    exact ⟨h.1.trans q.1, h.2.1.trans q.2.1, h.2.2.1.trans q.2.2.1, h.2.2.2.1.trans q.2.2.2.1, h.2.2.2.2.1.trans q.2.2.2.2.1, h.2.2.2.2.2.1.trans q.2.2.2.2.2.1, h.2.2.2.2.2.2.1.trans q.2.2.2.2.2.2.1, h.2.2.2.2.2.2.2.1.trans q.2.2.2.2.2.2.2.1, h.2.2.2.2.2.2.2.2.trans q.2.2.2.2.2.2.2.2⟩
/-! ### what holds of every Spread -/
structure WfEar (n : Nat) (hand : Int) (E : ME) : Prop where
  nd1 : (E.ef.map (·.1)).Nodup
  nd2 : (E.pf.map (·.1)).Nodup
  in1 : ∀ x ∈ E.ef, 0 ≤ x.1 ∧ x.1 < n
  in2 : ∀ x ∈ E.pf, 0 ≤ x.1 ∧ x.1 < n
  n1 : E.echoed = none → hasK E.ef hand = false
  n2 : E.promised = none → hasK E.pf hand = false
structure WfSl (S : MS) (s : Sl) : Prop where
  f0 : 0 ≤ s.frm
  f1 : s.frm < S.n
  t0 : 0 ≤ s.to
  t1 : s.to < S.n
  th : s.to ∉ S.liars
  ne : s.frm ≠ s.to
structure WfS (S : MS) : Prop where
  n2 : 2 ≤ S.n
  n12 : S.n ≤ 12
  el : S.ears.length = S.n
  ears : ∀ (i : Nat) (E : ME), S.ears[i]? = some E → WfEar S.n i E
  sl : ∀ x ∈ S.slips, WfSl S x.2
  asc : (S.slips.map (·.1)).Pairwise (· < ·)
  lt : ∀ x ∈ S.slips, x.1 < S.put
  lin : ∀ l ∈ S.liars, 0 ≤ l ∧ l < S.n
  f0 : 0 ≤ S.first
  f1 : S.first < S.n
theorem nodup_le : ∀ (n : Nat) (l : List Int), l.Nodup → (∀ x ∈ l, 0 ≤ x ∧ x < n) → l.length ≤ n
  | 0, [], _, _ => Nat.le_refl _
  | 0, x :: r, _, h => by
    have := h x (List.mem_cons_self)
    omega
  | n + 1, l, nd, h => by
    have ih := nodup_le n (l.filter fun x => decide (x ≠ (n : Int))) (nd.filter _) fun x hx => by
      obtain ⟨h1, h2⟩ := List.mem_filter.mp hx
      have h2 := of_decide_eq_true h2
      have := h x h1
      omega
    have hc : l.length ≤ (l.filter fun x => decide (x ≠ (n : Int))).length + 1 := by
      clear ih h
      induction l with
      | nil => exact Nat.zero_le _
      | cons x r ihr =>
        obtain ⟨hx, hr⟩ := List.nodup_cons.mp nd
        by_cases e : x = n
        · have : (r.filter fun x => decide (x ≠ (n : Int))) = r := by
            apply List.filter_eq_self.mpr
            intro y hy
            exact decide_eq_true fun q => hx (by rw [e, ← q]; exact hy)
          rw [List.filter_cons, if_neg (by simp [e]), this, List.length_cons]
          exact Nat.le_refl _
        · rw [List.filter_cons, if_pos (by simp [e]), List.length_cons, List.length_cons]
          exact Nat.succ_le_succ (ihr hr)
    omega
theorem WfEar.wfE {n : Nat} {hand : Int} {E : ME} (w : WfEar n hand E) (hn : n ≤ 12) : WfE hand E 12 := by
  refine ⟨?_, ?_, w.n1, w.n2⟩
  · have := nodup_le n (E.ef.map (·.1)) w.nd1 (fun x hx => by obtain ⟨y, hy, rfl⟩ := List.mem_map.mp hx; exact w.in1 y hy)
    rw [List.length_map] at this
    omega
  · have := nodup_le n (E.pf.map (·.1)) w.nd2 (fun x hx => by obtain ⟨y, hy, rfl⟩ := List.mem_map.mp hx; exact w.in2 y hy)
    rw [List.length_map] at this
    omega
theorem hasK_iff {m : Pm} {k : Int} : hasK m k = true ↔ k ∈ m.map (·.1) := by
  unfold hasK
  rw [List.any_eq_true, List.mem_map]
  constructor
  · rintro ⟨x, hx, e⟩
    exact ⟨x, hx, of_decide_eq_true e⟩
  · rintro ⟨x, hx, e⟩
    exact ⟨x, hx, decide_eq_true e⟩
theorem nd_snocK {m : Pm} {k v : Int} (nd : (m.map (·.1)).Nodup) (h : hasK m k = false) : ((m ++ [(k, v)]).map (·.1)).Nodup := by
  rw [List.map_append]
  exact nd_snoc nd fun q => by rw [hasK_iff.mpr q] at h; cases h
theorem setd_nd {m : Pm} {k v : Int} (nd : (m.map (·.1)).Nodup) : ((setd m k v).map (·.1)).Nodup := by
  unfold setd
  by_cases h : hasK m k = true
  · rw [if_pos h]
    exact nd
  · rw [if_neg h]
    exact nd_snocK nd (by simpa using h)
theorem setd_in {m : Pm} {k v : Int} {n : Nat} (h : ∀ x ∈ m, 0 ≤ x.1 ∧ x.1 < n) (h0 : 0 ≤ k) (h1 : k < n) : ∀ x ∈ setd m k v, 0 ≤ x.1 ∧ x.1 < n := by
  unfold setd
  split
  · exact h
  · intro x hx
    rcases List.mem_append.mp hx with q | q
    · exact h x q
    · rw [List.mem_singleton.mp q]
      exact ⟨h0, h1⟩
theorem snoc_in {m : Pm} {k v : Int} {n : Nat} (h : ∀ x ∈ m, 0 ≤ x.1 ∧ x.1 < n) (h0 : 0 ≤ k) (h1 : k < n) : ∀ x ∈ m ++ [(k, v)], 0 ≤ x.1 ∧ x.1 < n := by
  intro x hx
  rcases List.mem_append.mp hx with q | q
  · exact h x q
  · rw [List.mem_singleton.mp q]
    exact ⟨h0, h1⟩
theorem hear_wf {n : Nat} {hand first e r d snd v : Int} {k : Kd} {E : ME} (w : WfEar n hand E) (hs : k ≠ .said → snd ≠ hand) (s0 : 0 ≤ snd) (s1 : snd < n) (h0 : 0 ≤ hand) (h1 : hand < n) : WfEar n hand (hear hand first e r d k snd v E).1 := by
  have w0 : WfEar n hand (hear0 first k snd v E) := by
    cases k with
    | said =>
      unfold hear0
      dsimp only
      split
      · exact ⟨w.nd1, w.nd2, w.in1, w.in2, w.n1, w.n2⟩
      · exact w
    | echo => exact ⟨setd_nd w.nd1, w.nd2, setd_in w.in1 s0 s1, w.in2, fun q => (hasK_setd _ _ _ _ (hs (by decide))).trans (w.n1 q), w.n2⟩
    | prom => exact ⟨w.nd1, setd_nd w.nd2, w.in1, setd_in w.in2 s0 s1, w.n1, fun q => (hasK_setd _ _ _ _ (hs (by decide))).trans (w.n2 q)⟩
  unfold hear doDue
  generalize hear0 first k snd v E = E0 at w0
  have w1 : WfEar n hand (due1 hand E0).1 := by
    unfold due1
    obtain ⟨told, ef, pf, ec, pr, tk⟩ := E0
    cases told with
    | none => exact w0
    | some u =>
      cases ec with
      | some z => exact w0
      | none => exact ⟨nd_snocK w0.nd1 (w0.n1 rfl), w0.nd2, snoc_in w0.in1 h0 h1, w0.in2, (fun q => by cases q), w0.n2⟩
  generalize (due1 hand E0).1 = E1 at w1
  have w2 : WfEar n hand (due2 hand e r v E1).1 := by
    unfold due2
    split
    · rename_i c
      exact ⟨w1.nd1, nd_snocK w1.nd2 (w1.n2 c.2), w1.in1, snoc_in w1.in2 h0 h1, w1.n1, (fun q => by cases q)⟩
    · exact w1
  generalize (due2 hand e r v E1).1 = E2 at w2
  show WfEar n hand (due3 d v E2)
  unfold due3
  split
  · exact ⟨w2.nd1, w2.nd2, w2.in1, w2.in2, w2.n1, w2.n2⟩
  · exact w2
end Spr
namespace Spr
open PySem L2
structure EA where
  a : Addr
  dx : Addr
  d1 : Addr
  d2 : Addr
structure SA where
  p : Addr
  dx : Addr
  tc : Addr
  tl : Addr
  le : Addr
  ds : Addr
  lg : Addr
  es : List EA
def spF (A : SA) (S : MS) : List (Str × V) := [("n", .int (S.n : Int)), ("counts", .ref A.tc), ("liars", .ref A.tl), ("first", .int S.first), ("_value", ov S.value), ("_ears", .ref A.le), ("_slips", .ref A.ds), ("_put_ever", .int (S.put : Int)), ("_log", .ref A.lg)]
def slV (s : Sl) : List V := [.int s.frm, .int s.to, .str (ks s.kd), .int s.val]
def ddV : Dd → List V
  | .deliver k => [.str "deliver", .int k]
  | .lie l t k v => [.str "lie", .int l, .int t, .str (ks k), .int v]
structure SpAt (C CE : Addr) (A : SA) (S : MS) (H : Hp) : Prop where
  ob : H A.p = some (.ins C A.dx (spF A S))
  tc : H A.tc = some (.tup [.int S.e, .int S.r, .int S.d])
  tl : H A.tl = some (.tup (S.liars.map V.int))
  le : H A.le = some (.lst (A.es.map fun x => V.ref x.a))
  el : A.es.length = S.ears.length
  ears : ∀ (i : Nat) (x : EA) (E : ME), A.es[i]? = some x → S.ears[i]? = some E → EarAt CE H x.a x.dx x.d1 x.d2 i A.tc S.first E
  ds : ∃ sg : List ((Int × Sl) × Addr), sg.map (·.1) = S.slips ∧ H A.ds = some (.dK (sg.map fun x => (Sum.inl x.1.1, V.ref x.2))) ∧ ∀ x ∈ sg, H x.2 = some (.tup (slV x.1.2))
  lg : ∃ lz : List (Dd × Addr), lz.map (·.1) = S.log ∧ H A.lg = some (.lst (lz.map fun x => V.ref x.2)) ∧ ∀ x ∈ lz, H x.2 = some (.tup (ddV x.1))
structure Apart (C CE : Addr) (A : SA) : Prop where
  cc : C ≠ CE
  nda : (A.es.map (·.a)).Nodup
  ndd : (A.ds :: (A.es.map (·.d1) ++ A.es.map (·.d2))).Nodup
  ll : A.lg ≠ A.le
def Fp (A : SA) (b : Addr) : Prop := b = A.p ∨ b = A.ds ∨ b = A.lg ∨ ∃ x ∈ A.es, b = x.a ∨ b = x.d1 ∨ b = x.d2
def KeepF (A : SA) (H H' : Hp) : Prop := ∀ b o, H b = some o → ¬ Fp A b → H' b = some o
theorem KeepF.refl (A : SA) (H : Hp) : KeepF A H H := fun _ _ e _ => e
theorem KeepF.trans {A : SA} {H H1 H2 : Hp} (p : KeepF A H H1) (q : KeepF A H1 H2) : KeepF A H H2 := fun b o e h => q b o (p b o e h) h
theorem KeepF.same {A : SA} {H H1 H2 : Hp} (p : KeepF A H H1) (q : Same H1 H2) : KeepF A H H2 := fun b o e h => q b o (p b o e h)
theorem keepF_upd {A : SA} {H H' : Hp} {c : Addr} {o : HO} (p : KeepF A H H') (h : Fp A c ∨ H c = none) : KeepF A H (upd H' c o) := fun b u e nf => by
  have : b ≠ c := by
    rcases h with h | h
    · exact fun q => nf (q ▸ h)
    · exact ne_of_none e h
  rw [upd_ne this]
  exact p b u e nf
theorem keepE_F {A : SA} {H H' : Hp} {x : EA} (hx : x ∈ A.es) (p : KeepE H H' x.a x.d1 x.d2) : KeepF A H H' := fun b o e nf =>
  p b o e (fun q => nf (.inr (.inr (.inr ⟨x, hx, .inl q⟩)))) (fun q => nf (.inr (.inr (.inr ⟨x, hx, .inr (.inl q)⟩)))) (fun q => nf (.inr (.inr (.inr ⟨x, hx, .inr (.inr q)⟩))))
theorem es_at {A : SA} {S : MS} (el : A.es.length = S.ears.length) {x : EA} (hx : x ∈ A.es) : ∃ (i : Nat) (E : ME), A.es[i]? = some x ∧ S.ears[i]? = some E := by
  obtain ⟨i, hi⟩ := List.mem_iff_getElem?.mp hx
  obtain ⟨hl, _⟩ := List.getElem?_eq_some_iff.mp hi
  exact ⟨i, S.ears[i]'(by omega), hi, List.getElem?_eq_getElem (by omega)⟩
section
variable {C CE : Addr} {A : SA} {S : MS} {H H' : Hp}
/-- all that is of the footprint stands -/
theorem SpAt.fp (x : SpAt C CE A S H) {b : Addr} (h : H b = none) : ¬ Fp A b := by
  rintro (e | e | e | ⟨y, hy, e⟩)
  · rw [e, x.ob] at h; cases h
  · obtain ⟨sg, _, h1, _⟩ := x.ds
    rw [e, h1] at h; cases h
  · obtain ⟨lz, _, h1, _⟩ := x.lg
    rw [e, h1] at h; cases h
  · obtain ⟨i, E, h1, h2⟩ := es_at x.el hy
    have q := x.ears i y E h1 h2
    rcases e with e | e | e
    · rw [e, q.ob] at h; cases h
    · rw [e, q.h1] at h; cases h
    · rw [e, q.h2] at h; cases h
theorem SpAt.tupF (x : SpAt C CE A S H) {b : Addr} {ys : List V} (h : H b = some (.tup ys)) : ¬ Fp A b := by
  rintro (e | e | e | ⟨y, hy, e⟩)
  · rw [e, x.ob] at h; cases h
  · obtain ⟨sg, _, h1, _⟩ := x.ds
    rw [e, h1] at h; cases h
  · obtain ⟨lz, _, h1, _⟩ := x.lg
    rw [e, h1] at h; cases h
  · obtain ⟨i, E, h1, h2⟩ := es_at x.el hy
    have q := x.ears i y E h1 h2
    rcases e with e | e | e
    · rw [e, q.ob] at h; cases h
    · rw [e, q.h1] at h; cases h
    · rw [e, q.h2] at h; cases h
theorem SpAt.same (x : SpAt C CE A S H) (s : Same H H') : SpAt C CE A S H' :=
  ⟨s _ _ x.ob, s _ _ x.tc, s _ _ x.tl, s _ _ x.le, x.el, fun i y E h1 h2 => (x.ears i y E h1 h2).same s,
   let ⟨sg, e1, e2, e3⟩ := x.ds; ⟨sg, e1, s _ _ e2, fun y hy => s _ _ (e3 y hy)⟩, let ⟨lz, e1, e2, e3⟩ := x.lg; ⟨lz, e1, s _ _ e2, fun y hy => s _ _ (e3 y hy)⟩⟩
/-- other objects may be written -/
theorem SpAt.other (x : SpAt C CE A S H) (s : ∀ b o, H b = some o → (Fp A b ∨ b = A.tc ∨ b = A.tl ∨ b = A.le ∨ ∃ ys, o = .tup ys) → H' b = some o) : SpAt C CE A S H' := by
  refine ⟨s _ _ x.ob (.inl (.inl rfl)), s _ _ x.tc (.inr (.inl rfl)), s _ _ x.tl (.inr (.inr (.inl rfl))), s _ _ x.le (.inr (.inr (.inr (.inl rfl)))), x.el, fun i y E h1 h2 => ?_, ?_, ?_⟩
  · have q := x.ears i y E h1 h2
    have hy := List.mem_of_getElem? h1
    exact ⟨s _ _ q.ob (.inl (.inr (.inr (.inr ⟨y, hy, .inl rfl⟩)))), s _ _ q.h1 (.inl (.inr (.inr (.inr ⟨y, hy, .inr (.inl rfl)⟩)))), s _ _ q.h2 (.inl (.inr (.inr (.inr ⟨y, hy, .inr (.inr rfl)⟩)))), q.ne⟩
  · obtain ⟨sg, e1, e2, e3⟩ := x.ds
    exact ⟨sg, e1, s _ _ e2 (.inl (.inr (.inl rfl))), fun y hy => s _ _ (e3 y hy) (.inr (.inr (.inr (.inr ⟨_, rfl⟩))))⟩
  · obtain ⟨lz, e1, e2, e3⟩ := x.lg
    exact ⟨lz, e1, s _ _ e2 (.inl (.inr (.inr (.inl rfl)))), fun y hy => s _ _ (e3 y hy) (.inr (.inr (.inr (.inr ⟨_, rfl⟩))))⟩
/-- the ears are kept, the rest is told anew -/
theorem SpAt.re (x : SpAt C CE A S H) (ap : Apart C CE A) {sl : List (Int × Sl)} {pt : Nat} {lo : List Dd} (hk : ∀ b o, H b = some o → b ≠ A.p → b ≠ A.ds → b ≠ A.lg → H' b = some o)
    (ob : H' A.p = some (.ins C A.dx (spF A { S with slips := sl, put := pt, log := lo })))
    (ds : ∃ sg : List ((Int × Sl) × Addr), sg.map (·.1) = sl ∧ H' A.ds = some (.dK (sg.map fun x => (Sum.inl x.1.1, V.ref x.2))) ∧ ∀ x ∈ sg, H' x.2 = some (.tup (slV x.1.2)))
    (lg : ∃ lz : List (Dd × Addr), lz.map (·.1) = lo ∧ H' A.lg = some (.lst (lz.map fun x => V.ref x.2)) ∧ ∀ x ∈ lz, H' x.2 = some (.tup (ddV x.1))) : SpAt C CE A { S with slips := sl, put := pt, log := lo } H' := by
  obtain ⟨sg0, _, hds, _⟩ := x.ds
  obtain ⟨lz0, _, hlg, _⟩ := x.lg
  refine ⟨ob, hk _ _ x.tc (ne_of x.tc x.ob (by intro q; cases q)) (ne_of x.tc hds (by intro q; cases q)) (ne_of x.tc hlg (by intro q; cases q)), hk _ _ x.tl (ne_of x.tl x.ob (by intro q; cases q)) (ne_of x.tl hds (by intro q; cases q)) (ne_of x.tl hlg (by intro q; cases q)),
    hk _ _ x.le (ne_of x.le x.ob (by intro q; cases q)) (ne_of x.le hds (by intro q; cases q)) (Ne.symm ap.ll), x.el, fun i y E h1 h2 => ?_, ds, lg⟩
  have q := x.ears i y E h1 h2
  have hy := List.mem_of_getElem? h1
  obtain ⟨nds, _⟩ := List.nodup_cons.mp ap.ndd
  refine ⟨hk _ _ q.ob (ne_of q.ob x.ob (by intro z; injection z with z; exact ap.cc z.symm)) (ne_of q.ob hds (by intro z; cases z)) (ne_of q.ob hlg (by intro z; cases z)),
    hk _ _ q.h1 (ne_of q.h1 x.ob (by intro z; cases z)) (fun z => nds (by rw [← z]; exact List.mem_append_left _ (List.mem_map_of_mem hy))) (ne_of q.h1 hlg (by intro z; cases z)),
    hk _ _ q.h2 (ne_of q.h2 x.ob (by intro z; cases z)) (fun z => nds (by rw [← z]; exact List.mem_append_right _ (List.mem_map_of_mem hy))) (ne_of q.h2 hlg (by intro z; cases z)), q.ne⟩
end
/-- what the text says of the class Spread -/
structure TxS (K : PySem.W.Frag) (C : Addr) : Prop where
  cl : Cls K C
  n : NoAttr K C "n"
  counts : NoAttr K C "counts"
  liars : NoAttr K C "liars"
  first : NoAttr K C "first"
  value : NoAttr K C "_value"
  ears : NoAttr K C "_ears"
  slips : NoAttr K C "_slips"
  put : NoAttr K C "_put_ever"
  log : NoAttr K C "_log"
section
variable {P : Program} {w : World} {K : PySem.W.Frag} {mg : Str → Option Value} {base : Heap}
def spHon (C CE : Addr) : Sp := fun vs H Q _ => ∃ (A : SA) (S : MS) (h : Int), vs = [.ref A.p, .int h] ∧ SpAt C CE A S H ∧ Q (.bl (honest S h)) H
theorem scHon : FnScope ["self", "hand"] ["self", "hand"] (defScope s_Spread_is_honest) := ⟨rfl, rfl, rfl, by decide +kernel, rfl, by decide +kernel, by decide +kernel⟩
theorem ok_hon {f C CE fI : Addr} {fd fdI : FuncData} (F : Fun K "_is_honest" "Spread._is_honest" s_Spread_is_honest f fd) (TS : TxS K C) (cI : Ca P w K mg base 3 "is_hand" ["value", "n"] spIsHand fI fdI) : FnOk P w K mg base CX0 4 f fd ["self", "hand"] (spHon C CE) := by
  refine F.ok scHon (fun vs H Q E h => ?_) (fun cdv A outer s H vs Q E hr h => ?_)
  · obtain ⟨A, S, h, rfl, _⟩ := h
    rfl
  · obtain ⟨A, S, h, rfl, x, k⟩ := h
    refine ⟨_, pss_one (ps_ret (pe_and (pe_ca cI hr (pa_cons (pv 1) (pa_cons (pe_fld (pv 0) rfl) pa_nil))) (pe_one (pe_cmpR op_notIn_seq (pv 1) (pe_fld (pv 0) rfl) (by rfl))))), ?_⟩
    refine ⟨_, rfl, _, rfl, A.p, C, A.dx, _, _, rfl, x.ob, TS.cl, TS.n, rfl, h, (S.n : Int), rfl, _, rfl, ?_⟩
    unfold honest at k
    by_cases c : 0 ≤ h ∧ h < (S.n : Int)
    · rw [decide_eq_true c] at k ⊢
      refine iteT ⟨_, rfl, _, rfl, A.p, C, A.dx, _, _, rfl, x.ob, TS.cl, TS.liars, rfl, A.tl, _, rfl, .inr (SqT.of x.tl), rfl, flat_ints _, ?_⟩
      rw [inV_int]
      exact k
    · rw [decide_eq_false c] at k ⊢
      exact iteF k
abbrev nPut : List Str := ["self", "sender", "to", "kind", "value", "number"]
theorem scPut : FnScope nPut ["self", "sender", "to", "kind", "value"] (defScope s_Spread_put) := ⟨rfl, rfl, rfl, by decide +kernel, rfl, by decide +kernel, by decide +kernel⟩
def spPut (C CE : Addr) : Sp := fun vs H Q _ => ∃ (A : SA) (S : MS) (s : Sl), vs = [.ref A.p, .int s.frm, .int s.to, .str (ks s.kd), .int s.val] ∧ SpAt C CE A S H ∧ Apart C CE A ∧ S.slips.length ≤ 10000 ∧ (∀ x ∈ S.slips, x.1 < S.put) ∧
  ∀ H', SpAt C CE A (put1 S s) H' → KeepF A H H' → Q (.int S.put) H'
theorem ok_put {f C CE : Addr} {fd : FuncData} (F : Fun K "_put" "Spread._put" s_Spread_put f fd) (TS : TxS K C) : FnOk P w K mg base CX0 1 f fd ["self", "sender", "to", "kind", "value"] (spPut C CE) := by
  refine F.ok scPut (fun vs H Q E h => ?_) (fun cdv A outer s H vs Q E hr h => ?_)
  · obtain ⟨A, S, s, rfl, _⟩ := h
    rfl
  · obtain ⟨A, S, sl, rfl, x, ap, hlen, hlt, k⟩ := h
    have hu := hu_of hr
    obtain ⟨sg, es, hds, hsg⟩ := x.ds
    obtain ⟨lz, el, hlg, hlz⟩ := x.lg
    have pds : A.p ≠ A.ds := ne_of x.ob hds (by intro z; cases z)
    have plg : A.p ≠ A.lg := ne_of x.ob hlg (by intro z; cases z)
    have dlg : A.ds ≠ A.lg := ne_of hds hlg (by intro z; cases z)
    refine ⟨_, pss_cons (ps_set (i := 5) scPut.nd rfl (Or.inl rfl) (pe_fld (pv 0) rfl))
      (pss_cons (ps_dput hu (pe_fld (pv 0) rfl) (pv 5) (pe_tup (pa_cons (pv 1) (pa_cons (pv 2) (pa_cons (pv 3) (pa_cons (pv 4) pa_nil))))) rfl)
      (pss_cons (ps_fldaug (pv 0) pe_int in_add)
      (pss_one (ps_ret (pv 5))))), ?_⟩
    refine ⟨_, rfl, A.p, C, A.dx, _, _, rfl, x.ob, TS.cl, TS.put, rfl, ?_⟩
    refine ⟨_, rfl, _, rfl, _, rfl, _, rfl, (by show 4 ≤ sizeLine; decide), fun t ht => ?_⟩
    have tp : t ≠ A.p := fun q => by rw [q, x.ob] at ht; cases ht
    have td : t ≠ A.ds := fun q => by rw [q, hds] at ht; cases ht
    have tg : t ≠ A.lg := fun q => by rw [q, hlg] at ht; cases ht
    refine ⟨_, rfl, A.p, C, A.dx, _, _, rfl, (upd_ne tp.symm).trans x.ob, TS.cl, TS.slips, rfl, _, rfl, A.ds, _, rfl, DPut.k (k := Sum.inl (S.put : Int)) ((upd_ne td.symm).trans hds) ?_, ?_⟩
    · have : sg.length = S.slips.length := by rw [← es, List.length_map]
      rw [List.length_map, this]
      exact Nat.lt_of_le_of_lt hlen (by decide)
    have hp2 : ∀ o, (upd (upd H t (.tup (slV sl))) A.ds o) A.p = some (.ins C A.dx (spF A S)) := fun o => (upd_ne pds).trans ((upd_ne tp.symm).trans x.ob)
    refine ⟨_, rfl, A.p, C, A.dx, _, _, rfl, hp2 _, TS.cl, TS.put, rfl, _, _, rfl, rfl, A.dx, _, hp2 _, (by show 9 < 1000; decide), _, rfl, ?_⟩
    have hv : valV (sg.map fun x => (Sum.inl x.1.1, V.ref x.2)) (Sum.inl (S.put : Int) : Key) = none := by
      cases e : valV (sg.map fun x => ((Sum.inl x.1.1 : Key), V.ref x.2)) (Sum.inl (S.put : Int) : Key) with
      | none => rfl
      | some v =>
        have m := valV_in e
        rw [List.map_map] at m
        obtain ⟨y, hy, ey⟩ := List.mem_map.mp m
        have ey : y.1.1 = (S.put : Int) := Sum.inl.inj ey
        have := hlt y.1 (by rw [← es]; exact List.mem_map_of_mem hy)
        omega
    refine k _ (x.re ap (fun b o e h1 h2 h3 => ?_) ?_ ⟨sg ++ [(((S.put : Int), sl), t)], by rw [List.map_append, es]; rfl, ?_, ?_⟩ ⟨lz, el, ?_, fun y hy => ?_⟩) ?_
    · rw [upd_ne h1, upd_ne h2, upd_ne (ne_of_none e ht)]
      exact e
    · rw [upd_same]
      rfl
    · rw [upd_ne pds.symm, upd_same, putK_new _ hv, List.map_append]
      rfl
    · intro y hy
      rcases List.mem_append.mp hy with q | q
      · have h := hsg y q
        rw [upd_ne (ne_of h x.ob (by intro z; cases z)), upd_ne (ne_of h hds (by intro z; cases z)), upd_ne (ne_of_none h ht)]
        exact h
      · rw [List.mem_singleton.mp q]
        show upd _ A.p _ t = _
        rw [upd_ne tp, upd_ne td, upd_same]
        rfl
    · rw [upd_ne plg.symm, upd_ne dlg.symm, upd_ne tg.symm]
      exact hlg
    · have h := hlz y hy
      rw [upd_ne (ne_of h x.ob (by intro z; cases z)), upd_ne (ne_of h hds (by intro z; cases z)), upd_ne (ne_of_none h ht)]
      exact h
    · exact keepF_upd (keepF_upd (keepF_upd (KeepF.refl A H) (.inr ht)) (.inl (.inr (.inl rfl)))) (.inl (.inl rfl))
end
end Spr
namespace Spr
open PySem L2
theorem putTo_len (S : MS) (snd : Int) (k : Kd) (v : Int) (i : Nat) : (putTo S snd k v i).slips.length ≤ S.slips.length + i := by
  induction i with
  | zero => exact Nat.le_refl _
  | succ i ih =>
    unfold putTo
    split
    · show ((putTo S snd k v i).slips ++ [_]).length ≤ _
      rw [List.length_append]
      show _ + 1 ≤ _
      omega
    · omega
theorem put1_wf {S : MS} {s : Sl} (w : WfS S) (h : WfSl S s) : WfS (put1 S s) := by
  refine ⟨w.n2, w.n12, w.el, w.ears, fun x hx => ?_, ?_, fun x hx => ?_, w.lin, w.f0, w.f1⟩
  · rcases List.mem_append.mp hx with q | q
    · obtain ⟨a, b, c, d, e, f⟩ := w.sl x q
      exact ⟨a, b, c, d, e, f⟩
    · rw [List.mem_singleton.mp q]
      exact ⟨h.f0, h.f1, h.t0, h.t1, h.th, h.ne⟩
  · show ((S.slips ++ [((S.put : Int), s)]).map (·.1)).Pairwise (· < ·)
    rw [List.map_append]
    refine List.pairwise_append.mpr ⟨w.asc, List.pairwise_singleton _ _, fun a ha b hb => ?_⟩
    obtain ⟨x, hx, rfl⟩ := List.mem_map.mp ha
    rw [List.mem_singleton.mp hb]
    exact w.lt x hx
  · show x.1 < ((S.put + 1 : Nat) : Int)
    rcases List.mem_append.mp hx with q | q
    · have := w.lt x q
      omega
    · rw [List.mem_singleton.mp q]
      show (S.put : Int) < _
      omega
theorem hears_iff {S : MS} {snd : Int} {i : Nat} : hears S snd i = true ↔ (i : Int) ≠ snd ∧ (i : Int) ∉ S.liars := by
  unfold hears inI
  simp
theorem hears_putTo (S : MS) (snd snd' : Int) (k : Kd) (v : Int) (i j : Nat) : hears (putTo S snd k v i) snd' j = hears S snd' j := by
  unfold hears
  rw [(putTo_keeps S snd k v i).2.2.2.2.1]
theorem putTo_wf {S : MS} {snd : Int} {k : Kd} {v : Int} (w : WfS S) (h0 : 0 ≤ snd) (h1 : snd < S.n) : ∀ i, i ≤ S.n → WfS (putTo S snd k v i)
  | 0, _ => w
  | i + 1, hi => by
    have ih := putTo_wf w h0 h1 (k := k) (v := v) i (by omega)
    unfold putTo
    split
    · rename_i c
      obtain ⟨c1, c2⟩ := hears_iff.mp c
      have q := putTo_keeps S snd k v i
      refine put1_wf ih ⟨h0, by rw [q.1]; exact h1, Int.natCast_nonneg i, by rw [q.1]; show (i : Int) < _; omega, by rw [q.2.2.2.2.1]; exact c2, fun z => c1 z.symm⟩
    · exact ih
theorem putAll_wf {S : MS} {snd : Int} {k : Kd} {v : Int} (w : WfS S) (h0 : 0 ≤ snd) (h1 : snd < S.n) : WfS (putAll S snd k v) := putTo_wf w h0 h1 S.n (Nat.le_refl _)
theorem putSends_wf {hand : Int} : ∀ (xs : List (Kd × Int)) {S : MS}, WfS S → 0 ≤ hand → hand < S.n → WfS (putSends S hand xs)
  | [], _, w, _, _ => w
  | x :: xs, S, w, h0, h1 => by
    unfold putSends
    exact putSends_wf xs (putAll_wf w h0 h1) h0 (by show hand < ((putAll S hand x.1 x.2).n : Int); rw [show (putAll S hand x.1 x.2).n = S.n from (putTo_keeps S hand x.1 x.2 S.n).1]; exact h1)
theorem putSends_snoc (hand : Int) : ∀ (xs : List (Kd × Int)) (x : Kd × Int) (S : MS), putSends S hand (xs ++ [x]) = putAll (putSends S hand xs) hand x.1 x.2
  | [], _, _ => rfl
  | y :: ys, x, S => by
    show putSends (putAll S hand y.1 y.2) hand (ys ++ [x]) = _
    rw [putSends_snoc hand ys x]
    rfl
theorem putSends_len (hand : Int) : ∀ (xs : List (Kd × Int)) (S : MS), S.n ≤ 12 → (putSends S hand xs).slips.length ≤ S.slips.length + 12 * xs.length
  | [], S, _ => Nat.le_refl _
  | x :: xs, S, h => by
    have h1 := putTo_len S hand x.1 x.2 S.n
    have e : (putAll S hand x.1 x.2).n = S.n := (putTo_keeps S hand x.1 x.2 S.n).1
    have h2 := putSends_len hand xs (putAll S hand x.1 x.2) (by rw [e]; exact h)
    unfold putSends
    rw [List.length_cons]
    have h3 : (putAll S hand x.1 x.2).slips.length ≤ S.slips.length + S.n := h1
    omega
theorem doDue_len (hand e r d v : Int) (E : ME) : (doDue hand e r d v E).2.length ≤ 2 := by
  have h1 := due1_x (hand := hand) (E := E)
  have h2 : (due2 hand e r v (due1 hand E).1).2.length ≤ 1 := by
    unfold due2
    split
    · exact Nat.le_refl _
    · exact Nat.zero_le _
  show ((due1 hand E).2 ++ _).length ≤ 2
  rw [List.length_append]
  omega
theorem setEar_wf {S : MS} {j : Nat} {E' : ME} (w : WfS S) (h : WfEar S.n j E') : WfS { S with ears := S.ears.set j E' } := by
  refine ⟨w.n2, w.n12, by show (S.ears.set j E').length = S.n; rw [List.length_set]; exact w.el, fun i E hi => ?_, fun x hx => ?_, w.asc, w.lt, w.lin, w.f0, w.f1⟩
  · by_cases e : j = i
    · subst e
      have hl : j < S.ears.length := by
        have := (List.getElem?_eq_some_iff.mp hi).1
        rw [List.length_set] at this
        exact this
      have hi : (S.ears.set j E')[j]? = some E := hi
      rw [List.getElem?_set_self hl] at hi
      rw [← Option.some.inj hi]
      exact h
    · have hi : (S.ears.set j E')[i]? = some E := hi
      rw [List.getElem?_set_ne e] at hi
      exact w.ears i E hi
  · obtain ⟨a, b, c, d, e, f⟩ := w.sl x hx
    exact ⟨a, b, c, d, e, f⟩
theorem earOf_at {S : MS} (w : WfS S) {hand : Int} (h0 : 0 ≤ hand) (h1 : hand < S.n) : S.ears[hand.toNat]? = some (earOf S hand) := by
  unfold earOf
  have : hand.toNat < S.ears.length := by
    have := w.el
    omega
  rw [List.getD_eq_getElem?_getD, List.getElem?_eq_getElem this]
  rfl
theorem hearS_wf {S : MS} (w : WfS S) {hand snd : Int} {k : Kd} {v : Int} (h0 : 0 ≤ hand) (h1 : hand < S.n) (s0 : 0 ≤ snd) (s1 : snd < S.n) (hs : k ≠ .said → snd ≠ hand) : WfS (hearS S hand snd k v) := by
  have e := earOf_at w h0 h1
  have we := w.ears _ _ e
  rw [Int.toNat_of_nonneg h0] at we
  unfold hearS
  refine putSends_wf _ (setEar_wf w ?_) h0 h1
  rw [Int.toNat_of_nonneg h0]
  exact hear_wf we hs s0 s1 h0 h1
section
variable {C CE : Addr} {A : SA} {S : MS} {H H' : Hp}
theorem nodup_at {α : Type} {l : List α} (h : l.Nodup) {i j : Nat} {x y : α} (a : l[i]? = some x) (b : l[j]? = some y) (ne : i ≠ j) : x ≠ y := fun q => ne (nd_ix h a (q ▸ b))
/-- an ear hears -/
theorem SpAt.ear (x : SpAt C CE A S H) (ap : Apart C CE A) {j : Nat} {y : EA} {E' : ME} (hy : A.es[j]? = some y) (kp : KeepE H H' y.a y.d1 y.d2) (ea : EarAt CE H' y.a y.dx y.d1 y.d2 j A.tc S.first E') : SpAt C CE A { S with ears := S.ears.set j E' } H' := by
  have hl : j < S.ears.length := by
    rw [← x.el]
    exact (List.getElem?_eq_some_iff.mp hy).1
  have q0 := x.ears j y _ hy (List.getElem?_eq_getElem hl)
  obtain ⟨sg, es, hds, hsg⟩ := x.ds
  obtain ⟨lz, el, hlg, hlz⟩ := x.lg
  obtain ⟨nds, ndd⟩ := List.nodup_cons.mp ap.ndd
  have hym := List.mem_of_getElem? hy
  have dsd1 : A.ds ≠ y.d1 := fun z => nds (by rw [z]; exact List.mem_append_left _ (List.mem_map_of_mem hym))
  have dsd2 : A.ds ≠ y.d2 := fun z => nds (by rw [z]; exact List.mem_append_right _ (List.mem_map_of_mem hym))
  have kt : ∀ {b : Addr} {o : HO}, H b = some o → (∀ C' dx fs, o ≠ .ins C' dx fs) → (∀ m, o ≠ .dK m) → H' b = some o := fun {b o} e n1 n2 => kp b o e (ne_of e q0.ob (n1 _ _ _)) (ne_of e q0.h1 (n2 _)) (ne_of e q0.h2 (n2 _))
  refine ⟨kp _ _ x.ob (ne_of x.ob q0.ob (by intro z; injection z with z; exact ap.cc z)) (ne_of x.ob q0.h1 (by intro z; cases z)) (ne_of x.ob q0.h2 (by intro z; cases z)), kt x.tc (by intro _ _ _ z; cases z) (by intro _ z; cases z), kt x.tl (by intro _ _ _ z; cases z) (by intro _ z; cases z), kt x.le (by intro _ _ _ z; cases z) (by intro _ z; cases z),
    by show A.es.length = (S.ears.set j E').length; rw [List.length_set]; exact x.el, fun i z E h1 h2 => ?_, ⟨sg, es, kp _ _ hds (ne_of hds q0.ob (by intro z; cases z)) dsd1 dsd2, fun z hz => kt (hsg z hz) (by intro _ _ _ z; cases z) (by intro _ z; cases z)⟩,
    ⟨lz, el, kt hlg (by intro _ _ _ z; cases z) (by intro _ z; cases z), fun z hz => kt (hlz z hz) (by intro _ _ _ z; cases z) (by intro _ z; cases z)⟩⟩
  have h2 : (S.ears.set j E')[i]? = some E := h2
  by_cases e : j = i
  · subst e
    rw [List.getElem?_set_self hl] at h2
    rw [hy] at h1
    cases h1
    rw [← Option.some.inj h2]
    exact ea
  · rw [List.getElem?_set_ne e] at h2
    have q := x.ears i z E h1 h2
    have mp : ∀ (f : EA → Addr), (A.es.map f)[i]? = some (f z) := fun f => by rw [List.getElem?_map, h1]; rfl
    have mj : ∀ (f : EA → Addr), (A.es.map f)[j]? = some (f y) := fun f => by rw [List.getElem?_map, hy]; rfl
    obtain ⟨n1, n2, n3⟩ := List.nodup_append.mp ndd
    have za : z.a ≠ y.a := nodup_at ap.nda (mp (·.a)) (mj (·.a)) (Ne.symm e)
    have z1 : z.d1 ≠ y.d1 := nodup_at n1 (mp (·.d1)) (mj (·.d1)) (Ne.symm e)
    have z2 : z.d2 ≠ y.d2 := nodup_at n2 (mp (·.d2)) (mj (·.d2)) (Ne.symm e)
    have z12 : z.d1 ≠ y.d2 := n3 _ (List.mem_of_getElem? (mp (·.d1))) _ (List.mem_of_getElem? (mj (·.d2)))
    have z21 : z.d2 ≠ y.d1 := Ne.symm (n3 _ (List.mem_of_getElem? (mj (·.d1))) _ (List.mem_of_getElem? (mp (·.d2))))
    exact ⟨kp _ _ q.ob za (ne_of q.ob q0.h1 (by intro z; cases z)) (ne_of q.ob q0.h2 (by intro z; cases z)), kp _ _ q.h1 (ne_of q.h1 q0.ob (by intro z; cases z)) z1 z12, kp _ _ q.h2 (ne_of q.h2 q0.ob (by intro z; cases z)) z21 z2, q.ne⟩
end
section
variable {P : Program} {w : World} {K : PySem.W.Frag} {mg : Str → Option Value} {base : Heap}
abbrev nPutAll : List Str := ["self", "sender", "kind", "value", "to"]
theorem scPutAll : FnScope nPutAll ["self", "sender", "kind", "value"] (defScope s_Spread_put_to_all) := ⟨rfl, rfl, rfl, by decide +kernel, rfl, by decide +kernel, by decide +kernel⟩
def spPutAll (C CE : Addr) : Sp := fun vs H Q _ => ∃ (A : SA) (S : MS) (snd : Int) (k : Kd) (v : Int), vs = [.ref A.p, .int snd, .str (ks k), .int v] ∧ SpAt C CE A S H ∧ Apart C CE A ∧ WfS S ∧ 0 ≤ snd ∧ snd < S.n ∧ S.slips.length ≤ 9000 ∧
  ∀ H', SpAt C CE A (putAll S snd k v) H' → KeepF A H H' → Q .non H'
theorem ok_putAll {f C CE fP : Addr} {fd fdP : FuncData} (F : Fun K "_put_to_all" "Spread._put_to_all" s_Spread_put_to_all f fd) (T : Bn mg) (TS : TxS K C) (cP : Me P w K mg base 1 C "_put" ["self", "sender", "to", "kind", "value"] (spPut C CE) fP fdP) : FnOk P w K mg base CX0 2 f fd ["self", "sender", "kind", "value"] (spPutAll C CE) := by
  refine F.ok scPutAll (fun vs H Q E h => ?_) (fun cdv A outer s H vs Q E hr h => ?_)
  · obtain ⟨A, S, snd, k, v, rfl, _⟩ := h
    rfl
  · obtain ⟨A, S, snd, k, v, rfl, x, ap, wf, s0, s1, hlen, kk⟩ := h
    refine ⟨_, pss_one (ps_for PassesOwn.never rfl (pi_range1 rfl T.range (pa_cons (pe_fld (pv 0) rfl) pa_nil)) (pg_name (i := 4) scPutAll.nd rfl (Or.inl rfl))
      (pss_one (ps_if (PW.pt (pw_and (pt_cmpR op_ne (pv 4) (pv 1) (nomark _)) (pw_and1 (pt_cmpR op_notIn_seq (pv 4) (pe_fld (pv 0) rfl) (by rfl)))))
        (pss_one (ps_expr (pe_me (pv 0) TS.cl cP hr (pa_cons (pv 1) (pa_cons (pv 4) (pa_cons (pv 2) (pa_cons (pv 3) pa_nil))))))) pss_nil))), ?_⟩
    have n12 := wf.n12
    refine ⟨_, rfl, A.p, C, A.dx, _, _, rfl, x.ob, TS.cl, TS.n, rfl, (S.n : Int), rfl, by omega, by omega, ?_⟩
    refine for_range (lo := 0) (n := S.n) (fun i σ H' => ∃ v4, σ = [some (.ref A.p), some (.int snd), some (.str (ks k)), some (.int v), v4] ∧ SpAt C CE A (putTo S snd k v i) H' ∧ KeepF A H H') ⟨none, rfl, x, KeepF.refl A H⟩ ?_ ?_
    · rintro i σ H' hi ⟨v4, rfl, x', kp⟩
      have e0 : (0 : Int) + (i : Int) = (i : Int) := Int.zero_add _
      rw [e0]
      refine ⟨_, rfl, _, rfl, rfl, _, rfl, ?_⟩
      have q := putTo_keeps S snd k v i
      have stay : hears S snd i = false → putTo S snd k v (i + 1) = putTo S snd k v i := fun z => by
        show (if hears S snd i = true then _ else _) = _
        rw [z]
        rfl
      by_cases c1 : (i : Int) = snd
      · rw [decide_eq_true (show V.int (i : Int) = V.int snd by rw [c1])]
        refine iteF (iteF ⟨_, rfl, ?_, kp⟩)
        rw [stay (by unfold hears; rw [decide_eq_true c1]; rfl)]
        exact x'
      · rw [decide_eq_false (show ¬ V.int (i : Int) = V.int snd from fun z => c1 (by injection z))]
        refine iteT ⟨_, rfl, _, rfl, A.p, C, A.dx, _, _, rfl, x'.ob, TS.cl, TS.liars, rfl, A.tl, _, rfl, .inr (SqT.of x'.tl), rfl, flat_ints _, _, rfl, ?_⟩
        rw [inV_int, q.2.2.2.2.1]
        by_cases c2 : (i : Int) ∈ S.liars
        · rw [show inI (i : Int) S.liars = true from decide_eq_true c2]
          refine iteF ⟨_, rfl, ?_, kp⟩
          rw [stay (by unfold hears inI; rw [decide_eq_true c2]; simp)]
          exact x'
        · rw [show inI (i : Int) S.liars = false from decide_eq_false c2]
          have go : putTo S snd k v (i + 1) = put1 (putTo S snd k v i) ⟨snd, (i : Int), k, v⟩ := by
            show (if hears S snd i = true then _ else _) = _
            rw [hears_iff.mpr ⟨c1, c2⟩]
            rfl
          refine iteT ⟨_, rfl, A.p, A.dx, _, rfl, x'.ob, rfl, _, rfl, _, rfl, _, rfl, _, rfl, A, putTo S snd k v i, ⟨snd, (i : Int), k, v⟩, rfl, x', ap, ?_, (putTo_wf wf s0 s1 i (by omega)).lt, fun H2 x2 kp2 => ⟨_, rfl, ?_, kp.trans kp2⟩⟩
          · have := putTo_len S snd k v i
            omega
          · rw [go]
            exact x2
    · rintro σ H' ⟨v4, rfl, x', kp⟩
      exact kk H' x' kp
abbrev nHearS : List Str := ["self", "hand", "sender", "kind", "value", "due_kind", "due_value"]
theorem scHearS : FnScope nHearS ["self", "hand", "sender", "kind", "value"] (defScope s_Spread_hear) := ⟨rfl, rfl, rfl, by decide +kernel, rfl, by decide +kernel, by decide +kernel⟩
def spHearS (C CE : Addr) : Sp := fun vs H Q _ => ∃ (A : SA) (S : MS) (hand snd : Int) (k : Kd) (v : Int), vs = [.ref A.p, .int hand, .int snd, .str (ks k), .int v] ∧ SpAt C CE A S H ∧ Apart C CE A ∧ WfS S ∧ 0 ≤ hand ∧ hand < S.n ∧ 0 ≤ snd ∧ snd < S.n ∧ (k ≠ .said → snd ≠ hand) ∧ S.slips.length ≤ 8000 ∧
  ∀ H', SpAt C CE A (hearS S hand snd k v) H' → KeepF A H H' → Q .non H'
theorem ok_hearS {f C CE fP fH : Addr} {fd fdP fdH : FuncData} (F : Fun K "_hear" "Spread._hear" s_Spread_hear f fd) (TS : TxS K C) (TE : TxE K CE) (cP : Me P w K mg base 2 C "_put_to_all" ["self", "sender", "kind", "value"] (spPutAll C CE) fP fdP) (cH : Me P w K mg base 3 CE "hear" nHear (spHear CE) fH fdH) : FnOk P w K mg base CX0 4 f fd ["self", "hand", "sender", "kind", "value"] (spHearS C CE) := by
  refine F.ok scHearS (fun vs H Q E h => ?_) (fun cdv A outer s H vs Q E hr h => ?_)
  · obtain ⟨A, S, hand, snd, k, v, rfl, _⟩ := h
    rfl
  · obtain ⟨A, S, hand, snd, k, v, rfl, x, ap, wf, h0, h1, s0, s1, hs, hlen, kk⟩ := h
    have hr2 := hr.mono (show 2 ≤ 3 by decide)
    refine ⟨_, pss_one (ps_for PassesOwn.never rfl (pi_list (pe_me (pe_ix ix_list (pe_fld (pv 0) rfl) (pv 1) (fun _ _ => rfl)) TE.cl cH hr (pa_cons (pv 3) (pa_cons (pv 2) (pa_cons (pv 4) pa_nil))))) (pg_tup rfl (pgs_cons (pg_name (i := 5) scHearS.nd rfl (Or.inl rfl)) (pgs_cons (pg_name (i := 6) scHearS.nd rfl (Or.inl rfl)) pgs_nil)))
      (pss_one (ps_expr (pe_me (pv 0) TS.cl cP hr2 (pa_cons (pv 1) (pa_cons (pv 5) (pa_cons (pv 6) pa_nil))))))), ?_⟩
    obtain ⟨j, rfl⟩ : ∃ j : Nat, hand = (j : Int) := ⟨hand.toNat, by omega⟩
    have hj : j < A.es.length := by
      rw [x.el, wf.el]
      omega
    obtain ⟨y, hy⟩ : ∃ y, A.es[j]? = some y := ⟨A.es[j], List.getElem?_eq_getElem hj⟩
    have he := earOf_at wf h0 h1
    rw [Int.toNat_natCast] at he
    have q := x.ears j y _ hy he
    have we := (wf.ears _ _ he).wfE wf.n12
    refine ⟨_, rfl, A.p, C, A.dx, _, _, rfl, x.ob, TS.cl, TS.ears, rfl, _, rfl, A.le, _, _, _, rfl, rfl, SqL.of x.le, at_of (j := j) (v := .ref y.a) rfl (by rw [List.getElem?_map, hy]; rfl), y.a, y.dx, _, rfl, q.ob, rfl, _, rfl, _, rfl, _, rfl,
      y.a, y.dx, y.d1, y.d2, A.tc, (j : Int), S.first, S.e, S.r, S.d, k, snd, v, _, rfl, q, x.tc, ⟨Nat.le_trans we.l1 (by decide), Nat.le_trans we.l2 (by decide), we.n1, we.n2⟩, hs, fun l H1 dd => ?_⟩
    obtain ⟨as, hl, hsn⟩ := dd.lst
    have hlen2 : (hear (j : Int) S.first S.e S.r S.d k snd v (earOf S (j : Int))).2.length ≤ 2 := doDue_len _ _ _ _ _ _
    have x1 : SpAt C CE A { S with ears := S.ears.set j (hear (j : Int) S.first S.e S.r S.d k snd v (earOf S (j : Int))).1 } H1 := x.ear ap hy dd.keep dd.ear
    have w1 : WfS { S with ears := S.ears.set j (hear (j : Int) S.first S.e S.r S.d k snd v (earOf S (j : Int))).1 } := setEar_wf wf (hear_wf (wf.ears _ _ he) hs s0 s1 h0 h1)
    have eq : hearS S (j : Int) snd k v = putSends { S with ears := S.ears.set j (hear (j : Int) S.first S.e S.r S.d k snd v (earOf S (j : Int))).1 } (j : Int) (hear (j : Int) S.first S.e S.r S.d k snd v (earOf S (j : Int))).2 := rfl
    have kp1 : KeepF A H H1 := keepE_F (List.mem_of_getElem? hy) dd.keep
    have nl : ¬ Fp A l := x.fp dd.l0
    rw [eq] at kk
    generalize (hear (j : Int) S.first S.e S.r S.d k snd v (earOf S (j : Int))).2 = xs at kk hsn hlen2
    generalize hS1 : ({ S with ears := S.ears.set j (hear (j : Int) S.first S.e S.r S.d k snd v (earOf S (j : Int))).1 } : MS) = S1 at kk x1 w1
    have n1 : S1.n = S.n := by rw [← hS1]
    have sl1 : S1.slips = S.slips := by rw [← hS1]
    refine ⟨l, rfl, ⟨_, SqL.of hl⟩, for_list (K := K) (a := l) (xs := as.map V.ref) (fun i σ H' => ∃ v5 v6, σ = [some (.ref A.p), some (.int (j : Int)), some (.int snd), some (.str (ks k)), some (.int v), v5, v6] ∧ SpAt C CE A (putSends S1 (j : Int) (xs.take i)) H' ∧ KeepF A H1 H')
      ⟨none, none, rfl, x1, KeepF.refl A H1⟩ (fun i σ H' _ ⟨_, _, _, _, kp⟩ => SqL.of (kp _ _ hl nl)) ?_ ?_⟩
    · rintro i u σ H' hi ⟨v5, v6, rfl, x', kp⟩
      rw [List.getElem?_map] at hi
      obtain ⟨t, ht, rfl⟩ : ∃ t, as[i]? = some t ∧ u = V.ref t := by
        cases e : as[i]? with
        | none => rw [e] at hi; cases hi
        | some t => rw [e] at hi; exact ⟨t, rfl, (Option.some.inj hi).symm⟩
      obtain ⟨z, hz, htu⟩ := hsn.at ht
      have htk := x1.tupF htu
      have hil : i < xs.length := (List.getElem?_eq_some_iff.mp hz).1
      have tl := putSends_len (j : Int) (xs.take i) S1 (by rw [n1]; exact wf.n12)
      have nk := (putSends_keeps (j : Int) (xs.take i) S1).1
      refine ⟨t, _, rfl, SqT.of (kp _ _ htu htk), rfl, _, _, rfl, _, _, rfl, rfl, ?_⟩
      refine ⟨_, rfl, A.p, A.dx, _, rfl, x'.ob, rfl, _, rfl, _, rfl, _, rfl, A, putSends S1 (j : Int) (xs.take i), (j : Int), z.1, z.2, rfl, x', ap, putSends_wf _ w1 h0 (by rw [n1]; exact h1), h0, by rw [nk, n1]; exact h1, ?_, fun H2 x2 kp2 => ⟨_, _, rfl, ?_, kp.trans kp2⟩⟩
      · rw [List.length_take] at tl
        rw [sl1] at tl
        omega
      · rw [List.take_add_one, hz]
        show SpAt C CE A (putSends S1 (j : Int) (xs.take i ++ [z])) H2
        rw [putSends_snoc]
        exact x2
    · rintro σ H' ⟨v5, v6, rfl, x', kp⟩
      rw [List.length_map, hsn.len, List.take_of_length_le (Nat.le_refl _)] at x'
      exact kk H' x' (kp1.trans kp)
end
end Spr
namespace Spr
open PySem L2
/-! ### deliver -/
def popLog (S : MS) (k : Int) : MS := { S with slips := S.slips.filter (fun x => decide (¬ x.1 = k)), put := S.put, log := S.log ++ [.deliver k] }
theorem dlv_eq (S : MS) (k : Int) (s : Sl) : dlv S k s = hearS (popLog S k) s.to s.frm s.kd s.val := rfl
theorem popLog_wf {S : MS} (w : WfS S) (k : Int) : WfS (popLog S k) := by
  refine ⟨w.n2, w.n12, w.el, w.ears, fun x hx => ?_, ?_, fun x hx => w.lt x (List.mem_filter.mp hx).1, w.lin, w.f0, w.f1⟩
  · obtain ⟨a, b, c, d, e, f⟩ := w.sl x (List.mem_filter.mp hx).1
    exact ⟨a, b, c, d, e, f⟩
  · exact List.Pairwise.sublist (List.Sublist.map _ List.filter_sublist) w.asc
theorem dlv_wf {S : MS} (w : WfS S) {k : Int} {s : Sl} (h : (k, s) ∈ S.slips) : WfS (dlv S k s) := by
  obtain ⟨a, b, c, d, e, f⟩ := w.sl _ h
  rw [dlv_eq]
  exact hearS_wf (popLog_wf w k) c d a b fun _ => f
theorem valV_mem {kvs : List (Key × V)} {k : Key} {v : V} (nd : (kvs.map (·.1)).Nodup) (h : (k, v) ∈ kvs) : valV kvs k = some v := by
  unfold valV
  induction kvs with
  | nil => cases h
  | cons p r ih =>
    obtain ⟨n1, n2⟩ := List.nodup_cons.mp nd
    by_cases e : p.1 = k
    · rw [List.find?_cons_of_pos (by simp [e])]
      rcases List.mem_cons.mp h with q | q
      · rw [← q]
        rfl
      · exact absurd (List.mem_map_of_mem (f := (·.1)) q) (by rw [← e] at *; exact n1)
    · rw [List.find?_cons_of_neg (by simp [e])]
      rcases List.mem_cons.mp h with q | q
      · exact absurd (by rw [← q]) e
      · exact ih n2 q
theorem asc_nodup {l : List Int} (h : l.Pairwise (· < ·)) : l.Nodup := h.imp fun h => by omega
section
variable {P : Program} {w : World} {K : PySem.W.Frag} {mg : Str → Option Value} {base : Heap}
abbrev nDel : List Str := ["self", "number", "sender", "to", "kind", "value"]
theorem scDel : FnScope nDel ["self", "number"] (defScope s_Spread_deliver) := ⟨rfl, rfl, rfl, by decide +kernel, rfl, by decide +kernel, by decide +kernel⟩
def spDel (C CE : Addr) : Sp := fun vs H Q _ => ∃ (A : SA) (S : MS) (k : Int) (s : Sl), vs = [.ref A.p, .int k] ∧ SpAt C CE A S H ∧ Apart C CE A ∧ WfS S ∧ (k, s) ∈ S.slips ∧ S.slips.length ≤ 7000 ∧ S.log.length ≤ 7000 ∧
  ∀ H', SpAt C CE A (dlv S k s) H' → KeepF A H H' → Q .non H'
theorem ok_del {f C CE fI fH : Addr} {fd fdI fdH : FuncData} (F : Fun K "deliver" "Spread.deliver" s_Spread_deliver f fd) (TS : TxS K C) (cI : Ca P w K mg base 1 "is_integer" ["value"] spIsInt fI fdI) (cH : Me P w K mg base 4 C "_hear" ["self", "hand", "sender", "kind", "value"] (spHearS C CE) fH fdH) : FnOk P w K mg base CX0 5 f fd ["self", "number"] (spDel C CE) := by
  refine F.ok scDel (fun vs H Q E h => ?_) (fun cdv A outer s H vs Q E hr h => ?_)
  · obtain ⟨A, S, k, s, rfl, _⟩ := h
    rfl
  · obtain ⟨A, S, k, s, rfl, x, ap, wf, hm, hlen, hlog, kk⟩ := h
    have hu := hu_of hr
    have hr1 := hr.mono (show 1 ≤ 4 by decide)
    refine ⟨_, pss_cons (ps_if (PW.pt (pw_or (pt_not (pt_val (pe_ca cI hr1 (pa_cons (pv 1) pa_nil)))) (pw_or1 (pt_cmp (pc_dnotin hu (pv 1) (pe_fld (pv 0) rfl)))))) pss_never pss_nil)
      (pss_cons (ps_asg (pe_dpop1 (pe_fld (pv 0) rfl) (pv 1) ⟨rfl, rfl, rfl, rfl⟩) (pg_tup rfl (pgs_cons (pg_name (i := 2) scDel.nd rfl (Or.inl rfl)) (pgs_cons (pg_name (i := 3) scDel.nd rfl (Or.inl rfl)) (pgs_cons (pg_name (i := 4) scDel.nd rfl (Or.inl rfl)) (pgs_cons (pg_name (i := 5) scDel.nd rfl (Or.inl rfl)) pgs_nil))))))
      (pss_cons (ps_expr (pe_bm PySem.F.plainAttrs_list PySem.F.slot_list_append PySem.F.type_list_append mt_append (pe_fld (pv 0) rfl) (pa_cons (pe_tup (pa_cons pe_str (pa_cons (pv 1) pa_nil))) pa_nil)))
      (pss_one (ps_expr (pe_me (pv 0) TS.cl cH hr (pa_cons (pv 3) (pa_cons (pv 2) (pa_cons (pv 4) (pa_cons (pv 5) pa_nil))))))))), ?_⟩
    obtain ⟨sg, es, hds, hsg⟩ := x.ds
    obtain ⟨lz, el, hlg, hlz⟩ := x.lg
    have pds : A.p ≠ A.ds := ne_of x.ob hds (by intro z; cases z)
    have plg : A.p ≠ A.lg := ne_of x.ob hlg (by intro z; cases z)
    have dlg : A.ds ≠ A.lg := ne_of hds hlg (by intro z; cases z)
    obtain ⟨y, hy, ey⟩ : ∃ y, y ∈ sg ∧ y.1 = (k, s) := by
      rw [← es] at hm
      obtain ⟨y, hy, e⟩ := List.mem_map.mp hm
      exact ⟨y, hy, e⟩
    have ndk : ((sg.map fun x => ((Sum.inl x.1.1 : Key), V.ref x.2)).map (·.1)).Nodup := by
      have := asc_nodup wf.asc
      rw [← es, List.map_map] at this
      rw [List.map_map]
      have e2 : (sg.map ((·.1) ∘ fun x => ((Sum.inl x.1.1 : Key), V.ref x.2))) = (sg.map ((·.1) ∘ (·.1))).map (fun i => (Sum.inl i : Key)) := by
        rw [List.map_map]
        rfl
      rw [e2]
      exact List.Pairwise.map _ (fun a b h q => h (Sum.inl.inj q)) this
    have hv : valV (sg.map fun x => ((Sum.inl x.1.1 : Key), V.ref x.2)) (Sum.inl k : Key) = some (.ref y.2) := by
      refine valV_mem ndk ?_
      refine List.mem_map.mpr ⟨y, hy, ?_⟩
      rw [ey]
    have hty := hsg y hy
    rw [ey] at hty
    refine ⟨_, rfl, k, rfl, true, rfl, iteF ?_⟩
    refine ⟨_, rfl, _, rfl, A.p, C, A.dx, _, _, rfl, x.ob, TS.cl, TS.slips, rfl, A.ds, _, rfl, DGet.k (k := Sum.inl k) hds, _, rfl, ?_⟩
    rw [hv]
    refine iteF ?_
    refine ⟨_, rfl, A.p, C, A.dx, _, _, rfl, x.ob, TS.cl, TS.slips, rfl, A.ds, rfl, .inl ⟨_, Rd.of hds⟩, _, rfl, _, Sum.inl k, _, hds, rfl, hv, ?_⟩
    have td : y.2 ≠ A.ds := ne_of hty hds (by intro z; cases z)
    refine ⟨y.2, _, rfl, SqT.of ((upd_ne td).trans hty), rfl, _, _, rfl, _, _, rfl, _, _, rfl, _, _, rfl, rfl, ?_⟩
    refine ⟨_, rfl, A.p, C, A.dx, _, _, rfl, (upd_ne pds).trans x.ob, TS.cl, TS.log, rfl, .inl ⟨rfl, _, SqL.of ((upd_ne dlg.symm).trans hlg)⟩, _, rfl, (by show 2 ≤ sizeLine; decide), fun t ht => ?_⟩
    have tds : t ≠ A.ds := fun q => by rw [q, upd_same] at ht; cases ht
    have tlg : t ≠ A.lg := fun q => by rw [q, upd_ne dlg.symm, hlg] at ht; cases ht
    have tp : t ≠ A.p := fun q => by rw [q, upd_ne pds, x.ob] at ht; cases ht
    have h0 : H t = none := by
      rw [upd_ne tds] at ht
      exact ht
    refine ⟨A.lg, _, _, rfl, rfl, (upd_ne tlg.symm).trans ((upd_ne dlg.symm).trans hlg), ?_, ?_⟩
    · rw [List.length_map]
      have : lz.length = S.log.length := by rw [← el, List.length_map]
      exact Nat.lt_of_le_of_lt (by rw [this]; exact hlog) (by decide)
    have x1 : SpAt C CE A (popLog S k) (upd (upd (upd H A.ds (.dK (dropK (sg.map fun x => ((Sum.inl x.1.1 : Key), V.ref x.2)) (Sum.inl k)))) t (.tup [.str "deliver", .int k])) A.lg (.lst ((lz.map fun x => V.ref x.2) ++ [.ref t]))) := by
      refine x.re ap (fun b o e h1 h2 h3 => ?_) ?_ ⟨sg.filter (fun x => decide (¬ x.1.1 = k)), ?_, ?_, fun z hz => ?_⟩ ⟨lz ++ [(.deliver k, t)], by rw [List.map_append, el]; rfl, by rw [upd_same, List.map_append]; rfl, fun z hz => ?_⟩
      · rw [upd_ne h3, upd_ne (ne_of_none e h0), upd_ne h2]
        exact e
      · rw [upd_ne plg, upd_ne tp.symm, upd_ne pds]
        exact x.ob
      · rw [← es, List.filter_map]
        rfl
      · rw [upd_ne dlg, upd_ne tds.symm, upd_same]
        congr 2
        unfold dropK
        rw [List.filter_map]
        congr 1
        apply List.filter_congr
        intro z _
        show decide ((Sum.inl z.1.1 : Key) ≠ Sum.inl k) = decide (¬ z.1.1 = k)
        by_cases q : z.1.1 = k
        · rw [q]; simp
        · rw [decide_eq_true (show (Sum.inl z.1.1 : Key) ≠ Sum.inl k from fun u => q (Sum.inl.inj u)), decide_eq_true q]
      · have h := hsg z (List.mem_filter.mp hz).1
        rw [upd_ne (ne_of h hlg (by intro z; cases z)), upd_ne (ne_of_none h h0), upd_ne (ne_of h hds (by intro z; cases z))]
        exact h
      · rcases List.mem_append.mp hz with q | q
        · have h := hlz z q
          rw [upd_ne (ne_of h hlg (by intro z; cases z)), upd_ne (ne_of_none h h0), upd_ne (ne_of h hds (by intro z; cases z))]
          exact h
        · rw [List.mem_singleton.mp q]
          show upd _ A.lg _ t = _
          rw [upd_ne tlg, upd_same]
          rfl
    obtain ⟨a0, a1, b0, b1, _, ne⟩ := wf.sl _ hm
    refine ⟨_, rfl, A.p, A.dx, _, rfl, x1.ob, rfl, _, rfl, _, rfl, _, rfl, _, rfl, A, popLog S k, s.to, s.frm, s.kd, s.val, rfl, x1, ap, popLog_wf wf k, b0, b1, a0, a1, fun _ => ne, ?_, fun H2 x2 kp2 => ?_⟩
    · exact Nat.le_trans (List.length_filter_le _ _) (Nat.le_trans hlen (by decide))
    · refine kk H2 x2 (KeepF.trans ?_ kp2)
      exact keepF_upd (keepF_upd (keepF_upd (KeepF.refl A H) (.inl (.inr (.inl rfl)))) (.inr h0)) (.inl (.inr (.inr (.inl rfl))))
end
end Spr
namespace Spr
open PySem L2
/-! ### rest -/
def potE (E : ME) : Nat := (if E.echoed = none then 1 else 0) + (if E.promised = none then 1 else 0)
def sumN : List Nat → Nat
  | [] => 0
  | x :: xs => x + sumN xs
def pot (S : MS) : Nat := S.slips.length + 12 * sumN (S.ears.map potE)
theorem sumN_set {f : ME → Nat} : ∀ {l : List ME} {j : Nat} {x y : ME}, l[j]? = some x → sumN ((l.set j y).map f) + f x = sumN (l.map f) + f y
  | [], j, x, y, h => by simp at h
  | a :: r, 0, x, y, h => by
    have e : a = x := Option.some.inj h
    subst e
    show f y + sumN (r.map f) + f a = f a + sumN (r.map f) + f y
    omega
  | a :: r, j + 1, x, y, h => by
    have ih := sumN_set (f := f) (l := r) (j := j) (x := x) (y := y) h
    show f a + sumN ((r.set j y).map f) + f x = f a + sumN (r.map f) + f y
    omega
theorem due1_pot (hand : Int) (E : ME) : (due1 hand E).2.length + potE (due1 hand E).1 = potE E := by
  unfold due1 potE
  obtain ⟨told, ef, pf, ec, pr, tk⟩ := E
  cases told with
  | none => simp
  | some u =>
    cases ec with
    | some z => simp
    | none =>
      show 1 + (0 + (if pr = none then 1 else 0)) = 1 + (if pr = none then 1 else 0)
      omega
theorem due2_pot (hand e r v : Int) (E : ME) : (due2 hand e r v E).2.length + potE (due2 hand e r v E).1 = potE E := by
  unfold due2
  split
  · rename_i c
    unfold potE
    rw [c.2]
    simp
    omega
  · simp
theorem due3_pot (d v : Int) (E : ME) : potE (due3 d v E) = potE E := by
  unfold due3
  split <;> rfl
theorem hear0_pot (first : Int) (k : Kd) (snd v : Int) (E : ME) : potE (hear0 first k snd v E) = potE E := by
  cases k with
  | said =>
    unfold hear0
    dsimp only
    split <;> rfl
  | echo => rfl
  | prom => rfl
theorem hear_pot (hand first e r d : Int) (k : Kd) (snd v : Int) (E : ME) : (hear hand first e r d k snd v E).2.length + potE (hear hand first e r d k snd v E).1 = potE E := by
  unfold hear doDue
  have h1 := due1_pot hand (hear0 first k snd v E)
  have h2 := due2_pot hand e r v (due1 hand (hear0 first k snd v E)).1
  rw [due3_pot, List.length_append]
  have h0 := hear0_pot first k snd v E
  omega
theorem hearS_pot {S : MS} (w : WfS S) {hand snd : Int} {k : Kd} {v : Int} (h0 : 0 ≤ hand) (h1 : hand < S.n) : pot (hearS S hand snd k v) ≤ pot S := by
  have e := earOf_at w h0 h1
  have hp := hear_pot hand S.first S.e S.r S.d k snd v (earOf S hand)
  have hs := sumN_set (f := potE) (y := (hear hand S.first S.e S.r S.d k snd v (earOf S hand)).1) e
  unfold hearS
  generalize (hear hand S.first S.e S.r S.d k snd v (earOf S hand)).2 = xs at hp
  generalize (hear hand S.first S.e S.r S.d k snd v (earOf S hand)).1 = E' at hp hs
  have hl := putSends_len hand xs { S with ears := S.ears.set hand.toNat E' } w.n12
  have hk := (putSends_keeps hand xs { S with ears := S.ears.set hand.toNat E' }).2.2.2.2.2.2.2.1
  unfold pot
  rw [hk]
  dsimp only at *
  omega
theorem filter_lt {S : MS} {k : Int} {s : Sl} (h : (k, s) ∈ S.slips) : (S.slips.filter fun x => decide (¬ x.1 = k)).length < S.slips.length := by
  have : ∀ l : List (Int × Sl), (k, s) ∈ l → (l.filter fun x => decide (¬ x.1 = k)).length < l.length := by
    intro l
    induction l with
    | nil => intro h; cases h
    | cons x r ih =>
      intro h
      by_cases e : x.1 = k
      · rw [List.filter_cons, if_neg (by simp [e]), List.length_cons]
        exact Nat.lt_succ_of_le (List.length_filter_le _ _)
      · rw [List.filter_cons, if_pos (by simp [e]), List.length_cons, List.length_cons]
        rcases List.mem_cons.mp h with q | q
        · exact absurd (by rw [← q]) e
        · exact Nat.succ_lt_succ (ih q)
  exact this _ h
theorem dlv_pot {S : MS} (w : WfS S) {k : Int} {s : Sl} (h : (k, s) ∈ S.slips) : pot (dlv S k s) < pot S := by
  obtain ⟨a, b, c, d, e, f⟩ := w.sl _ h
  rw [dlv_eq]
  refine Nat.lt_of_le_of_lt (hearS_pot (popLog_wf w k) c d) ?_
  show (S.slips.filter fun x => decide (¬ x.1 = k)).length + 12 * sumN (S.ears.map potE) < S.slips.length + 12 * sumN (S.ears.map potE)
  have := filter_lt h
  omega
def stepR (S : MS) : MS := match S.slips with
  | [] => S
  | x :: _ => dlv S x.1 x.2
def restN : Nat → MS → MS
  | 0, S => S
  | i + 1, S => restN i (stepR S)
theorem restN_succ : ∀ (i : Nat) (S : MS), restN (i + 1) S = stepR (restN i S)
  | 0, _ => rfl
  | i + 1, S => by
    show restN (i + 1) (stepR S) = stepR (restN i (stepR S))
    exact restN_succ i (stepR S)
theorem hearS_keeps (S : MS) (hand snd : Int) (k : Kd) (v : Int) : (hearS S hand snd k v).n = S.n ∧ (hearS S hand snd k v).e = S.e ∧ (hearS S hand snd k v).r = S.r ∧ (hearS S hand snd k v).d = S.d ∧ (hearS S hand snd k v).liars = S.liars ∧ (hearS S hand snd k v).first = S.first ∧ (hearS S hand snd k v).value = S.value ∧ (hearS S hand snd k v).log = S.log := by
  have h := putSends_keeps hand (hear hand S.first S.e S.r S.d k snd v (earOf S hand)).2 { S with ears := S.ears.set hand.toNat (hear hand S.first S.e S.r S.d k snd v (earOf S hand)).1 }
  exact ⟨h.1, h.2.1, h.2.2.1, h.2.2.2.1, h.2.2.2.2.1, h.2.2.2.2.2.1, h.2.2.2.2.2.2.1, h.2.2.2.2.2.2.2.2⟩
theorem dlv_log (S : MS) (k : Int) (s : Sl) : (dlv S k s).log = S.log ++ [.deliver k] := (hearS_keeps (popLog S k) s.to s.frm s.kd s.val).2.2.2.2.2.2.2
section
variable {P : Program} {w : World} {K : PySem.W.Frag} {mg : Str → Option Value} {base : Heap}
theorem scRest : FnScope ["self", "many"] ["self"] (defScope s_Spread_rest) := ⟨rfl, rfl, rfl, by decide +kernel, rfl, by decide +kernel, by decide +kernel⟩
def spRest (C CE : Addr) : Sp := fun vs H Q _ => ∃ (A : SA) (S : MS), vs = [.ref A.p] ∧ SpAt C CE A S H ∧ Apart C CE A ∧ WfS S ∧ S.log.length + pot S ≤ 7000 ∧
  ∀ (m : Nat) H', (restN m S).slips = [] → (∀ j, j < m → (restN j S).slips ≠ []) → WfS (restN m S) → (restN m S).log.length + pot (restN m S) ≤ S.log.length + pot S → SpAt C CE A (restN m S) H' → KeepF A H H' → Q (.int m) H'
theorem ok_rest {f C CE fD : Addr} {fd fdD : FuncData} (F : Fun K "rest" "Spread.rest" s_Spread_rest f fd) (T : Bn mg) (TS : TxS K C) (cD : Me P w K mg base 5 C "deliver" ["self", "number"] (spDel C CE) fD fdD) : FnOk P w K mg base CX0 6 f fd ["self"] (spRest C CE) := by
  refine F.ok scRest (fun vs H Q E h => ?_) (fun cdv A outer s H vs Q E hr h => ?_)
  · obtain ⟨A, S, rfl, _⟩ := h
    rfl
  · obtain ⟨A, S, rfl, x, ap, wf, hb, kk⟩ := h
    refine ⟨_, pss_cons (ps_set (i := 1) scRest.nd rfl (Or.inl rfl) pe_int)
      (pss_cons (ps_while PassesOwn.never (pt_truth (pe_fld (pv 0) rfl) (by intro _; rfl))
        (pss_cons (ps_expr (pe_me (pv 0) TS.cl cD hr (pa_cons (pe_callB (cr_min rfl) (by rfl) T.min (by decide +kernel) (pa_cons (pe_callTy (call_listD rfl) (by rfl) T.list (by decide +kernel) (pa_cons (pe_fld (pv 0) rfl) pa_nil)) pa_nil)) pa_nil)))
        (pss_one (ps_aug (i := 1) scRest.nd rfl (Or.inl rfl) pe_int ip_add))))
      (pss_one (ps_ret (pv 1)))), ?_⟩
    refine ⟨fun m σ H' => ∃ i : Nat, m = pot (restN i S) ∧ σ = [some (.ref A.p), some (.int (i : Int))] ∧ SpAt C CE A (restN i S) H' ∧ WfS (restN i S) ∧ (restN i S).log.length + pot (restN i S) ≤ S.log.length + pot S ∧ (∀ j, j < i → (restN j S).slips ≠ []) ∧ KeepF A H H',
      ⟨pot S, 0, rfl, rfl, x, wf, Nat.le_refl _, fun j hj => absurd hj (Nat.not_lt_zero j), KeepF.refl A H⟩, ?_⟩
    rintro m σ H' ⟨i, rfl, rfl, x', w', hb', hne, kp⟩
    obtain ⟨sg, es, hds, hsg⟩ := x'.ds
    refine ⟨_, rfl, A.p, C, A.dx, _, _, rfl, x'.ob, TS.cl, TS.slips, rfl, _, .inr (.inr ⟨_, hds, rfl⟩), ?_⟩
    have hlen : sg.length = (restN i S).slips.length := by rw [← es, List.length_map]
    cases hsl : (restN i S).slips with
    | nil =>
      rw [hsl] at hlen
      have : sg = [] := List.length_eq_zero_iff.mp hlen
      subst this
      refine iteF ⟨_, rfl, ?_⟩
      exact kk i H' hsl hne w' hb' x' kp
    | cons y ys =>
      have hgt : (!(sg.map fun x => ((Sum.inl x.1.1 : Key), V.ref x.2)).isEmpty) = true := by
        cases sg with
        | nil => rw [hsl] at es; cases es
        | cons z zs => rfl
      rw [hgt]
      refine iteT ⟨fun σ2 H2 => σ2 = [some (.ref A.p), some (.int ((i + 1 : Nat) : Int))] ∧ SpAt C CE A (dlv (restN i S) y.1 y.2) H2 ∧ KeepF A H H2, ?_, ?_⟩
      · rintro σ2 H2 ⟨rfl, x2, kp2⟩
        have hy : (y.1, y.2) ∈ (restN i S).slips := by rw [hsl]; exact List.mem_cons_self
        have e1 : restN (i + 1) S = dlv (restN i S) y.1 y.2 := by
          rw [restN_succ]
          unfold stepR
          rw [hsl]
        have hp := dlv_pot w' hy
        refine ⟨pot (dlv (restN i S) y.1 y.2), hp, i + 1, by rw [e1], rfl, by rw [e1]; exact x2, by rw [e1]; exact dlv_wf w' hy, ?_, fun j hj => ?_, kp2⟩
        · rw [e1, dlv_log, List.length_append]
          show (restN i S).log.length + 1 + _ ≤ _
          omega
        · by_cases q : j = i
          · rw [q, hsl]
            exact List.cons_ne_nil _ _
          · exact hne j (by omega)
      · have hy : (y.1, y.2) ∈ (restN i S).slips := by rw [hsl]; exact List.mem_cons_self
        have hpl : (restN i S).slips.length ≤ pot (restN i S) := Nat.le_add_right _ _
        refine ⟨_, rfl, A.p, A.dx, _, rfl, x'.ob, rfl, _, rfl, A.p, C, A.dx, _, _, rfl, x'.ob, TS.cl, TS.slips, rfl, A.ds, _, rfl, Rd.of hds, fun t ht => ?_⟩
        have sm : Same H' (upd H' t (.lst ((sg.map fun x => ((Sum.inl x.1.1 : Key), V.ref x.2)).map fun kv => kV kv.1))) := same_new ht
        have ens : ((sg.map fun x => ((Sum.inl x.1.1 : Key), V.ref x.2)).map fun kv => kV kv.1) = ((restN i S).slips.map (·.1)).map V.int := by
          rw [← es, List.map_map, List.map_map, List.map_map]
          rfl
        refine ⟨t, (restN i S).slips.map (·.1), rfl, SqL.of (by rw [upd_same, ens]), by rw [hsl]; exact Nat.succ_pos _, fun mn hm1 hm2 => ?_⟩
        have emn : mn = y.1 := by
          have asc := w'.asc
          rw [hsl] at asc hm1 hm2
          have h1 := hm2 y.1 (List.mem_cons_self)
          rcases List.mem_cons.mp hm1 with q | q
          · exact q
          · have : y.1 < mn := (List.pairwise_cons.mp asc).1 _ q
            omega
        subst emn
        refine ⟨A, restN i S, y.1, y.2, rfl, x'.same sm, ap, w', hy, by omega, by omega, fun H2 x2 kp2 => ?_⟩
        exact ⟨_, rfl, _, _, rfl, rfl, rfl, x2, KeepF.trans (kp.same sm) kp2⟩
end
end Spr
namespace Spr
open PySem L2
def logLie (S : MS) (l t : Int) (k : Kd) (v : Int) : MS := { S with slips := S.slips, put := S.put, log := S.log ++ [.lie l t k v] }
theorem lieS_eq (S : MS) (l t : Int) (k : Kd) (v : Int) : lieS S l t k v = put1 (logLie S l t k v) ⟨l, t, k, v⟩ := rfl
theorem honest_iff {S : MS} {h : Int} : honest S h = true ↔ 0 ≤ h ∧ h < S.n ∧ h ∉ S.liars := by
  unfold honest inI
  simp [and_assoc]
theorem lieS_wf {S : MS} (w : WfS S) {l t : Int} {k : Kd} {v : Int} (hl : l ∈ S.liars) (ht : honest S t = true) : WfS (lieS S l t k v) := by
  obtain ⟨t0, t1, t2⟩ := honest_iff.mp ht
  obtain ⟨l0, l1⟩ := w.lin l hl
  rw [lieS_eq]
  exact put1_wf (S := logLie S l t k v) ⟨w.n2, w.n12, w.el, w.ears, fun x hx => by obtain ⟨a, b, c, d, e, f⟩ := w.sl x hx; exact ⟨a, b, c, d, e, f⟩, w.asc, w.lt, w.lin, w.f0, w.f1⟩ ⟨l0, l1, t0, t1, t2, fun q => t2 (by have q : l = t := q; rw [← q]; exact hl)⟩
/-- the text's table of kinds -/
structure Kt (K : PySem.W.Frag) (mg : Str → Option Value) : Prop where
  k : ∃ a, mg "KINDS" = some (.ref a) ∧ ∀ H, SqT K H a [.str "said", .str "echo", .str "promise"]
theorem ks_in (k : Kd) : inV (.str (ks k)) [.str "said", .str "echo", .str "promise"] = true := by
  cases k <;> decide +kernel
section
variable {P : Program} {w : World} {K : PySem.W.Frag} {mg : Str → Option Value} {base : Heap}
abbrev nLie : List Str := ["self", "liar", "to", "kind", "value"]
theorem scLie : FnScope nLie nLie (defScope s_Spread_lie) := ⟨rfl, rfl, rfl, by decide +kernel, rfl, by decide +kernel, by decide +kernel⟩
def spLie (C CE : Addr) : Sp := fun vs H Q _ => ∃ (A : SA) (S : MS) (l t : Int) (k : Kd) (v : Int), vs = [.ref A.p, .int l, .int t, .str (ks k), .int v] ∧ SpAt C CE A S H ∧ Apart C CE A ∧ WfS S ∧ l ∈ S.liars ∧ honest S t = true ∧ 0 ≤ v ∧ v ≤ 99 ∧ S.slips.length ≤ 7000 ∧ S.log.length ≤ 7000 ∧
  ∀ H', SpAt C CE A (lieS S l t k v) H' → KeepF A H H' → Q (.int S.put) H'
theorem ok_lie {f C CE f1 f2 f3 f4 : Addr} {fd d1 d2 d3 d4 : FuncData} (F : Fun K "lie" "Spread.lie" s_Spread_lie f fd) (T : Bn mg) (KT : Kt K mg) (TS : TxS K C) (cI : Ca P w K mg base 1 "is_integer" ["value"] spIsInt f1 d1) (cH : Me P w K mg base 4 C "_is_honest" ["self", "hand"] (spHon C CE) f2 d2)
    (cS : Ca P w K mg base 3 "is_spread" ["value"] spIsSpread f3 d3) (cP : Me P w K mg base 1 C "_put" ["self", "sender", "to", "kind", "value"] (spPut C CE) f4 d4) : FnOk P w K mg base CX0 5 f fd nLie (spLie C CE) := by
  refine F.ok scLie (fun vs H Q E h => ?_) (fun cdv A outer s H vs Q E hr h => ?_)
  · obtain ⟨A, S, l, t, k, v, rfl, _⟩ := h
    rfl
  · obtain ⟨A, S, l, t, k, v, rfl, x, ap, wf, hl, ht, v0, v1, hlen, hlog, kk⟩ := h
    have hr1 := hr.mono (show 1 ≤ 4 by decide)
    have hr3 := hr.mono (show 3 ≤ 4 by decide)
    obtain ⟨aK, mK, qK⟩ := KT.k
    refine ⟨_, pss_cons (ps_if (PW.pt (pw_or (pt_not (pt_val (pe_ca cI hr1 (pa_cons (pv 1) pa_nil)))) (pw_or1 (pt_cmpR op_notIn_seq (pv 1) (pe_fld (pv 0) rfl) (by rfl))))) pss_never pss_nil)
      (pss_cons (ps_if (pt_not (pt_val (pe_me (pv 0) TS.cl cH hr (pa_cons (pv 2) pa_nil)))) pss_never pss_nil)
      (pss_cons (ps_if (PW.pt (pw_or (pt_not (pt_val (pe_callB call_isi (by rfl) T.isi (by decide +kernel) (pa_cons (pv 3) (pa_cons (pe_bltn (v := .ty "str") (by rfl) T.str (by decide +kernel) rfl) pa_nil))))) (pw_or1 (pt_cmpR op_notIn_seq (pv 3) (pe_glob (v := .ref aK) rfl mK rfl) (by rfl))))) pss_never pss_nil)
      (pss_cons (ps_if (pt_not (pt_val (pe_ca cS hr3 (pa_cons (pv 4) pa_nil)))) pss_never pss_nil)
      (pss_cons (ps_expr (pe_bm PySem.F.plainAttrs_list PySem.F.slot_list_append PySem.F.type_list_append mt_append (pe_fld (pv 0) rfl) (pa_cons (pe_tup (pa_cons pe_str (pa_cons (pv 1) (pa_cons (pv 2) (pa_cons (pv 3) (pa_cons (pv 4) pa_nil)))))) pa_nil)))
      (pss_one (ps_ret (pe_me (pv 0) TS.cl cP hr1 (pa_cons (pv 1) (pa_cons (pv 2) (pa_cons (pv 3) (pa_cons (pv 4) pa_nil))))))))))), ?_⟩
    refine ⟨_, rfl, l, rfl, true, rfl, iteF ?_⟩
    refine ⟨_, rfl, _, rfl, A.p, C, A.dx, _, _, rfl, x.ob, TS.cl, TS.liars, rfl, A.tl, _, rfl, .inr (SqT.of x.tl), rfl, flat_ints _, _, rfl, ?_⟩
    rw [inV_int, show inI l S.liars = true from decide_eq_true hl]
    refine iteF ⟨_, rfl, A.p, A.dx, _, rfl, x.ob, rfl, _, rfl, A, S, t, rfl, x, _, rfl, ?_⟩
    rw [ht]
    refine iteF ⟨_, rfl, .str (ks k), _, _, _, true, rfl, .ty "str", .base (.str _), kit_ty (by decide +kernel), true, rfl, iteF ?_⟩
    refine ⟨_, rfl, aK, _, rfl, .inr (qK H), rfl, rfl, _, rfl, ?_⟩
    rw [ks_in]
    refine iteF ⟨_, rfl, v, rfl, _, rfl, ?_⟩
    rw [decide_eq_true (show 0 ≤ v ∧ v ≤ 99 from ⟨v0, v1⟩)]
    refine iteF ?_
    obtain ⟨lz, el, hlg, hlz⟩ := x.lg
    obtain ⟨sg, es, hds, hsg⟩ := x.ds
    have plg : A.p ≠ A.lg := ne_of x.ob hlg (by intro z; cases z)
    have dlg : A.ds ≠ A.lg := ne_of hds hlg (by intro z; cases z)
    refine ⟨_, rfl, A.p, C, A.dx, _, _, rfl, x.ob, TS.cl, TS.log, rfl, .inl ⟨rfl, _, SqL.of hlg⟩, _, rfl, _, rfl, _, rfl, _, rfl, (by show 5 ≤ sizeLine; decide), fun u hu' => ?_⟩
    have ulg : u ≠ A.lg := fun q => by rw [q, hlg] at hu'; cases hu'
    have up : u ≠ A.p := fun q => by rw [q, x.ob] at hu'; cases hu'
    have ud : u ≠ A.ds := fun q => by rw [q, hds] at hu'; cases hu'
    refine ⟨A.lg, _, _, rfl, rfl, (upd_ne ulg.symm).trans hlg, ?_, ?_⟩
    · rw [List.length_map]
      have : lz.length = S.log.length := by rw [← el, List.length_map]
      exact Nat.lt_of_le_of_lt (by rw [this]; exact hlog) (by decide)
    have x1 : SpAt C CE A (logLie S l t k v) (upd (upd H u (.tup [.str "lie", .int l, .int t, .str (ks k), .int v])) A.lg (.lst ((lz.map fun x => V.ref x.2) ++ [.ref u]))) := by
      refine x.re ap (fun b o e h1 h2 h3 => ?_) ?_ ⟨sg, es, ?_, fun z hz => ?_⟩ ⟨lz ++ [(.lie l t k v, u)], by rw [List.map_append, el]; rfl, by rw [upd_same, List.map_append]; rfl, fun z hz => ?_⟩
      · rw [upd_ne h3, upd_ne (ne_of_none e hu')]
        exact e
      · rw [upd_ne plg, upd_ne up.symm]
        exact x.ob
      · rw [upd_ne dlg, upd_ne ud.symm]
        exact hds
      · have h := hsg z hz
        rw [upd_ne (ne_of h hlg (by intro z; cases z)), upd_ne (ne_of_none h hu')]
        exact h
      · rcases List.mem_append.mp hz with q | q
        · have h := hlz z q
          rw [upd_ne (ne_of h hlg (by intro z; cases z)), upd_ne (ne_of_none h hu')]
          exact h
        · rw [List.mem_singleton.mp q]
          show upd _ A.lg _ u = _
          rw [upd_ne ulg, upd_same]
          rfl
    refine ⟨_, rfl, A.p, A.dx, _, rfl, x1.ob, rfl, _, rfl, _, rfl, _, rfl, _, rfl, A, logLie S l t k v, ⟨l, t, k, v⟩, rfl, x1, ap, Nat.le_trans hlen (by decide), wf.lt, fun H2 x2 kp2 => ?_⟩
    exact kk H2 x2 (KeepF.trans (keepF_upd (keepF_upd (KeepF.refl A H) (.inr hu')) (.inl (.inr (.inr (.inl rfl))))) kp2)
def spUsual : Sp := fun vs H Q _ => ∃ n t : Int, vs = [.int n, .int t] ∧ 2 ≤ n ∧ n ≤ 12 ∧ 0 ≤ t ∧ t ≤ 9 ∧ t < n ∧ ∀ p, H p = none → Q (.ref p) (upd H p (.tup [.int ((n + t) / 2 + 1), .int (t + 1), .int (2 * t + 1)]))
theorem scUsual : FnScope ["n", "t"] ["n", "t"] (defScope s_usual) := ⟨rfl, rfl, rfl, by decide +kernel, rfl, by decide +kernel, by decide +kernel⟩
theorem ok_usual {f f1 f2 : Addr} {fd d1 d2 : FuncData} (F : Fun K "usual" "usual" s_usual f fd) (N : Cn mg) (c1 : Ca P w K mg base 3 "check_number" ["n"] spChkNumber f1 d1) (c2 : Ca P w K mg base 2 "is_from" ["value", "low", "high"] spIsFrom f2 d2) : FnOk P w K mg base CX0 4 f fd ["n", "t"] spUsual := by
  refine F.ok scUsual (fun vs H Q E h => ?_) (fun cdv A outer s H vs Q E hr h => ?_)
  · obtain ⟨n, t, rfl, _⟩ := h
    rfl
  · obtain ⟨n, t, rfl, h1, h2, t0, t1, t2, k⟩ := h
    have hr2 := hr.mono (show 2 ≤ 3 by decide)
    obtain ⟨t9, m9⟩ := N.c9
    refine ⟨_, pss_cons (ps_expr (pe_ca c1 hr (pa_cons (pv 0) pa_nil)))
      (pss_cons (ps_if (PW.pt (pw_or (pt_not (pt_val (pe_ca c2 hr2 (pa_cons (pv 1) (pa_cons pe_int (pa_cons (pe_glob (v := .int 9) rfl m9 ⟨_, rfl⟩) pa_nil)))))) (pw_or1 (pt_cmpR op_ge (pv 1) (pv 0) (nomark _))))) pss_never pss_nil)
      (pss_one (ps_ret (pe_tup (pa_cons (pe_op op_add (pe_op op_fdiv (pe_op op_add (pv 0) (pv 1)) pe_int) pe_int) (pa_cons (pe_op op_add (pv 1) pe_int) (pa_cons (pe_op op_add (pe_op op_mul pe_int (pv 1)) pe_int) pa_nil))))))), ?_⟩
    refine ⟨_, rfl, n, rfl, h1, h2, ?_⟩
    refine ⟨_, rfl, t, 0, 9, rfl, _, rfl, ?_⟩
    rw [decide_eq_true (show 0 ≤ t ∧ t ≤ 9 from ⟨t0, t1⟩)]
    refine iteF ⟨_, rfl, _, rfl, _, _, rfl, rfl, _, rfl, ?_⟩
    rw [decide_eq_false (show ¬ n ≤ t by omega)]
    refine iteF ⟨_, rfl, _, rfl, _, _, rfl, rfl, _, _, rfl, rfl, ⟨by decide, by decide⟩, _, _, rfl, rfl, _, rfl, _, _, rfl, rfl, _, rfl, _, _, rfl, rfl, .inl ⟨by decide, by decide⟩, _, _, rfl, rfl, (by show 3 ≤ sizeLine; decide), fun p hp => ?_⟩
    exact k p hp
end
end Spr
namespace Spr
open PySem L2
/-! ### a Spread is made -/
structure MkP (n : Nat) (e r d : Int) (liars : List Int) (first : Int) (value : Option Int) : Prop where
  n2 : 2 ≤ n
  n12 : n ≤ 12
  cs : ∀ c ∈ [e, r, d], 1 ≤ c ∧ c ≤ 20
  lin : ∀ l ∈ liars, 0 ≤ l ∧ l < (n : Int)
  asc : Asc liars
  fewer : liars.length < n
  f0 : 0 ≤ first
  f1 : first < (n : Int)
  v0 : first ∈ liars → value = none
  v1 : first ∉ liars → ∃ i, value = some i ∧ 0 ≤ i ∧ i ≤ 99
theorem init0_wf {n : Nat} {e r d : Int} {liars : List Int} {first : Int} {value : Option Int} (p : MkP n e r d liars first value) : WfS (init0 n e r d liars first value) := by
  refine ⟨p.n2, p.n12, List.length_replicate, fun i E hi => ?_, (fun x hx => by cases hx), List.Pairwise.nil, (fun x hx => by cases hx), p.lin, p.f0, p.f1⟩
  have : E = ⟨none, [], [], none, none, none⟩ := List.eq_of_mem_replicate (List.mem_of_getElem? hi)
  rw [this]
  exact ⟨List.nodup_nil, List.nodup_nil, (fun x hx => by cases hx), (fun x hx => by cases hx), fun _ => rfl, fun _ => rfl⟩
theorem initS_wf {n : Nat} {e r d : Int} {liars : List Int} {first : Int} {value : Option Int} (p : MkP n e r d liars first value) : WfS (initS n e r d liars first value) := by
  have w := init0_wf p
  unfold initS
  cases value with
  | none => exact w
  | some v =>
    dsimp only
    split
    · exact w
    · have w1 : WfS (putAll (init0 n e r d liars first (some v)) first .said v) := putAll_wf w p.f0 p.f1
      have en : (putAll (init0 n e r d liars first (some v)) first .said v).n = n := (putTo_keeps _ _ _ _ _).1
      exact hearS_wf w1 p.f0 (by rw [en]; exact p.f1) p.f0 (by rw [en]; exact p.f1) (fun q => absurd rfl q)
section
variable {P : Program} {w : World} {K : PySem.W.Frag} {mg : Str → Option Value} {base : Heap}
abbrev nInit : List Str := ["self", "n", "counts", "liars", "first", "value", "hand"]
theorem scInit : FnScope nInit ["self", "n", "counts", "liars", "first", "value"] (defScope s_Spread_init) := ⟨rfl, rfl, rfl, by decide +kernel, rfl, by decide +kernel, by decide +kernel⟩
def spInit (C CE : Addr) : Sp := fun vs H Q _ => ∃ (p dx tc tl : Addr) (n : Nat) (e r d : Int) (liars : List Int) (first : Int) (value : Option Int), vs = [.ref p, .int (n : Int), .ref tc, .ref tl, .int first, ov value] ∧ H p = some (.ins C dx []) ∧ H tc = some (.tup [.int e, .int r, .int d]) ∧ H tl = some (.tup (liars.map V.int)) ∧ MkP n e r d liars first value ∧
  ∀ (A : SA) (H' : Hp), A.p = p → A.tc = tc → A.tl = tl → SpAt C CE A (initS n e r d liars first value) H' → Apart C CE A → (∀ b o, H b = some o → b ≠ p → H' b = some o) → (∀ b, Fp A b → b = p ∨ H b = none) → Q .non H'
/-- the ears made so far -/
structure Made (CE : Addr) (H1 : Hp) (D tc : Addr) (first : Int) (es : List EA) (H : Hp) : Prop where
  same : Same H1 H
  lst : H D = some (.lst (es.map fun x => V.ref x.a))
  ears : ∀ (j : Nat) (x : EA), es[j]? = some x → EarAt CE H x.a x.dx x.d1 x.d2 j tc first ME0
  nda : (es.map (·.a)).Nodup
  ndd : (es.map (·.d1) ++ es.map (·.d2)).Nodup
  new : ∀ x ∈ es, H1 x.a = none ∧ H1 x.d1 = none ∧ H1 x.d2 = none
theorem Made.in1 {CE : Addr} {H1 : Hp} {D tc : Addr} {first : Int} {es : List EA} {H : Hp} (m : Made CE H1 D tc first es H) {x : EA} (hx : x ∈ es) : (∃ dx fs, H x.a = some (.ins CE dx fs)) ∧ (∃ q, H x.d1 = some (.dK q)) ∧ ∃ q, H x.d2 = some (.dK q) := by
  obtain ⟨j, hj⟩ := List.mem_iff_getElem?.mp hx
  have q := m.ears j x hj
  exact ⟨⟨_, _, q.ob⟩, ⟨_, q.h1⟩, ⟨_, q.h2⟩⟩
theorem nodup_dd {es : List EA} {x : EA} (h : (es.map (·.d1) ++ es.map (·.d2)).Nodup) (n1 : ∀ y ∈ es, y.d1 ≠ x.d1 ∧ y.d2 ≠ x.d1 ∧ y.d1 ≠ x.d2 ∧ y.d2 ≠ x.d2) (n2 : x.d1 ≠ x.d2) : ((es ++ [x]).map (·.d1) ++ (es ++ [x]).map (·.d2)).Nodup := by
  obtain ⟨h1, h2, h3⟩ := List.nodup_append.mp h
  rw [List.map_append, List.map_append]
  refine List.nodup_append.mpr ⟨nd_snoc h1 fun z => ?_, nd_snoc h2 fun z => ?_, fun a ha b hb => ?_⟩
  · obtain ⟨y, hy, e⟩ := List.mem_map.mp z
    exact (n1 y hy).1 e
  · obtain ⟨y, hy, e⟩ := List.mem_map.mp z
    exact (n1 y hy).2.2.2 e
  · rcases List.mem_append.mp ha with q | q
    · rcases List.mem_append.mp hb with z | z
      · exact h3 a q b z
      · obtain ⟨y, hy, e⟩ := List.mem_map.mp q
        rw [List.mem_singleton.mp z, ← e]
        exact (n1 y hy).2.2.1
    · rw [List.mem_singleton.mp q]
      rcases List.mem_append.mp hb with z | z
      · obtain ⟨y, hy, e⟩ := List.mem_map.mp z
        rw [← e]
        exact Ne.symm (n1 y hy).2.1
      · rw [List.mem_singleton.mp z]
        exact n2
def g6 (n : Nat) (tc tl : Addr) (first : Int) (value : Option Int) (D : Addr) : List (Str × V) := [("n", .int (n : Int)), ("counts", .ref tc), ("liars", .ref tl), ("first", .int first), ("_value", ov value), ("_ears", .ref D)]
def g7 (n : Nat) (tc tl : Addr) (first : Int) (value : Option Int) (D ds : Addr) : List (Str × V) := [("n", .int (n : Int)), ("counts", .ref tc), ("liars", .ref tl), ("first", .int first), ("_value", ov value), ("_ears", .ref D), ("_slips", .ref ds)]
def g8 (n : Nat) (tc tl : Addr) (first : Int) (value : Option Int) (D ds : Addr) : List (Str × V) := [("n", .int (n : Int)), ("counts", .ref tc), ("liars", .ref tl), ("first", .int first), ("_value", ov value), ("_ears", .ref D), ("_slips", .ref ds), ("_put_ever", .int 0)]
def g9 (n : Nat) (tc tl : Addr) (first : Int) (value : Option Int) (D ds lg : Addr) : List (Str × V) := [("n", .int (n : Int)), ("counts", .ref tc), ("liars", .ref tl), ("first", .int first), ("_value", ov value), ("_ears", .ref D), ("_slips", .ref ds), ("_put_ever", .int 0), ("_log", .ref lg)]
def h12 (H6 : Hp) (C p dx : Addr) (n : Nat) (tc tl : Addr) (first : Int) (value : Option Int) (D ds lg : Addr) : Hp :=
  upd (upd (upd (upd (upd (upd H6 p (.ins C dx (g6 n tc tl first value D))) ds (.dK [])) p (.ins C dx (g7 n tc tl first value D ds))) p (.ins C dx (g8 n tc tl first value D ds))) lg (.lst [])) p (.ins C dx (g9 n tc tl first value D ds lg))
theorem ok_init {f C CE f1 f2 f3 f4 : Addr} {fd e1 e2 e3 e4 : FuncData} (F : Fun K "__init__" "Spread.__init__" s_Spread_init f fd) (T : Bn mg) (TS : TxS K C) (hCC : C ≠ CE) (c1 : Ca P w K mg base 5 "check_spread" ["n", "counts", "liars", "first", "value"] spChkSpread f1 e1)
    (ME : Mk K CE f2) (mE : mg "Ear" = some (.ref CE)) (GE : FnOk P w K mg base CX0 1 f2 e2 nEInit (spEInit CE)) (bE : Binds K e2 nEInit []) (c3 : Me P w K mg base 2 C "_put_to_all" ["self", "sender", "kind", "value"] (spPutAll C CE) f3 e3)
    (c4 : Me P w K mg base 4 C "_hear" ["self", "hand", "sender", "kind", "value"] (spHearS C CE) f4 e4) : FnOk P w K mg base CX0 6 f fd ["self", "n", "counts", "liars", "first", "value"] (spInit C CE) := by
  refine F.ok scInit (fun vs H Q E h => ?_) (fun cdv A outer s H vs Q E hr h => ?_)
  · obtain ⟨p, dx, tc, tl, n, e, r, d, liars, first, value, rfl, _⟩ := h
    rfl
  · obtain ⟨p, dx, tc, tl, n, e, r, d, liars, first, value, rfl, hp, htc, htl, mp, kk⟩ := h
    have hr2 := hr.mono (show 2 ≤ 5 by decide)
    have hr4 := hr.mono (show 4 ≤ 5 by decide)
    refine ⟨_, pss_cons (ps_expr (pe_ca c1 hr (pa_cons (pv 1) (pa_cons (pv 2) (pa_cons (pv 3) (pa_cons (pv 4) (pa_cons (pv 5) pa_nil)))))))
      (pss_cons (ps_fld (pv 0) (pv 1) rfl) (pss_cons (ps_fld (pv 0) (pv 2) rfl) (pss_cons (ps_fld (pv 0) (pv 3) rfl) (pss_cons (ps_fld (pv 0) (pv 4) rfl) (pss_cons (ps_fld (pv 0) (pv 5) rfl)
      (pss_cons (ps_fld (pv 0) (pe_lc (own := [("hand", 6)]) (g := gName 6) (tt := tYes) rfl scInit.nd (pi_range1 rfl T.range (pa_cons (pv 1) pa_nil)) (blkOk_by (N := nInit) (sc := defScope s_Spread_init) (by decide +kernel))
          (fun _ _ _ _ _ => pg_name (i := 6) scInit.nd rfl (Or.inl rfl)) (fun _ _ _ _ _ => pts_nil) (fun _ _ _ _ _ => pe_make ME GE hr2 rfl mE bE .nil pass0 (pa_cons (pv 6) (pa_cons (pv 2) (pa_cons (pv 4) pa_nil))))) rfl)
      (pss_cons (ps_fld (pv 0) pe_dnewK rfl) (pss_cons (ps_fld (pv 0) pe_int rfl) (pss_cons (ps_fld (pv 0) (pe_lst pa_nil) rfl)
      (pss_one (ps_if (pt_cmpR op_notIn_seq (pv 4) (pv 3) (by rfl)) (pss_cons (ps_expr (pe_me (pv 0) TS.cl c3 hr2 (pa_cons (pv 4) (pa_cons pe_str (pa_cons (pv 5) pa_nil))))) (pss_one (ps_expr (pe_me (pv 0) TS.cl c4 hr4 (pa_cons (pv 4) (pa_cons (pv 4) (pa_cons pe_str (pa_cons (pv 5) pa_nil)))))))) pss_nil))))))))))), ?_⟩
    refine ⟨_, rfl, _, rfl, _, rfl, _, rfl, _, rfl, (n : Int), tc, tl, [e, r, d], liars, first, value, rfl, by have := mp.n2; omega, by have := mp.n12; omega, htc, rfl, mp.cs, htl, mp.lin, mp.asc, by have := mp.fewer; omega, mp.f0, mp.f1, mp.v0, mp.v1, fun H0 s0 => ?_⟩
    refine ⟨_, rfl, _, rfl, p, C, dx, _, rfl, s0 _ _ hp, TS.cl, TS.n, (by show 0 < 1000; decide), ?_⟩
    refine ⟨_, rfl, _, rfl, p, C, dx, _, rfl, upd_same, TS.cl, TS.counts, (by show 1 < 1000; decide), ?_⟩
    refine ⟨_, rfl, _, rfl, p, C, dx, _, rfl, upd_same, TS.cl, TS.liars, (by show 2 < 1000; decide), ?_⟩
    refine ⟨_, rfl, _, rfl, p, C, dx, _, rfl, upd_same, TS.cl, TS.first, (by show 3 < 1000; decide), ?_⟩
    refine ⟨_, rfl, _, rfl, p, C, dx, _, rfl, upd_same, TS.cl, TS.value, (by show 4 < 1000; decide), ?_⟩
    refine ⟨_, rfl, (n : Int), rfl, by omega, by have := mp.n12; omega, fun D hD => ?_⟩
    refine lc_range (lo := 0) (n := n) (fun i H' => ∃ es : List EA, es.length = i ∧ Made CE _ D tc first es H') ⟨[], rfl, ⟨same_new hD, upd_same, (fun j x hj => by simp at hj), List.nodup_nil, List.nodup_nil, (fun x hx => by cases hx)⟩⟩ ?_ ?_
    · rintro i H2 hi ⟨es, hes, m⟩
      have e0 : (0 : Int) + (i : Int) = (i : Int) := Int.zero_add _
      rw [e0]
      refine ⟨rfl, _, rfl, _, rfl, _, rfl, fun x dxx hx hdx hne => ⟨x, dxx, tc, (i : Int), first, rfl, upd_same, fun d1 d2 H3 n1 n2 ea kp => ⟨rfl, ?_⟩⟩⟩
      have s23 : Same H2 H3 := Same.made hx hdx kp
      have g1 : H2 d1 = none := by
        have h1 : d1 ≠ x := fun q => by rw [q, upd_same] at n1; cases n1
        have h2 : d1 ≠ dxx := fun q => by rw [q, upd_ne hne, upd_same] at n1; cases n1
        rw [upd_ne h1, upd_ne h2] at n1
        exact n1
      have g2 : H2 d2 = none := by
        have h1 : d2 ≠ x := fun q => by rw [q, upd_same] at n2; cases n2
        have h2 : d2 ≠ dxx := fun q => by rw [q, upd_ne hne, upd_same] at n2; cases n2
        rw [upd_ne h1, upd_ne h2] at n2
        exact n2
      have hDl := m.lst
      have Dx : D ≠ x := ne_of_none hDl hx
      have D1 : D ≠ d1 := ne_of_none hDl g1
      have D2 : D ≠ d2 := ne_of_none hDl g2
      refine ⟨_, s23 _ _ hDl, ?_, es ++ [⟨x, dxx, d1, d2⟩], by rw [List.length_append, hes]; rfl, ?_⟩
      · rw [List.length_map, hes]
        exact small1000 (by have := mp.n12; omega)
      · refine ⟨same_upd (Same.trans m.same s23) hD, by rw [upd_same, List.map_append]; rfl, fun j z hj => ?_, ?_, ?_, fun z hz => ?_⟩
        · by_cases hji : j < es.length
          · rw [List.getElem?_append_left hji] at hj
            have q := (m.ears j z hj).same s23
            have hD3 := s23 _ _ hDl
            exact q.of (upd_ne (ne_of q.ob hD3 (by intro z; cases z))) (upd_ne (ne_of q.h1 hD3 (by intro z; cases z))) (upd_ne (ne_of q.h2 hD3 (by intro z; cases z)))
          · have hj2 := (List.getElem?_eq_some_iff.mp hj).1
            rw [List.length_append] at hj2
            have hj2 : j < es.length + 1 := hj2
            have ej : j = es.length := by omega
            subst ej
            rw [List.getElem?_append_right (Nat.le_refl _), Nat.sub_self] at hj
            have ez : (⟨x, dxx, d1, d2⟩ : EA) = z := Option.some.inj hj
            subst ez
            rw [← hes] at ea
            exact ea.of (upd_ne Dx.symm) (upd_ne D1.symm) (upd_ne D2.symm)
        · rw [List.map_append]
          refine nd_snoc m.nda fun z => ?_
          obtain ⟨y, hy, ey⟩ := List.mem_map.mp z
          have ey : y.a = x := ey
          obtain ⟨⟨_, _, q⟩, _⟩ := m.in1 hy
          rw [ey, hx] at q
          cases q
        · refine nodup_dd m.ndd (fun y hy => ?_) ea.ne
          obtain ⟨_, ⟨_, q1⟩, ⟨_, q2⟩⟩ := m.in1 hy
          exact ⟨ne_of_none q1 g1, ne_of_none q2 g1, ne_of_none q1 g2, ne_of_none q2 g2⟩
        · rcases List.mem_append.mp hz with q | q
          · exact m.new z q
          · rw [List.mem_singleton.mp q]
            exact ⟨m.same.free hx, m.same.free g1, m.same.free g2⟩
    · rintro H6 ⟨es, hes, m⟩
      have hp6 := m.same _ _ (upd_same (a := p))
      refine ⟨_, rfl, p, C, dx, _, rfl, hp6, TS.cl, TS.ears, (by show 5 < 1000; decide), fun ds hds => ?_⟩
      have pds : p ≠ ds := ne_of_none upd_same hds
      have h6ds : H6 ds = none := by
        rw [upd_ne pds.symm] at hds
        exact hds
      refine ⟨_, rfl, p, C, dx, _, rfl, (upd_ne pds).trans upd_same, TS.cl, TS.slips, (by show 6 < 1000; decide), ?_⟩
      refine ⟨_, rfl, p, C, dx, _, rfl, upd_same, TS.cl, TS.put, (by show 7 < 1000; decide), ?_⟩
      refine ⟨Nat.zero_le _, fun lg hlg => ?_⟩
      have plg : p ≠ lg := ne_of_none upd_same hlg
      have dlg : ds ≠ lg := ne_of_none ((upd_ne pds.symm).trans ((upd_ne pds.symm).trans upd_same)) hlg
      have h6lg : H6 lg = none := by
        rw [upd_ne plg.symm, upd_ne plg.symm, upd_ne dlg.symm, upd_ne plg.symm] at hlg
        exact hlg
      refine ⟨_, rfl, p, C, dx, _, rfl, (upd_ne plg).trans upd_same, TS.cl, TS.log, (by show 8 < 1000; decide), ?_⟩
      have k12 : ∀ b o, H6 b = some o → b ≠ p → h12 H6 C p dx n tc tl first value D ds lg b = some o := fun b o e hb => by
        unfold h12
        rw [upd_ne hb, upd_ne (ne_of_none e h6lg), upd_ne hb, upd_ne hb, upd_ne (ne_of_none e h6ds), upd_ne hb]
        exact e
      have k6 : ∀ b o, H b = some o → b ≠ p → H6 b = some o := fun b o e hb => m.same _ _ (by rw [upd_ne hb, upd_ne hb, upd_ne hb, upd_ne hb, upd_ne hb]; exact s0 _ _ e)
      have tcp : tc ≠ p := ne_of htc hp (by intro z; cases z)
      have tlp : tl ≠ p := ne_of htl hp (by intro z; cases z)
      have Dp : D ≠ p := ne_of m.lst hp6 (by intro z; cases z)
      have x0 : SpAt C CE ⟨p, dx, tc, tl, D, ds, lg, es⟩ (init0 n e r d liars first value) (h12 H6 C p dx n tc tl first value D ds lg) := by
        refine ⟨upd_same, k12 _ _ (k6 _ _ htc tcp) tcp, k12 _ _ (k6 _ _ htl tlp) tlp, k12 _ _ m.lst Dp, ?_, fun i y E1 h1 h2 => ?_, ⟨[], rfl, ?_, (fun z hz => by cases hz)⟩, ⟨[], rfl, ?_, (fun z hz => by cases hz)⟩⟩
        · show es.length = (List.replicate n _).length
          rw [List.length_replicate, hes]
        · have e1 : E1 = ME0 := List.eq_of_mem_replicate (List.mem_of_getElem? h2)
          subst e1
          have q := m.ears i y h1
          exact ⟨k12 _ _ q.ob (ne_of q.ob hp6 (by intro z; injection z with z; exact hCC z.symm)), k12 _ _ q.h1 (ne_of q.h1 hp6 (by intro z; cases z)), k12 _ _ q.h2 (ne_of q.h2 hp6 (by intro z; cases z)), q.ne⟩
        · exact (upd_ne pds.symm).trans ((upd_ne dlg).trans ((upd_ne pds.symm).trans ((upd_ne pds.symm).trans upd_same)))
        · exact (upd_ne plg.symm).trans upd_same
      have ap : Apart C CE ⟨p, dx, tc, tl, D, ds, lg, es⟩ := by
        refine ⟨hCC, m.nda, List.nodup_cons.mpr ⟨fun z => ?_, m.ndd⟩, Ne.symm (ne_of_none m.lst h6lg)⟩
        rcases List.mem_append.mp z with z | z
        · obtain ⟨y, hy, ey⟩ := List.mem_map.mp z
          obtain ⟨_, ⟨_, q⟩, _⟩ := m.in1 hy
          have ey : y.d1 = ds := ey
          rw [ey, h6ds] at q
          cases q
        · obtain ⟨y, hy, ey⟩ := List.mem_map.mp z
          obtain ⟨_, _, ⟨_, q⟩⟩ := m.in1 hy
          have ey : y.d2 = ds := ey
          rw [ey, h6ds] at q
          cases q
      have fpn : ∀ b, Fp ⟨p, dx, tc, tl, D, ds, lg, es⟩ b → b = p ∨ H b = none := by
        have back : ∀ b, H6 b = none → b ≠ p → H b = none := fun b hb hn => by
          cases e : H b with
          | none => rfl
          | some o => rw [k6 b o e hn] at hb; cases hb
        intro b hb
        by_cases hbp : b = p
        · exact .inl hbp
        · refine .inr ?_
          rcases hb with q | q | q | ⟨y, hy, q⟩
          · exact absurd q hbp
          · rw [q] at hbp ⊢
            exact back _ h6ds hbp
          · rw [q] at hbp ⊢
            exact back _ h6lg hbp
          · obtain ⟨w1, w2, w3⟩ := m.new y hy
            rcases q with q | q | q
            · rw [← q, upd_ne hbp, upd_ne hbp, upd_ne hbp, upd_ne hbp, upd_ne hbp] at w1
              exact s0.free w1
            · rw [← q, upd_ne hbp, upd_ne hbp, upd_ne hbp, upd_ne hbp, upd_ne hbp] at w2
              exact s0.free w2
            · rw [← q, upd_ne hbp, upd_ne hbp, upd_ne hbp, upd_ne hbp, upd_ne hbp] at w3
              exact s0.free w3
      have kF : ∀ H', KeepF ⟨p, dx, tc, tl, D, ds, lg, es⟩ (h12 H6 C p dx n tc tl first value D ds lg) H' → ∀ b o, H b = some o → b ≠ p → H' b = some o := fun H' kp b o e hb =>
        kp b o (k12 b o (k6 b o e hb) hb) fun z => by
          rcases fpn b z with q | q
          · exact hb q
          · rw [q] at e; cases e
      have w0 := init0_wf mp
      refine ⟨_, rfl, _, rfl, tl, _, rfl, .inr (SqT.of x0.tl), rfl, flat_ints _, _, rfl, ?_⟩
      rw [inV_int]
      by_cases hf : first ∈ liars
      · rw [show inI first (init0 n e r d liars first value).liars = true from decide_eq_true hf]
        refine iteF ?_
        have hv := mp.v0 hf
        subst hv
        exact kk _ _ rfl rfl rfl x0 ap (fun b o e hb => k12 b o (k6 b o e hb) hb) fpn
      · obtain ⟨v, hv, _, _⟩ := mp.v1 hf
        subst hv
        rw [show inI first (init0 n e r d liars first (some v)).liars = false from decide_eq_false hf]
        refine iteT ⟨_, rfl, p, dx, _, rfl, x0.ob, rfl, _, rfl, _, rfl, _, init0 n e r d liars first (some v), first, .said, v, rfl, x0, ap, w0, mp.f0, mp.f1, Nat.zero_le _, fun H7 x7 kp7 => ?_⟩
        have en : (putAll (init0 n e r d liars first (some v)) first .said v).n = n := (putTo_keeps _ _ _ _ _).1
        have w7 : WfS (putAll (init0 n e r d liars first (some v)) first .said v) := putAll_wf w0 mp.f0 mp.f1
        refine ⟨_, rfl, p, dx, _, rfl, x7.ob, rfl, _, rfl, _, rfl, _, rfl, _, putAll (init0 n e r d liars first (some v)) first .said v, first, first, .said, v, rfl, x7, ap, w7, mp.f0, by rw [en]; exact mp.f1, mp.f0, by rw [en]; exact mp.f1, fun q => absurd rfl q, ?_, fun H8 x8 kp8 => ?_⟩
        · have h1 : (putAll (init0 n e r d liars first (some v)) first .said v).slips.length ≤ 0 + n := putTo_len _ _ _ _ _
          have := mp.n12
          omega
        · refine kk _ H8 rfl rfl rfl ?_ ap (kF H8 (kp7.trans kp8)) fpn
          have e1 : initS n e r d liars first (some v) = hearS (putAll (init0 n e r d liars first (some v)) first .said v) first first .said v := by
            unfold initS
            dsimp only
            rw [if_neg (by unfold inI; simp [hf])]
          rw [e1]
          exact x8
end
end Spr
namespace Spr
open PySem L2
/-! ### what no liar can bring about -/
structure Cst where
  n : Nat
  t : Nat
  e : Int
  r : Int
  d : Int
  L : List Int
  first : Int
  value : Option Int
def Hn (c : Cst) (i : Nat) : Prop := i < c.n ∧ (i : Int) ∉ c.L
def cnt (c : Cst) (ears : List ME) (v : Int) : Nat := ((List.range c.n).filter fun (i : Nat) => decide ((i : Int) ∉ c.L ∧ (ears[i]?.map (·.echoed)) = some (some v))).length
structure InvU (c : Cst) (ears : List ME) (U : Sl → Prop) (x : Option (Nat × Int)) : Prop where
  el : ears.length = c.n
  W : ∀ (i : Nat) (E : ME), ears[i]? = some E → WfEar c.n i E
  A : ∀ (i : Nat) (E : ME) (h : Nat) (v : Int), Hn c i → ears[i]? = some E → ((h : Int), v) ∈ E.ef → Hn c h → ∃ E', ears[h]? = some E' ∧ E'.echoed = some v
  B : ∀ (i : Nat) (E : ME) (h : Nat) (v : Int), Hn c i → ears[i]? = some E → ((h : Int), v) ∈ E.pf → Hn c h → ∃ E', ears[h]? = some E' ∧ E'.promised = some v
  C : ∀ (s : Sl) (h : Nat), U s → s.frm = (h : Int) → Hn c h → (s.kd = .said → s.frm = c.first ∧ c.value = some s.val) ∧ (s.kd = .echo → ∃ E', ears[h]? = some E' ∧ E'.echoed = some s.val) ∧ (s.kd = .prom → ∃ E', ears[h]? = some E' ∧ E'.promised = some s.val)
  D : c.first ∉ c.L → ∀ (i : Nat) (E : ME) (v : Int), Hn c i → ears[i]? = some E → E.told = some v → c.value = some v
  Ee : ∀ (i : Nat) (E : ME), Hn c i → ears[i]? = some E → E.echoed = E.told ∨ ∃ v, x = some (i, v) ∧ E.echoed = none ∧ E.told = some v
  J : ∀ (i : Nat) (E : ME) (v : Int), Hn c i → ears[i]? = some E → E.promised = some v → c.e ≤ (cnt c ears v : Int) + c.L.length
  T : ∀ (i : Nat) (E : ME) (v : Int), Hn c i → ears[i]? = some E → E.took = some v → c.d ≤ (votes E.pf v : Int)
  L0 : c.first ∉ c.L → ∀ (v : Int), c.value = some v → ∀ (i : Nat) (E : ME), Hn c i → ears[i]? = some E → E.told ≠ none ∨ U ⟨c.first, i, .said, v⟩
  L1 : ∀ (i j : Nat) (Ei Ej : ME) (v : Int), Hn c i → Hn c j → ears[i]? = some Ei → ears[j]? = some Ej → Ei.echoed = some v → ((i : Int), v) ∈ Ej.ef ∨ U ⟨i, j, .echo, v⟩
  L2 : ∀ (i j : Nat) (Ei Ej : ME) (v : Int), Hn c i → Hn c j → ears[i]? = some Ei → ears[j]? = some Ej → Ei.promised = some v → ((i : Int), v) ∈ Ej.pf ∨ U ⟨i, j, .prom, v⟩
  P2 : ∀ (i : Nat) (E : ME) (v : Int), Hn c i → ears[i]? = some E → E.promised = none → x ≠ some (i, v) → (votes E.ef v : Int) < c.e ∧ (votes E.pf v : Int) < c.r
  P3 : ∀ (i : Nat) (E : ME) (v : Int), Hn c i → ears[i]? = some E → E.took = none → x ≠ some (i, v) → (votes E.pf v : Int) < c.d
theorem filter_len_le {α : Type} {p q : α → Bool} : ∀ {l : List α}, (∀ a ∈ l, p a = true → q a = true) → (l.filter p).length ≤ (l.filter q).length
  | [], _ => Nat.le_refl _
  | a :: l, h => by
    have ih := filter_len_le (p := p) (q := q) (l := l) fun b hb => h b (List.mem_cons_of_mem _ hb)
    by_cases hp : p a = true
    · rw [List.filter_cons, if_pos hp, List.filter_cons, if_pos (h a List.mem_cons_self hp), List.length_cons, List.length_cons]
      exact Nat.succ_le_succ ih
    · rw [List.filter_cons, if_neg hp, List.filter_cons]
      split
      · rw [List.length_cons]
        exact Nat.le_succ_of_le ih
      · exact ih
theorem cnt_mono {c : Cst} {ears : List ME} {hand : Nat} {E E' : ME} (he : ears[hand]? = some E) (me : ∀ v, E.echoed = some v → E'.echoed = some v) (v : Int) : cnt c ears v ≤ cnt c (ears.set hand E') v := by
  refine filter_len_le fun i _ h => ?_
  have h := of_decide_eq_true h
  refine decide_eq_true ⟨h.1, ?_⟩
  by_cases hi : hand = i
  · subst hi
    rw [he] at h
    rw [List.getElem?_set_self (List.getElem?_eq_some_iff.mp he).1]
    show some E'.echoed = _
    rw [me v (Option.some.inj h.2)]
  · rw [List.getElem?_set_ne hi]
    exact h.2
theorem InvU.upd {c : Cst} {ears : List ME} {U U' : Sl → Prop} {x x' : Option (Nat × Int)} {hand : Nat} {E E' : ME} (I : InvU c ears U x) (hh : Hn c hand) (he : ears[hand]? = some E)
    (me : ∀ v, E.echoed = some v → E'.echoed = some v) (mp : ∀ v, E.promised = some v → E'.promised = some v) (mt : ∀ v, E.told = some v → E'.told = some v) (mef : ∀ y ∈ E.ef, y ∈ E'.ef) (mpf : ∀ y ∈ E.pf, y ∈ E'.pf)
    (hA : ∀ (h : Nat) v, ((h : Int), v) ∈ E'.ef → Hn c h → ((h : Int), v) ∈ E.ef ∨ ∃ E1, (ears.set hand E')[h]? = some E1 ∧ E1.echoed = some v)
    (hB : ∀ (h : Nat) v, ((h : Int), v) ∈ E'.pf → Hn c h → ((h : Int), v) ∈ E.pf ∨ ∃ E1, (ears.set hand E')[h]? = some E1 ∧ E1.promised = some v)
    (hC : ∀ s, U' s → U s ∨ (s.frm = (hand : Int) ∧ (s.kd ≠ .said) ∧ (s.kd = .echo → E'.echoed = some s.val) ∧ (s.kd = .prom → E'.promised = some s.val)))
    (hD : c.first ∉ c.L → ∀ v, E'.told = some v → c.value = some v)
    (hEe : E'.echoed = E'.told ∨ ∃ v, x' = some (hand, v) ∧ E'.echoed = none ∧ E'.told = some v)
    (hx : ∀ i v, x = some (i, v) → i = hand) (hx' : ∀ i v, x' = some (i, v) → i = hand)
    (hJ : ∀ v, E'.promised = some v → E.promised = some v ∨ c.e ≤ (cnt c (ears.set hand E') v : Int) + c.L.length)
    (hT : ∀ v, E'.took = some v → c.d ≤ (votes E'.pf v : Int))
    (hU : ∀ s, U s → U' s ∨ (s.to = (hand : Int) ∧ (s.kd = .said → s.frm = c.first → E'.told ≠ none) ∧ (s.kd = .echo → ∀ h : Nat, s.frm = (h : Int) → Hn c h → (s.frm, s.val) ∈ E'.ef) ∧ (s.kd = .prom → ∀ h : Nat, s.frm = (h : Int) → Hn c h → (s.frm, s.val) ∈ E'.pf)))
    (hL1 : ∀ v, E'.echoed = some v → E.echoed = some v ∨ (((hand : Int), v) ∈ E'.ef ∧ ∀ j : Nat, Hn c j → j ≠ hand → U' ⟨hand, j, .echo, v⟩))
    (hL2 : ∀ v, E'.promised = some v → E.promised = some v ∨ (((hand : Int), v) ∈ E'.pf ∧ ∀ j : Nat, Hn c j → j ≠ hand → U' ⟨hand, j, .prom, v⟩))
    (hP2 : ∀ v, E'.promised = none → x' ≠ some (hand, v) → (votes E'.ef v : Int) < c.e ∧ (votes E'.pf v : Int) < c.r)
    (hP3 : ∀ v, E'.took = none → x' ≠ some (hand, v) → (votes E'.pf v : Int) < c.d)
    (hW : WfEar c.n hand E') : InvU c (ears.set hand E') U' x' := by
  have hl : hand < ears.length := (List.getElem?_eq_some_iff.mp he).1
  have self : (ears.set hand E')[hand]? = some E' := List.getElem?_set_self hl
  have at_ : ∀ {i : Nat} {F : ME}, (ears.set hand E')[i]? = some F → (i = hand ∧ F = E') ∨ (i ≠ hand ∧ ears[i]? = some F) := fun {i F} h => by
    by_cases hi : hand = i
    · subst hi
      rw [self] at h
      exact .inl ⟨rfl, (Option.some.inj h).symm⟩
    · rw [List.getElem?_set_ne hi] at h
      exact .inr ⟨Ne.symm hi, h⟩
  have upE : ∀ {h : Nat} {v : Int}, (∃ F, ears[h]? = some F ∧ F.echoed = some v) → ∃ F, (ears.set hand E')[h]? = some F ∧ F.echoed = some v := fun {h v} ⟨F, h1, h2⟩ => by
    by_cases hi : hand = h
    · subst hi
      rw [he] at h1
      cases h1
      exact ⟨E', self, me v h2⟩
    · exact ⟨F, by rw [List.getElem?_set_ne hi]; exact h1, h2⟩
  have upP : ∀ {h : Nat} {v : Int}, (∃ F, ears[h]? = some F ∧ F.promised = some v) → ∃ F, (ears.set hand E')[h]? = some F ∧ F.promised = some v := fun {h v} ⟨F, h1, h2⟩ => by
    by_cases hi : hand = h
    · subst hi
      rw [he] at h1
      cases h1
      exact ⟨E', self, mp v h2⟩
    · exact ⟨F, by rw [List.getElem?_set_ne hi]; exact h1, h2⟩
  have nx : ∀ {i : Nat} {v : Int}, i ≠ hand → x ≠ some (i, v) := fun hi q => hi (hx _ _ q)
  have nx' : ∀ {i : Nat} {v : Int}, i ≠ hand → x' ≠ some (i, v) := fun hi q => hi (hx' _ _ q)
  refine ⟨by rw [List.length_set]; exact I.el, fun i F h => ?_, fun i F h v hi h1 h2 h3 => ?_, fun i F h v hi h1 h2 h3 => ?_, fun s h us hf hn => ?_, fun hf i F v hi h1 h2 => ?_, fun i F hi h1 => ?_, fun i F v hi h1 h2 => ?_, fun i F v hi h1 h2 => ?_, fun hf v hv i F hi h1 => ?_, fun i j Fi Fj v hi hj h1 h2 h3 => ?_, fun i j Fi Fj v hi hj h1 h2 h3 => ?_, fun i F v hi h1 h2 h3 => ?_, fun i F v hi h1 h2 h3 => ?_⟩
  · rcases at_ h with ⟨rfl, rfl⟩ | ⟨_, h⟩
    · exact hW
    · exact I.W i F h
  · rcases at_ h1 with ⟨rfl, rfl⟩ | ⟨_, h1⟩
    · rcases hA h v h2 h3 with q | q
      · exact upE (I.A i E h v hi he q h3)
      · exact q
    · exact upE (I.A i F h v hi h1 h2 h3)
  · rcases at_ h1 with ⟨rfl, rfl⟩ | ⟨_, h1⟩
    · rcases hB h v h2 h3 with q | q
      · exact upP (I.B i E h v hi he q h3)
      · exact q
    · exact upP (I.B i F h v hi h1 h2 h3)
  · rcases hC s us with q | ⟨q1, q2, q3, q4⟩
    · obtain ⟨c1, c2, c3⟩ := I.C s h q hf hn
      exact ⟨c1, fun z => upE (c2 z), fun z => upP (c3 z)⟩
    · have : h = hand := by omega
      subst this
      exact ⟨fun z => absurd z q2, fun z => ⟨E', self, q3 z⟩, fun z => ⟨E', self, q4 z⟩⟩
  · rcases at_ h1 with ⟨rfl, rfl⟩ | ⟨_, h1⟩
    · exact hD hf v h2
    · exact I.D hf i F v hi h1 h2
  · rcases at_ h1 with ⟨rfl, rfl⟩ | ⟨ne, h1⟩
    · exact hEe
    · rcases I.Ee i F hi h1 with q | ⟨v, q, _⟩
      · exact .inl q
      · exact absurd q (nx ne)
  · rcases at_ h1 with ⟨rfl, rfl⟩ | ⟨_, h1⟩
    · rcases hJ v h2 with q | q
      · have := I.J i E v hi he q
        have := cnt_mono (c := c) he me v
        omega
      · exact q
    · have := I.J i F v hi h1 h2
      have := cnt_mono (c := c) he me v
      omega
  · rcases at_ h1 with ⟨rfl, rfl⟩ | ⟨_, h1⟩
    · exact hT v h2
    · exact I.T i F v hi h1 h2
  · rcases at_ h1 with ⟨rfl, rfl⟩ | ⟨ne, h1⟩
    · rcases I.L0 hf v hv i E hi he with q | q
      · refine .inl fun z => ?_
        cases e : E.told with
        | none => exact q e
        | some w => rw [mt w e] at z; cases z
      · rcases hU _ q with q | ⟨_, q, _⟩
        · exact .inr q
        · exact .inl (q rfl rfl)
    · rcases I.L0 hf v hv i F hi h1 with q | q
      · exact .inl q
      · rcases hU _ q with q | ⟨q, _⟩
        · exact .inr q
        · exact absurd (show (i : Int) = (hand : Int) from q) (by omega)
  · -- L1
    rcases at_ h1 with ⟨rfl, rfl⟩ | ⟨nei, g1⟩
    · rcases at_ h2 with ⟨rfl, rfl⟩ | ⟨nej, g2⟩
      · rcases hL1 v h3 with q | ⟨q, _⟩
        · rcases I.L1 j j E E v hj hj he he q with z | z
          · exact .inl (mef _ z)
          · rcases hU _ z with z | ⟨_, _, z, _⟩
            · exact .inr z
            · exact .inl (z rfl j rfl hj)
        · exact .inl q
      · rcases hL1 v h3 with q | ⟨_, q⟩
        · rcases I.L1 i j E Fj v hi hj he g2 q with z | z
          · exact .inl z
          · rcases hU _ z with z | ⟨z, _⟩
            · exact .inr z
            · exact absurd (show (j : Int) = (i : Int) from z) (by omega)
        · exact .inr (q j hj nej)
    · rcases at_ h2 with ⟨rfl, rfl⟩ | ⟨nej, g2⟩
      · rcases I.L1 i j Fi E v hi hj g1 he h3 with z | z
        · exact .inl (mef _ z)
        · rcases hU _ z with z | ⟨_, _, z, _⟩
          · exact .inr z
          · exact .inl (z rfl i rfl hi)
      · rcases I.L1 i j Fi Fj v hi hj g1 g2 h3 with z | z
        · exact .inl z
        · rcases hU _ z with z | ⟨z, _⟩
          · exact .inr z
          · exact absurd (show (j : Int) = (hand : Int) from z) (by omega)
  · -- L2
    rcases at_ h1 with ⟨rfl, rfl⟩ | ⟨nei, g1⟩
    · rcases at_ h2 with ⟨rfl, rfl⟩ | ⟨nej, g2⟩
      · rcases hL2 v h3 with q | ⟨q, _⟩
        · rcases I.L2 j j E E v hj hj he he q with z | z
          · exact .inl (mpf _ z)
          · rcases hU _ z with z | ⟨_, _, _, z⟩
            · exact .inr z
            · exact .inl (z rfl j rfl hj)
        · exact .inl q
      · rcases hL2 v h3 with q | ⟨_, q⟩
        · rcases I.L2 i j E Fj v hi hj he g2 q with z | z
          · exact .inl z
          · rcases hU _ z with z | ⟨z, _⟩
            · exact .inr z
            · exact absurd (show (j : Int) = (i : Int) from z) (by omega)
        · exact .inr (q j hj nej)
    · rcases at_ h2 with ⟨rfl, rfl⟩ | ⟨nej, g2⟩
      · rcases I.L2 i j Fi E v hi hj g1 he h3 with z | z
        · exact .inl (mpf _ z)
        · rcases hU _ z with z | ⟨_, _, _, z⟩
          · exact .inr z
          · exact .inl (z rfl i rfl hi)
      · rcases I.L2 i j Fi Fj v hi hj g1 g2 h3 with z | z
        · exact .inl z
        · rcases hU _ z with z | ⟨z, _⟩
          · exact .inr z
          · exact absurd (show (j : Int) = (hand : Int) from z) (by omega)
  · rcases at_ h1 with ⟨rfl, rfl⟩ | ⟨ne, h1⟩
    · exact hP2 v h2 h3
    · exact I.P2 i F v hi h1 h2 (nx ne)
  · rcases at_ h1 with ⟨rfl, rfl⟩ | ⟨ne, h1⟩
    · exact hP3 v h2 h3
    · exact I.P3 i F v hi h1 h2 (nx ne)
end Spr
namespace Spr
open PySem L2
/-! ### counting -/
theorem nd_filter_ne (b : Int) : ∀ {l : List Int}, l.Nodup → l.length ≤ (l.filter fun x => decide (x ≠ b)).length + 1
  | [], _ => Nat.zero_le _
  | x :: r, nd => by
    obtain ⟨hx, hr⟩ := List.nodup_cons.mp nd
    by_cases e : x = b
    · have : (r.filter fun x => decide (x ≠ b)) = r := by
        apply List.filter_eq_self.mpr
        intro y hy
        exact decide_eq_true fun q => hx (by rw [e, ← q]; exact hy)
      rw [List.filter_cons, if_neg (by simp [e]), this, List.length_cons]
      exact Nat.le_refl _
    · rw [List.filter_cons, if_pos (by simp [e]), List.length_cons, List.length_cons]
      exact Nat.succ_le_succ (nd_filter_ne b hr)
theorem nd_sub_len : ∀ (B A : List Int), A.Nodup → (∀ x ∈ A, x ∈ B) → A.length ≤ B.length
  | [], A, _, h => by
    cases A with
    | nil => exact Nat.le_refl _
    | cons a r => cases h a List.mem_cons_self
  | b :: B, A, nd, h => by
    have ih := nd_sub_len B (A.filter fun x => decide (x ≠ b)) (nd.filter _) fun x hx => by
      obtain ⟨h1, h2⟩ := List.mem_filter.mp hx
      have h2 := of_decide_eq_true h2
      rcases List.mem_cons.mp (h x h1) with q | q
      · exact absurd q h2
      · exact q
    have hc := nd_filter_ne b nd
    rw [List.length_cons]
    omega
theorem votes_keys (m : Pm) (v : Int) : votes m v = ((m.filter fun p => decide (p.2 = v)).map (·.1)).length := by
  rw [List.length_map]
  rfl
theorem votes_sub {m : Pm} {v : Int} {B : List Int} (nd : (m.map (·.1)).Nodup) (h : ∀ k, (k, v) ∈ m → k ∈ B) : votes m v ≤ B.length := by
  rw [votes_keys]
  refine nd_sub_len _ _ (List.Nodup.sublist ((List.filter_sublist).map _) nd) fun x hx => ?_
  obtain ⟨y, hy, rfl⟩ := List.mem_map.mp hx
  obtain ⟨h1, h2⟩ := List.mem_filter.mp hy
  have h2 : y.2 = v := of_decide_eq_true h2
  exact h y.1 (by rw [← h2]; exact h1)
theorem votes_ge {m : Pm} {v : Int} {B : List Int} (nd : B.Nodup) (h : ∀ x ∈ B, (x, v) ∈ m) : B.length ≤ votes m v := by
  rw [votes_keys]
  exact nd_sub_len _ _ nd fun x hx => List.mem_map.mpr ⟨(x, v), List.mem_filter.mpr ⟨h x hx, decide_eq_true rfl⟩, rfl⟩
theorem votes_snoc (m : Pm) (k v w : Int) : votes (m ++ [(k, v)]) w = votes m w + (if v = w then 1 else 0) := by
  unfold votes
  rw [List.filter_append, List.length_append]
  by_cases h : v = w
  · rw [if_pos h, List.filter_cons, if_pos (decide_eq_true h)]
    rfl
  · rw [if_neg h, List.filter_cons, if_neg (by simpa using h)]
    rfl
theorem votes_setd (m : Pm) (k v w : Int) : votes m w ≤ votes (setd m k v) w ∧ (w ≠ v → votes (setd m k v) w = votes m w) := by
  unfold setd
  split
  · exact ⟨Nat.le_refl _, fun _ => rfl⟩
  · rw [votes_snoc]
    exact ⟨Nat.le_add_right _ _, fun h => by rw [if_neg fun q => h q.symm, Nat.add_zero]⟩
theorem mem_setd {m : Pm} {k v : Int} {y : Int × Int} (h : y ∈ setd m k v) : y ∈ m ∨ y = (k, v) := by
  unfold setd at h
  split at h
  · exact .inl h
  · rcases List.mem_append.mp h with q | q
    · exact .inl q
    · exact .inr (List.mem_singleton.mp q)
theorem setd_mem {m : Pm} {k v : Int} {y : Int × Int} (h : y ∈ m) : y ∈ setd m k v := by
  unfold setd
  split
  · exact h
  · exact List.mem_append_left _ h
theorem setd_new (m : Pm) (k v : Int) : hasK m k = true ∨ (k, v) ∈ setd m k v := by
  unfold setd
  by_cases h : hasK m k = true
  · exact .inl h
  · rw [if_neg h]
    exact .inr (List.mem_append_right _ List.mem_cons_self)
/-! ### what one hearing does to an ear -/
structure Hear1 (hand first : Int) (k : Kd) (snd v : Int) (E : ME) (E1 : ME) (xs : List (Kd × Int)) : Prop where
  told : E1.told = E.told ∨ (E.told = none ∧ k = .said ∧ snd = first ∧ E1.told = some v)
  toldS : k = .said → snd = first → E1.told ≠ none
  ech : E1.echoed = E1.told
  efM : ∀ y ∈ E.ef, y ∈ E1.ef
  efN : ∀ y ∈ E1.ef, y ∈ E.ef ∨ (k = .echo ∧ y = (snd, v)) ∨ (y = (hand, v) ∧ E1.echoed = some v)
  efE : k = .echo → hasK E.ef snd = true ∨ (snd, v) ∈ E1.ef
  pfM : ∀ y ∈ E.pf, y ∈ E1.pf
  pfN : ∀ y ∈ E1.pf, y ∈ E.pf ∨ (k = .prom ∧ y = (snd, v))
  pfE : k = .prom → hasK E.pf snd = true ∨ (snd, v) ∈ E1.pf
  pr : E1.promised = E.promised
  tk : E1.took = E.took
  ve : ∀ w, w ≠ v → votes E1.ef w = votes E.ef w
  vp : ∀ w, w ≠ v → votes E1.pf w = votes E.pf w
  vm : ∀ w, votes E.pf w ≤ votes E1.pf w
  xs1 : ∀ x ∈ xs, x.1 = .echo ∧ E1.echoed = some x.2
  nE : ∀ w, E1.echoed = some w → E.echoed = some w ∨ ((hand, w) ∈ E1.ef ∧ (Kd.echo, w) ∈ xs)
theorem hear1 (hand first : Int) (k : Kd) (snd v : Int) (E : ME) (hE : E.echoed = E.told) : Hear1 hand first k snd v E (due1 hand (hear0 first k snd v E)).1 (due1 hand (hear0 first k snd v E)).2 := by
  obtain ⟨told, ef, pf, ec, pr, tk⟩ := E
  have hE : ec = told := hE
  subst hE
  have nodue : ∀ (ef' pf' : Pm), due1 hand ⟨ec, ef', pf', ec, pr, tk⟩ = (⟨ec, ef', pf', ec, pr, tk⟩, []) := fun ef' pf' => by
    cases ec <;> rfl
  cases k with
  | said =>
    by_cases c : snd = first ∧ ec = none
    · obtain ⟨c1, c2⟩ := c
      subst c2
      have e0 : hear0 first .said snd v ⟨none, ef, pf, none, pr, tk⟩ = ⟨some v, ef, pf, none, pr, tk⟩ := if_pos ⟨c1, rfl⟩
      rw [e0]
      refine ⟨.inr ⟨rfl, rfl, c1, rfl⟩, fun _ _ => (by intro q; cases q), rfl, fun y h => List.mem_append_left _ h, fun y h => ?_, (by intro q; cases q), fun y h => h, fun y h => .inl h, (by intro q; cases q), rfl, rfl, fun w h => ?_, fun w _ => rfl, fun w => Nat.le_refl _, fun x h => ?_, fun w h => ?_⟩
      · rcases List.mem_append.mp h with q | q
        · exact .inl q
        · exact .inr (.inr ⟨List.mem_singleton.mp q, rfl⟩)
      · show votes (ef ++ [(hand, v)]) w = _
        rw [votes_snoc, if_neg fun q => h q.symm, Nat.add_zero]
      · rw [List.mem_singleton.mp h]
        exact ⟨rfl, rfl⟩
      · cases (show some v = some w from h)
        exact .inr ⟨List.mem_append_right _ List.mem_cons_self, List.mem_cons_self⟩
    · have e0 : hear0 first .said snd v ⟨ec, ef, pf, ec, pr, tk⟩ = ⟨ec, ef, pf, ec, pr, tk⟩ := if_neg c
      rw [e0, nodue]
      exact ⟨.inl rfl, fun _ h q => c ⟨h, q⟩, rfl, fun y h => h, fun y h => .inl h, (by intro q; cases q), fun y h => h, fun y h => .inl h, (by intro q; cases q), rfl, rfl, fun w _ => rfl, fun w _ => rfl, fun w => Nat.le_refl _, fun x h => (by cases h), fun w h => .inl h⟩
  | echo =>
    have e0 : hear0 first .echo snd v ⟨ec, ef, pf, ec, pr, tk⟩ = ⟨ec, setd ef snd v, pf, ec, pr, tk⟩ := rfl
    rw [e0, nodue]
    exact ⟨.inl rfl, (by intro q; cases q), rfl, fun y h => setd_mem h, fun y h => (mem_setd h).imp id fun q => .inl ⟨rfl, q⟩, fun _ => setd_new _ _ _, fun y h => h, fun y h => .inl h, (by intro q; cases q), rfl, rfl, fun w h => (votes_setd ef snd v w).2 h, fun w _ => rfl, fun w => Nat.le_refl _, fun x h => (by cases h), fun w h => .inl h⟩
  | prom =>
    have e0 : hear0 first .prom snd v ⟨ec, ef, pf, ec, pr, tk⟩ = ⟨ec, ef, setd pf snd v, ec, pr, tk⟩ := rfl
    rw [e0, nodue]
    exact ⟨.inl rfl, (by intro q; cases q), rfl, fun y h => h, fun y h => .inl h, (by intro q; cases q), fun y h => setd_mem h, fun y h => (mem_setd h).imp id fun q => ⟨rfl, q⟩, fun _ => setd_new _ _ _, rfl, rfl, fun w _ => rfl, fun w h => (votes_setd pf snd v w).2 h, fun w => (votes_setd pf snd v w).1, fun x h => (by cases h), fun w h => .inl h⟩
structure HearF (hand first e r d : Int) (k : Kd) (snd v : Int) (E : ME) (E' : ME) (xs : List (Kd × Int)) : Prop where
  told : E'.told = E.told ∨ (E.told = none ∧ k = .said ∧ snd = first ∧ E'.told = some v)
  toldS : k = .said → snd = first → E'.told ≠ none
  ech : E'.echoed = E'.told
  efM : ∀ y ∈ E.ef, y ∈ E'.ef
  efN : ∀ y ∈ E'.ef, y ∈ E.ef ∨ (k = .echo ∧ y = (snd, v)) ∨ (y = (hand, v) ∧ E'.echoed = some v)
  efE : k = .echo → hasK E.ef snd = true ∨ (snd, v) ∈ E'.ef
  pfM : ∀ y ∈ E.pf, y ∈ E'.pf
  pfN : ∀ y ∈ E'.pf, y ∈ E.pf ∨ (k = .prom ∧ y = (snd, v)) ∨ (y = (hand, v) ∧ E'.promised = some v)
  pfE : k = .prom → hasK E.pf snd = true ∨ (snd, v) ∈ E'.pf
  pr : E'.promised = E.promised ∨ (E.promised = none ∧ E'.promised = some v ∧ (e ≤ (votes E'.ef v : Int) ∨ ∃ m : Pm, r ≤ (votes m v : Int) ∧ (m.map (·.1)).Nodup ∧ ∀ y ∈ m, y ∈ E.pf ∨ (k = .prom ∧ y = (snd, v))))
  tk : E'.took = E.took ∨ (E.took = none ∧ E'.took = some v ∧ d ≤ (votes E'.pf v : Int))
  vM : ∀ w, votes E.pf w ≤ votes E'.pf w
  xs1 : ∀ x ∈ xs, (x.1 = .echo ∧ E'.echoed = some x.2) ∨ (x.1 = .prom ∧ E'.promised = some x.2)
  nE : ∀ w, E'.echoed = some w → E.echoed = some w ∨ ((hand, w) ∈ E'.ef ∧ (Kd.echo, w) ∈ xs)
  nP : ∀ w, E'.promised = some w → E.promised = some w ∨ ((hand, w) ∈ E'.pf ∧ (Kd.prom, w) ∈ xs)
  p2 : E'.promised = none → (∀ w, (votes E.ef w : Int) < e ∧ (votes E.pf w : Int) < r) → ∀ w, (votes E'.ef w : Int) < e ∧ (votes E'.pf w : Int) < r
  p3 : E'.took = none → (∀ w, (votes E.pf w : Int) < d) → ∀ w, (votes E'.pf w : Int) < d
theorem hearF {n : Nat} (hand first e r d : Int) (k : Kd) (snd v : Int) (E : ME) (hE : E.echoed = E.told) (wf : WfEar n hand E) : HearF hand first e r d k snd v E (hear hand first e r d k snd v E).1 (hear hand first e r d k snd v E).2 := by
  have h1 := hear1 hand first k snd v E hE
  have ndp : ((due1 hand (hear0 first k snd v E)).1.pf.map (·.1)).Nodup := by
    have : (due1 hand (hear0 first k snd v E)).1.pf = (hear0 first k snd v E).pf := by
      unfold due1
      split <;> rfl
    rw [this]
    cases k with
    | said =>
      unfold hear0
      dsimp only
      split <;> exact wf.nd2
    | echo => exact wf.nd2
    | prom => exact setd_nd wf.nd2
  unfold hear doDue
  generalize (due1 hand (hear0 first k snd v E)).2 = xs at h1
  generalize (due1 hand (hear0 first k snd v E)).1 = E1 at h1 ndp
  obtain ⟨told, ef, pf, ec, pr, tk⟩ := E1
  by_cases c2 : (e ≤ (votes ef v : Int) ∨ r ≤ (votes pf v : Int)) ∧ pr = none
  · have e2 : due2 hand e r v ⟨told, ef, pf, ec, pr, tk⟩ = (⟨told, ef, pf ++ [(hand, v)], ec, some v, tk⟩, [(.prom, v)]) := if_pos c2
    rw [e2]
    have hpr : E.promised = none := h1.pr.symm.trans c2.2
    have vm : ∀ w, votes E.pf w ≤ votes (pf ++ [(hand, v)]) w := fun w => by
      have := h1.vm w
      rw [votes_snoc]
      exact Nat.le_trans this (Nat.le_add_right _ _)
    have main : ∀ tk' : Option Int, (tk' = E.took ∨ (E.took = none ∧ tk' = some v ∧ d ≤ (votes (pf ++ [(hand, v)]) v : Int))) → (tk' = none → (∀ w, (votes E.pf w : Int) < d) → ∀ w, (votes (pf ++ [(hand, v)]) w : Int) < d) → HearF hand first e r d k snd v E ⟨told, ef, pf ++ [(hand, v)], ec, some v, tk'⟩ (xs ++ [(.prom, v)]) := fun tk' ht hp3 =>
      ⟨h1.told, h1.toldS, h1.ech, h1.efM, h1.efN, h1.efE, fun y h => List.mem_append_left _ (h1.pfM y h), fun y h => by
        rcases List.mem_append.mp h with q | q
        · exact (h1.pfN y q).imp id .inl
        · exact .inr (.inr ⟨List.mem_singleton.mp q, rfl⟩), fun h => (h1.pfE h).imp id fun q => List.mem_append_left _ q, .inr ⟨hpr, rfl, c2.1.imp id fun q => ⟨pf, q, ndp, h1.pfN⟩⟩, ht, vm, fun x h => by
        rcases List.mem_append.mp h with q | q
        · exact .inl (h1.xs1 x q)
        · rw [List.mem_singleton.mp q]
          exact .inr ⟨rfl, rfl⟩, fun w h => (h1.nE w h).imp id fun q => ⟨q.1, List.mem_append_left _ q.2⟩, fun w h => by
        cases (show some v = some w from h)
        exact .inr ⟨List.mem_append_right _ List.mem_cons_self, List.mem_append_right _ List.mem_cons_self⟩, (by intro q; cases q), hp3⟩
    by_cases c3 : d ≤ (votes (pf ++ [(hand, v)]) v : Int) ∧ tk = none
    · have e3 : due3 d v ⟨told, ef, pf ++ [(hand, v)], ec, some v, tk⟩ = ⟨told, ef, pf ++ [(hand, v)], ec, some v, some v⟩ := if_pos c3
      dsimp only
      rw [e3]
      exact main _ (.inr ⟨h1.tk.symm.trans c3.2, rfl, c3.1⟩) (by intro q; cases q)
    · have e3 : due3 d v ⟨told, ef, pf ++ [(hand, v)], ec, some v, tk⟩ = ⟨told, ef, pf ++ [(hand, v)], ec, some v, tk⟩ := if_neg c3
      dsimp only
      rw [e3]
      refine main _ (.inl h1.tk) fun q h w => ?_
      by_cases hw : w = v
      · subst hw
        have : ¬ d ≤ (votes (pf ++ [(hand, w)]) w : Int) := fun z => c3 ⟨z, q⟩
        omega
      · rw [votes_snoc, if_neg fun q => hw q.symm]
        have := h1.vp w hw
        have := h w
        dsimp only at *
        omega
  · have e2 : due2 hand e r v ⟨told, ef, pf, ec, pr, tk⟩ = (⟨told, ef, pf, ec, pr, tk⟩, []) := if_neg c2
    rw [e2]
    have main : ∀ tk' : Option Int, (tk' = E.took ∨ (E.took = none ∧ tk' = some v ∧ d ≤ (votes pf v : Int))) → (tk' = none → (∀ w, (votes E.pf w : Int) < d) → ∀ w, (votes pf w : Int) < d) → HearF hand first e r d k snd v E ⟨told, ef, pf, ec, pr, tk'⟩ (xs ++ []) := fun tk' ht hp3 =>
      ⟨h1.told, h1.toldS, h1.ech, h1.efM, h1.efN, h1.efE, h1.pfM, fun y h => (h1.pfN y h).imp id .inl, h1.pfE, .inl h1.pr, ht, h1.vm, fun x h => .inl (h1.xs1 x (by rw [List.append_nil] at h; exact h)), fun w h => (h1.nE w h).imp id fun q => ⟨q.1, List.mem_append_left _ q.2⟩, fun w h => .inl (h1.pr.symm.trans h), fun q h w => by
        by_cases hw : w = v
        · subst hw
          have : ¬ (e ≤ (votes ef w : Int) ∨ r ≤ (votes pf w : Int)) := fun z => c2 ⟨z, q⟩
          dsimp only
          omega
        · have a := h1.ve w hw
          have b := h1.vp w hw
          have := h w
          dsimp only at *
          omega, hp3⟩
    by_cases c3 : d ≤ (votes pf v : Int) ∧ tk = none
    · have e3 : due3 d v ⟨told, ef, pf, ec, pr, tk⟩ = ⟨told, ef, pf, ec, pr, some v⟩ := if_pos c3
      dsimp only
      rw [e3]
      exact main _ (.inr ⟨h1.tk.symm.trans c3.2, rfl, c3.1⟩) (by intro q; cases q)
    · have e3 : due3 d v ⟨told, ef, pf, ec, pr, tk⟩ = ⟨told, ef, pf, ec, pr, tk⟩ := if_neg c3
      dsimp only
      rw [e3]
      refine main _ (.inl h1.tk) fun q h w => ?_
      by_cases hw : w = v
      · subst hw
        have : ¬ d ≤ (votes pf w : Int) := fun z => c3 ⟨z, q⟩
        omega
      · have := h1.vp w hw
        have := h w
        dsimp only at *
        omega
end Spr
namespace Spr
open PySem L2
/-! ### one hearing keeps it -/
structure Fx (c : Cst) : Prop where
  t3 : 3 * c.t < c.n
  e : c.e = ((c.n + c.t) / 2 + 1 : Nat)
  r : c.r = (c.t + 1 : Nat)
  d : c.d = (2 * c.t + 1 : Nat)
  Ln : c.L.Nodup
  Li : ∀ l ∈ c.L, 0 ≤ l ∧ l < c.n
  Lt : c.L.length ≤ c.t
  f0 : 0 ≤ c.first
  f1 : c.first < c.n
  vn : c.first ∉ c.L → c.value ≠ none
/-- the honest hands that echoed v -/
def cl (c : Cst) (ears : List ME) (v : Int) : List Int := ((List.range c.n).filter fun (i : Nat) => decide ((i : Int) ∉ c.L ∧ (ears[i]?.map (·.echoed)) = some (some v))).map fun i : Nat => (i : Int)
theorem cl_length (c : Cst) (ears : List ME) (v : Int) : (cl c ears v).length = cnt c ears v := by
  unfold cl cnt
  rw [List.length_map]
theorem mem_cl {c : Cst} {ears : List ME} {v x : Int} : x ∈ cl c ears v ↔ ∃ i : Nat, x = (i : Int) ∧ Hn c i ∧ ∃ E, ears[i]? = some E ∧ E.echoed = some v := by
  unfold cl
  rw [List.mem_map]
  constructor
  · rintro ⟨i, hi, rfl⟩
    obtain ⟨h1, h2⟩ := List.mem_filter.mp hi
    have h2 := of_decide_eq_true h2
    refine ⟨i, rfl, ⟨List.mem_range.mp h1, h2.1⟩, ?_⟩
    cases e : ears[i]? with
    | none =>
      have := h2.2
      rw [e] at this
      cases this
    | some E =>
      have := h2.2
      rw [e] at this
      exact ⟨E, rfl, Option.some.inj this⟩
  · rintro ⟨i, rfl, hi, E, e, q⟩
    refine ⟨i, List.mem_filter.mpr ⟨List.mem_range.mpr hi.1, decide_eq_true ⟨hi.2, ?_⟩⟩, rfl⟩
    rw [e]
    exact congrArg some q
theorem nd_mapC {l : List Nat} (h : l.Nodup) : (l.map fun i : Nat => (i : Int)).Nodup := by
  refine List.Pairwise.map _ (fun a b hab => ?_) h
  omega
theorem cl_nd (c : Cst) (ears : List ME) (v : Int) : (cl c ears v).Nodup := nd_mapC (List.nodup_range.filter _)
/-- the honest hands -/
def hl (c : Cst) : List Int := ((List.range c.n).filter fun (i : Nat) => decide ((i : Int) ∉ c.L)).map fun i : Nat => (i : Int)
theorem mem_hl {c : Cst} {x : Int} : x ∈ hl c ↔ ∃ i : Nat, x = (i : Int) ∧ Hn c i := by
  unfold hl
  rw [List.mem_map]
  constructor
  · rintro ⟨i, hi, rfl⟩
    obtain ⟨h1, h2⟩ := List.mem_filter.mp hi
    exact ⟨i, rfl, List.mem_range.mp h1, of_decide_eq_true h2⟩
  · rintro ⟨i, rfl, hi⟩
    exact ⟨i, List.mem_filter.mpr ⟨List.mem_range.mpr hi.1, decide_eq_true hi.2⟩, rfl⟩
theorem hl_nd (c : Cst) : (hl c).Nodup := nd_mapC (List.nodup_range.filter _)
theorem hl_len (c : Cst) : c.n ≤ (hl c).length + c.L.length := by
  have := nd_sub_len (hl c ++ c.L) ((List.range c.n).map fun i : Nat => (i : Int)) (nd_mapC List.nodup_range) fun x hx => by
    obtain ⟨i, hi, rfl⟩ := List.mem_map.mp hx
    by_cases h : (i : Int) ∈ c.L
    · exact List.mem_append_right _ h
    · exact List.mem_append_left _ (mem_hl.mpr ⟨i, rfl, List.mem_range.mp hi, h⟩)
  rw [List.length_map, List.length_range, List.length_append] at this
  exact this
/-- two values cannot both have many echoes -/
theorem cnt_two {c : Cst} (F : Fx c) {ears : List ME} {v w : Int} (h : v ≠ w) : cnt c ears v + cnt c ears w + c.L.length ≤ c.n := by
  rw [← cl_length, ← cl_length, ← List.length_append, ← List.length_append]
  refine nodup_le c.n _ ?_ fun x hx => ?_
  · refine List.nodup_append.mpr ⟨List.nodup_append.mpr ⟨cl_nd _ _ _, cl_nd _ _ _, fun a ha b hb q => ?_⟩, F.Ln, fun a ha b hb q => ?_⟩
    · subst q
      obtain ⟨i, rfl, _, E, e1, e2⟩ := mem_cl.mp ha
      obtain ⟨j, hj, _, E', e3, e4⟩ := mem_cl.mp hb
      have : i = j := by omega
      subst this
      rw [e1] at e3
      cases e3
      rw [e2] at e4
      exact h (Option.some.inj e4)
    · subst q
      rcases List.mem_append.mp ha with q | q
      · obtain ⟨i, rfl, hi, _⟩ := mem_cl.mp q
        exact hi.2 hb
      · obtain ⟨i, rfl, hi, _⟩ := mem_cl.mp q
        exact hi.2 hb
  · rcases List.mem_append.mp hx with q | q
    · rcases List.mem_append.mp q with q | q
      · obtain ⟨i, rfl, hi, _⟩ := mem_cl.mp q
        have := hi.1
        omega
      · obtain ⟨i, rfl, hi, _⟩ := mem_cl.mp q
        have := hi.1
        omega
    · exact F.Li x q
theorem votes_cnt {c : Cst} {ears : List ME} {m : Pm} {v : Int} (nd : (m.map (·.1)).Nodup) (hr : ∀ x ∈ m, 0 ≤ x.1 ∧ x.1 < c.n) (h : ∀ i : Nat, Hn c i → ((i : Int), v) ∈ m → ∃ E, ears[i]? = some E ∧ E.echoed = some v) : votes m v ≤ cnt c ears v + c.L.length := by
  rw [← cl_length, ← List.length_append]
  refine votes_sub nd fun k hk => ?_
  by_cases hL : k ∈ c.L
  · exact List.mem_append_right _ hL
  · obtain ⟨h0, h1⟩ := hr _ hk
    obtain ⟨i, rfl⟩ := Int.eq_ofNat_of_zero_le h0
    have hi : Hn c i := ⟨by dsimp only at h1; omega, hL⟩
    exact List.mem_append_left _ (mem_cl.mpr ⟨i, rfl, hi, h i hi hk⟩)
/-- more than the liars: an honest one is among them -/
theorem votes_hn {c : Cst} {m : Pm} {v : Int} (nd : (m.map (·.1)).Nodup) (hr : ∀ x ∈ m, 0 ≤ x.1 ∧ x.1 < c.n) (h : c.L.length < votes m v) : ∃ i : Nat, Hn c i ∧ ((i : Int), v) ∈ m := by
  refine Classical.byContradiction fun z => ?_
  have := votes_sub (B := c.L) (v := v) nd fun k hk => Classical.byContradiction fun hL => by
    obtain ⟨h0, h1⟩ := hr _ hk
    obtain ⟨i, rfl⟩ := Int.eq_ofNat_of_zero_le h0
    exact z ⟨i, ⟨by dsimp only at h1; omega, hL⟩, hk⟩
  omega
/-- what is not yet heard -/
theorem InvU.hear {c : Cst} {ears : List ME} {U U' : Sl → Prop} (F : Fx c) (I : InvU c ears U none) {hand : Nat} {E : ME} {s : Sl} (us : U s) (ht : s.to = (hand : Int)) (hh : Hn c hand) (he : ears[hand]? = some E)
    (s0 : 0 ≤ s.frm) (s1 : s.frm < c.n) (hne : s.kd ≠ .said → s.frm ≠ (hand : Int))
    {E' : ME} {xs : List (Kd × Int)} (hE' : (E', xs) = Spr.hear hand c.first c.e c.r c.d s.kd s.frm s.val E)
    (u1 : ∀ z, U z → U' z ∨ z = s) (u2 : ∀ z, U' z → U z ∨ ∃ x ∈ xs, ∃ j : Nat, z = ⟨hand, j, x.1, x.2⟩) (u3 : ∀ x ∈ xs, ∀ j : Nat, Hn c j → j ≠ hand → U' ⟨hand, j, x.1, x.2⟩) :
    InvU c (ears.set hand E') U' none := by
  have wE := I.W hand E he
  have hEe : E.echoed = E.told := by
    rcases I.Ee hand E hh he with q | ⟨v, q, _⟩
    · exact q
    · cases q
  have hn1 : hand < c.n := hh.1
  have hW : WfEar c.n hand E' := by
    have := hear_wf (k := s.kd) (first := c.first) (e := c.e) (r := c.r) (d := c.d) (v := s.val) wE hne s0 s1 (by omega) (by omega)
    rw [← hE'] at this
    exact this
  have hf := hearF hand c.first c.e c.r c.d s.kd s.frm s.val E hEe wE
  rw [← hE'] at hf
  dsimp only at hf
  clear hE'
  obtain ⟨f, hto, k, v⟩ := s
  dsimp only at ht s0 s1 hne hf u1 u2 u3
  subst ht
  obtain ⟨p, rfl⟩ := Int.eq_ofNat_of_zero_le s0
  have self : (ears.set hand E')[hand]? = some E' := List.getElem?_set_self (List.getElem?_eq_some_iff.mp he).1
  have me : ∀ v, E.echoed = some v → E'.echoed = some v := fun w h => by
    rw [hf.ech]
    rcases hf.told with q | ⟨q, _⟩
    · rw [q, ← hEe]
      exact h
    · rw [hEe, q] at h
      cases h
  have mp : ∀ v, E.promised = some v → E'.promised = some v := fun w h => by
    rcases hf.pr with q | ⟨q, _⟩
    · rw [q]
      exact h
    · rw [q] at h
      cases h
  have mt : ∀ v, E.told = some v → E'.told = some v := fun w h => by
    rw [← hf.ech]
    exact me w (hEe.trans h)
  have upE : ∀ {h : Nat} {v : Int}, (∃ F, ears[h]? = some F ∧ F.echoed = some v) → ∃ F, (ears.set hand E')[h]? = some F ∧ F.echoed = some v := fun {h v} ⟨F, h1, h2⟩ => by
    by_cases hi : hand = h
    · subst hi
      rw [he] at h1
      cases h1
      exact ⟨E', self, me v h2⟩
    · exact ⟨F, by rw [List.getElem?_set_ne hi]; exact h1, h2⟩
  have upP : ∀ {h : Nat} {v : Int}, (∃ F, ears[h]? = some F ∧ F.promised = some v) → ∃ F, (ears.set hand E')[h]? = some F ∧ F.promised = some v := fun {h v} ⟨F, h1, h2⟩ => by
    by_cases hi : hand = h
    · subst hi
      rw [he] at h1
      cases h1
      exact ⟨E', self, mp v h2⟩
    · exact ⟨F, by rw [List.getElem?_set_ne hi]; exact h1, h2⟩
  have hA : ∀ (h : Nat) w, ((h : Int), w) ∈ E'.ef → Hn c h → ((h : Int), w) ∈ E.ef ∨ ∃ E1, (ears.set hand E')[h]? = some E1 ∧ E1.echoed = some w := fun h w q hn => by
    rcases hf.efN _ q with z | ⟨z, y⟩ | ⟨y, z⟩
    · exact .inl z
    · cases y
      exact .inr (upE ((I.C _ p us rfl hn).2.1 z))
    · have e1 : (h : Int) = (hand : Int) := congrArg Prod.fst y
      have e2 : w = v := congrArg Prod.snd y
      have : h = hand := by omega
      subst this
      subst e2
      exact .inr ⟨E', self, z⟩
  have hJa : ∀ w, E'.promised = some w → E.promised = some w ∨ c.e ≤ (cnt c (ears.set hand E') w : Int) + c.L.length := fun w h => by
    rcases hf.pr with q | ⟨_, q, z⟩
    · exact .inl (q.symm.trans h)
    · rw [q] at h
      cases h
      refine .inr ?_
      rcases z with z | ⟨m, z, nd, mem⟩
      · have := votes_cnt (c := c) (ears := ears.set hand E') (v := v) hW.nd1 hW.in1 fun i hi hm => by
          rcases hA i v hm hi with y | y
          · exact upE (I.A hand E i v hh he y hi)
          · exact y
        omega
      · have hr : ∀ x ∈ m, 0 ≤ x.1 ∧ x.1 < c.n := fun x hx => by
          rcases mem x hx with y | ⟨_, y⟩
          · exact wE.in2 x y
          · rw [y]
            exact ⟨s0, s1⟩
        have := F.Lt
        have hr' := F.r
        obtain ⟨i, hi, hm⟩ := votes_hn (c := c) nd hr (v := v) (by omega)
        have : ∃ F', ears[i]? = some F' ∧ F'.promised = some v := by
          rcases mem _ hm with y | ⟨y1, y2⟩
          · exact I.B hand E i v hh he y hi
          · have e1 : (i : Int) = (p : Int) := congrArg Prod.fst y2
            have : i = p := by omega
            subst this
            exact (I.C _ i us rfl hi).2.2 y1
        obtain ⟨F', h1, h2⟩ := this
        have := I.J i F' v hi h1 h2
        have := cnt_mono (c := c) he me v
        omega
  refine InvU.upd I hh he me mp mt hf.efM hf.pfM hA ?_ ?_ ?_ (.inl hf.ech) (fun i v q => by cases q) (fun i v q => by cases q) hJa ?_ ?_ ?_ ?_ ?_ ?_ hW
  · intro h w q hn
    rcases hf.pfN _ q with z | ⟨z, y⟩ | ⟨y, z⟩
    · exact .inl z
    · cases y
      exact .inr (upP ((I.C _ p us rfl hn).2.2 z))
    · have e1 : (h : Int) = (hand : Int) := congrArg Prod.fst y
      have e2 : w = v := congrArg Prod.snd y
      have : h = hand := by omega
      subst this
      subst e2
      exact .inr ⟨E', self, z⟩
  · intro z hz
    rcases u2 z hz with q | ⟨x, hx, j, rfl⟩
    · exact .inl q
    · refine .inr ⟨rfl, ?_, ?_, ?_⟩
      · rcases hf.xs1 x hx with q | q
        · intro y
          rw [show x.1 = .said from y] at q
          cases q.1
        · intro y
          rw [show x.1 = .said from y] at q
          cases q.1
      · intro y
        rcases hf.xs1 x hx with q | q
        · exact q.2
        · rw [show x.1 = .echo from y] at q
          cases q.1
      · intro y
        rcases hf.xs1 x hx with q | q
        · rw [show x.1 = .prom from y] at q
          cases q.1
        · exact q.2
  · intro hfl w h
    rcases hf.told with q | ⟨_, q1, q2, q3⟩
    · exact I.D hfl hand E w hh he (q.symm.trans h)
    · rw [q3] at h
      cases h
      have hp : Hn c p := ⟨by omega, by rw [q2]; exact hfl⟩
      exact ((I.C _ p us rfl hp).1 q1).2
  · intro w h
    rcases hf.tk with q | ⟨_, q1, q2⟩
    · have := I.T hand E w hh he (q.symm.trans h)
      have := hf.vM w
      omega
    · rw [q1] at h
      cases h
      exact q2
  · intro z hz
    rcases u1 z hz with q | q
    · exact .inl q
    · subst q
      refine .inr ⟨rfl, fun a b => hf.toldS a b, fun a h b hn => ?_, fun a h b hn => ?_⟩
      · have a : k = .echo := a
        have b : (p : Int) = (h : Int) := b
        have : p = h := by omega
        subst this
        rcases hf.efE a with q | q
        · obtain ⟨y, hy, e1⟩ := List.mem_map.mp (hasK_iff.mp q)
          obtain ⟨y1, y2⟩ := y
          have e1 : y1 = (p : Int) := e1
          subst e1
          obtain ⟨F1, g1, g2⟩ := I.A hand E p y2 hh he hy hn
          obtain ⟨F2, g3, g4⟩ := (I.C _ p us rfl hn).2.1 a
          rw [g1] at g3
          cases g3
          rw [g2] at g4
          cases g4
          exact hf.efM _ hy
        · exact q
      · have a : k = .prom := a
        have b : (p : Int) = (h : Int) := b
        have : p = h := by omega
        subst this
        rcases hf.pfE a with q | q
        · obtain ⟨y, hy, e1⟩ := List.mem_map.mp (hasK_iff.mp q)
          obtain ⟨y1, y2⟩ := y
          have e1 : y1 = (p : Int) := e1
          subst e1
          obtain ⟨F1, g1, g2⟩ := I.B hand E p y2 hh he hy hn
          obtain ⟨F2, g3, g4⟩ := (I.C _ p us rfl hn).2.2 a
          rw [g1] at g3
          cases g3
          rw [g2] at g4
          cases g4
          exact hf.pfM _ hy
        · exact q
  · intro w h
    rcases hf.nE w h with q | ⟨q1, q2⟩
    · exact .inl q
    · exact .inr ⟨q1, fun j hj hne => u3 _ q2 j hj hne⟩
  · intro w h
    rcases hf.nP w h with q | ⟨q1, q2⟩
    · exact .inl q
    · exact .inr ⟨q1, fun j hj hne => u3 _ q2 j hj hne⟩
  · intro w h _
    refine hf.p2 h (fun u => ?_) w
    have : E.promised = none := by
      rcases hf.pr with q | ⟨q, _⟩
      · exact q.symm.trans h
      · exact q
    exact I.P2 hand E u hh he this (by intro q; cases q)
  · intro w h _
    refine hf.p3 h (fun u => ?_) w
    have : E.took = none := by
      rcases hf.tk with q | ⟨q, _⟩
      · exact q.symm.trans h
      · exact q
    exact I.P3 hand E u hh he this (by intro q; cases q)
end Spr
namespace Spr
open PySem L2
/-! ### what it tells -/
theorem InvU.prE {c : Cst} {ears : List ME} {U : Sl → Prop} (F : Fx c) (I : InvU c ears U none) {i : Nat} {E : ME} {v : Int} (hi : Hn c i) (he : ears[i]? = some E) (ht : E.took = some v) : ∃ (j : Nat) (E' : ME), Hn c j ∧ ears[j]? = some E' ∧ E'.promised = some v := by
  have hT := I.T i E v hi he ht
  have w := I.W i E he
  have := F.Lt
  have := F.d
  obtain ⟨j, hj, hm⟩ := votes_hn (c := c) w.nd2 w.in2 (v := v) (by omega)
  obtain ⟨E', h1, h2⟩ := I.B i E j v hi he hm hj
  exact ⟨j, E', hj, h1, h2⟩
theorem InvU.pr2 {c : Cst} {ears : List ME} {U : Sl → Prop} (F : Fx c) (I : InvU c ears U none) {i j : Nat} {E E' : ME} {v w : Int} (hi : Hn c i) (hj : Hn c j) (he : ears[i]? = some E) (he' : ears[j]? = some E') (h1 : E.promised = some v) (h2 : E'.promised = some w) : v = w := by
  refine Classical.byContradiction fun ne => ?_
  have a := I.J i E v hi he h1
  have b := I.J j E' w hj he' h2
  have d := cnt_two F (ears := ears) ne
  have := F.Lt
  have := F.e
  have := F.t3
  omega
theorem InvU.agree {c : Cst} {ears : List ME} {U : Sl → Prop} (F : Fx c) (I : InvU c ears U none) {i j : Nat} {E E' : ME} {v w : Int} (hi : Hn c i) (hj : Hn c j) (he : ears[i]? = some E) (he' : ears[j]? = some E') (h1 : E.took = some v) (h2 : E'.took = some w) : v = w := by
  obtain ⟨a, A, ha, hA, pa⟩ := I.prE F hi he h1
  obtain ⟨b, B, hb, hB, pb⟩ := I.prE F hj he' h2
  exact I.pr2 F ha hb hA hB pa pb
theorem InvU.prV {c : Cst} {ears : List ME} {U : Sl → Prop} (F : Fx c) (I : InvU c ears U none) (hf : c.first ∉ c.L) {i : Nat} {E : ME} {v : Int} (hi : Hn c i) (he : ears[i]? = some E) (h1 : E.promised = some v) : c.value = some v := by
  have a := I.J i E v hi he h1
  have hc : 0 < cnt c ears v := by
    have := F.Lt
    have := F.e
    have := F.t3
    omega
  rw [← cl_length] at hc
  obtain ⟨x, hx⟩ := List.exists_mem_of_length_pos hc
  obtain ⟨j, rfl, hj, E', e1, e2⟩ := mem_cl.mp hx
  refine I.D hf j E' v hj e1 ?_
  rcases I.Ee j E' hj e1 with q | ⟨_, q, _⟩
  · exact q.symm.trans e2
  · cases q
theorem InvU.fst {c : Cst} {ears : List ME} {U : Sl → Prop} (F : Fx c) (I : InvU c ears U none) (hf : c.first ∉ c.L) {i : Nat} {E : ME} {v : Int} (hi : Hn c i) (he : ears[i]? = some E) (h1 : E.took = some v) : c.value = some v := by
  obtain ⟨a, A, ha, hA, pa⟩ := I.prE F hi he h1
  exact I.prV F hf ha hA pa
theorem InvU.earAt {c : Cst} {ears : List ME} {U : Sl → Prop} {x : Option (Nat × Int)} (I : InvU c ears U x) {i : Nat} (hi : Hn c i) : ∃ E, ears[i]? = some E := by
  have := hi.1
  have := I.el
  exact ⟨_, List.getElem?_eq_getElem (by omega)⟩
/-- all honest ones promised v and nothing is under way: all take it -/
theorem InvU.takeAll {c : Cst} {ears : List ME} {U : Sl → Prop} (F : Fx c) (I : InvU c ears U none) (h0 : ∀ s, ¬ U s) {v : Int} (hp : ∀ (i : Nat) (E : ME), Hn c i → ears[i]? = some E → E.promised = some v) {j : Nat} {E : ME} (hj : Hn c j) (he : ears[j]? = some E) : E.took ≠ none := by
  intro q
  have p3 := I.P3 j E v hj he q (by intro q; cases q)
  have := votes_ge (m := E.pf) (v := v) (hl_nd c) fun x hx => by
    obtain ⟨i, rfl, hi⟩ := mem_hl.mp hx
    obtain ⟨Ei, hEi⟩ := I.earAt hi
    rcases I.L2 i j Ei E v hi hj hEi he (hp i Ei hi hEi) with z | z
    · exact z
    · exact absurd z (h0 _)
  have := hl_len c
  have := F.Lt
  have := F.d
  have := F.t3
  omega
theorem InvU.restFst {c : Cst} {ears : List ME} {U : Sl → Prop} (F : Fx c) (I : InvU c ears U none) (h0 : ∀ s, ¬ U s) (hf : c.first ∉ c.L) {j : Nat} {E : ME} (hj : Hn c j) (he : ears[j]? = some E) : E.took ≠ none := by
  obtain ⟨v, hv⟩ : ∃ v, c.value = some v := by
    cases e : c.value with
    | none => exact absurd e (F.vn hf)
    | some v => exact ⟨v, rfl⟩
  have hech : ∀ (i : Nat) (E : ME), Hn c i → ears[i]? = some E → E.echoed = some v := fun i E hi he => by
    rcases I.L0 hf v hv i E hi he with q | q
    · rcases I.Ee i E hi he with z | ⟨_, z, _⟩
      · rw [z]
        cases e : E.told with
        | none => exact absurd e q
        | some w =>
          have := I.D hf i E w hi he e
          rw [hv] at this
          exact this.symm
      · cases z
    · exact absurd q (h0 _)
  refine I.takeAll F h0 (v := v) (fun i E hi he => ?_) hj he
  cases e : E.promised with
  | some w =>
    have := I.prV F hf hi he e
    rw [hv] at this
    exact this.symm
  | none =>
    have p2 := (I.P2 i E v hi he e (by intro q; cases q)).1
    have := votes_ge (m := E.ef) (v := v) (hl_nd c) fun x hx => by
      obtain ⟨k, rfl, hk⟩ := mem_hl.mp hx
      obtain ⟨Ek, hEk⟩ := I.earAt hk
      rcases I.L1 k i Ek E v hk hi hEk he (hech k Ek hk hEk) with z | z
      · exact z
      · exact absurd z (h0 _)
    have := hl_len c
    have := F.Lt
    have := F.e
    have := F.t3
    omega
theorem InvU.restAll {c : Cst} {ears : List ME} {U : Sl → Prop} (F : Fx c) (I : InvU c ears U none) (h0 : ∀ s, ¬ U s) {i j : Nat} {E E' : ME} {v : Int} (hi : Hn c i) (hj : Hn c j) (he : ears[i]? = some E) (he' : ears[j]? = some E') (h1 : E.took = some v) : E'.took ≠ none := by
  obtain ⟨b, B, hb, hB, pb⟩ := I.prE F hi he h1
  refine I.takeAll F h0 (v := v) (fun k K hk hK => ?_) hj he'
  cases e : K.promised with
  | some w => rw [I.pr2 F hk hb hK hB e pb]
  | none =>
    have p2 := (I.P2 k K v hk hK e (by intro q; cases q)).2
    have hT := I.T i E v hi he h1
    have w := I.W i E he
    have := votes_sub (m := E.pf) (v := v) (B := (K.pf.filter fun p => decide (p.2 = v)).map (·.1) ++ c.L) w.nd2 fun x hx => by
      by_cases hL : x ∈ c.L
      · exact List.mem_append_right _ hL
      · obtain ⟨x0, x1⟩ := w.in2 _ hx
        obtain ⟨a, rfl⟩ := Int.eq_ofNat_of_zero_le x0
        have ha : Hn c a := ⟨by dsimp only at x1; omega, hL⟩
        obtain ⟨A, hA, pa⟩ := I.B i E a v hi he hx ha
        rcases I.L2 a k A K v ha hk hA hK pa with z | z
        · exact List.mem_append_left _ (List.mem_map.mpr ⟨_, List.mem_filter.mpr ⟨z, decide_eq_true rfl⟩, rfl⟩)
        · exact absurd z (h0 _)
    rw [List.length_append, ← votes_keys] at this
    have := F.Lt
    have := F.d
    have := F.r
    omega
theorem pair_uniq {l : List (Int × Sl)} (nd : (l.map (·.1)).Nodup) {k : Int} {a b : Sl} (ha : (k, a) ∈ l) (hb : (k, b) ∈ l) : a = b := by
  induction l with
  | nil => cases ha
  | cons x r ih =>
    obtain ⟨hx, hr⟩ := List.nodup_cons.mp nd
    rcases List.mem_cons.mp ha with p | p
    · rcases List.mem_cons.mp hb with q | q
      · exact congrArg Prod.snd (p.trans q.symm)
      · exact absurd (List.mem_map.mpr ⟨_, q, by rw [← p]⟩) hx
    · rcases List.mem_cons.mp hb with q | q
      · exact absurd (List.mem_map.mpr ⟨_, p, by rw [← q]⟩) hx
      · exact ih hr p q
/-! ### on a Spread -/
def US (S : MS) : Sl → Prop := fun s => ∃ k, (k, s) ∈ S.slips
structure Sd (c : Cst) (S : MS) : Prop where
  wf : WfS S
  n : S.n = c.n
  e : S.e = c.e
  r : S.r = c.r
  d : S.d = c.d
  L : S.liars = c.L
  f : S.first = c.first
  v : S.value = c.value
  I : InvU c S.ears (US S) none
theorem US_putTo (S : MS) (snd : Int) (k : Kd) (v : Int) (s : Sl) : ∀ i, US (putTo S snd k v i) s ↔ US S s ∨ ∃ j : Nat, j < i ∧ hears S snd j = true ∧ s = ⟨snd, (j : Int), k, v⟩
  | 0 => ⟨.inl, fun h => h.elim id fun ⟨_, q, _⟩ => absurd q (Nat.not_lt_zero _)⟩
  | i + 1 => by
    have ih := US_putTo S snd k v s i
    unfold putTo
    by_cases hh : hears S snd i = true
    · rw [if_pos hh]
      have e1 : US (put1 (putTo S snd k v i) ⟨snd, (i : Int), k, v⟩) s ↔ US (putTo S snd k v i) s ∨ s = ⟨snd, (i : Int), k, v⟩ := by
        constructor
        · rintro ⟨q, hq⟩
          rcases List.mem_append.mp hq with z | z
          · exact .inl ⟨q, z⟩
          · exact .inr (congrArg Prod.snd (List.mem_singleton.mp z))
        · rintro (⟨q, hq⟩ | hq)
          · exact ⟨q, List.mem_append_left _ hq⟩
          · exact ⟨_, List.mem_append_right _ (List.mem_singleton.mpr (by rw [hq]))⟩
      rw [e1, ih]
      constructor
      · rintro ((q | ⟨j, h1, h2⟩) | q)
        · exact .inl q
        · exact .inr ⟨j, Nat.lt_succ_of_lt h1, h2⟩
        · exact .inr ⟨i, Nat.lt_succ_self i, hh, q⟩
      · rintro (q | ⟨j, h1, h2, h3⟩)
        · exact .inl (.inl q)
        · rcases Nat.lt_succ_iff_lt_or_eq.mp h1 with z | z
          · exact .inl (.inr ⟨j, z, h2, h3⟩)
          · subst z
            exact .inr h3
    · rw [if_neg hh, ih]
      constructor
      · rintro (q | ⟨j, h1, h2⟩)
        · exact .inl q
        · exact .inr ⟨j, Nat.lt_succ_of_lt h1, h2⟩
      · rintro (q | ⟨j, h1, h2, h3⟩)
        · exact .inl q
        · rcases Nat.lt_succ_iff_lt_or_eq.mp h1 with z | z
          · exact .inr ⟨j, z, h2, h3⟩
          · subst z
            exact absurd h2 hh
theorem US_putSends (hand : Int) (s : Sl) : ∀ (xs : List (Kd × Int)) (S : MS), US (putSends S hand xs) s ↔ US S s ∨ ∃ x ∈ xs, ∃ j : Nat, j < S.n ∧ hears S hand j = true ∧ s = ⟨hand, (j : Int), x.1, x.2⟩
  | [], S => ⟨.inl, fun h => h.elim id fun ⟨_, q, _⟩ => by cases q⟩
  | x :: xs, S => by
    have ih := US_putSends hand s xs (putAll S hand x.1 x.2)
    have kp := putTo_keeps S hand x.1 x.2 S.n
    have hk : ∀ j, hears (putAll S hand x.1 x.2) hand j = hears S hand j := fun j => by
      unfold hears
      rw [show (putAll S hand x.1 x.2).liars = S.liars from kp.2.2.2.2.1]
    unfold putSends
    rw [ih]
    have := US_putTo S hand x.1 x.2 s S.n
    rw [show US (putAll S hand x.1 x.2) s ↔ _ from this, show (putAll S hand x.1 x.2).n = S.n from kp.1]
    constructor
    · rintro ((q | q) | ⟨y, hy, j, h1, h2, h3⟩)
      · exact .inl q
      · exact .inr ⟨x, List.mem_cons_self, q⟩
      · exact .inr ⟨y, List.mem_cons_of_mem _ hy, j, h1, by rw [← hk]; exact h2, h3⟩
    · rintro (q | ⟨y, hy, j, h1, h2, h3⟩)
      · exact .inl (.inl q)
      · rcases List.mem_cons.mp hy with z | z
        · subst z
          exact .inl (.inr ⟨j, h1, h2, h3⟩)
        · exact .inr ⟨y, z, j, h1, by rw [hk]; exact h2, h3⟩
/-- one hearing -/
theorem Inv_hearS {c : Cst} (F : Fx c) {S : MS} {U : Sl → Prop} (hn : S.n = c.n) (he : S.e = c.e) (hr : S.r = c.r) (hd : S.d = c.d) (hL : S.liars = c.L) (hf : S.first = c.first) (I : InvU c S.ears U none)
    {hand : Nat} {snd : Int} {k : Kd} {v : Int} (hh : Hn c hand) (us : U ⟨snd, hand, k, v⟩) (s0 : 0 ≤ snd) (s1 : snd < c.n) (hne : k ≠ .said → snd ≠ (hand : Int))
    (u1 : ∀ z, U z → US S z ∨ z = ⟨snd, hand, k, v⟩) (u2 : ∀ z, US S z → U z) : InvU c (hearS S hand snd k v).ears (US (hearS S hand snd k v)) none := by
  have hel := I.el
  have hlt := hh.1
  have hE : S.ears[hand]? = some (earOf S hand) := by
    unfold earOf
    rw [List.getD_eq_getElem?_getD, Int.toNat_natCast, List.getElem?_eq_getElem (by omega)]
    rfl
  have kp := hearS_keeps S hand snd k v
  have ears : (hearS S hand snd k v).ears = S.ears.set hand (Spr.hear hand S.first S.e S.r S.d k snd v (earOf S hand)).1 := by
    unfold hearS
    rw [(putSends_keeps _ _ _).2.2.2.2.2.2.2.1]
    rfl
  rw [ears]
  have iff : ∀ z, US (hearS S hand snd k v) z ↔ US S z ∨ ∃ x ∈ (Spr.hear hand S.first S.e S.r S.d k snd v (earOf S hand)).2, ∃ j : Nat, j < S.n ∧ hears S hand j = true ∧ z = ⟨hand, (j : Int), x.1, x.2⟩ := fun z => by
    unfold hearS
    exact US_putSends hand z _ _
  refine InvU.hear F I us rfl hh hE s0 s1 hne (E' := (Spr.hear hand S.first S.e S.r S.d k snd v (earOf S hand)).1) (xs := (Spr.hear hand S.first S.e S.r S.d k snd v (earOf S hand)).2) ?_ ?_ ?_ ?_
  · rw [hf, he, hr, hd]
  · intro z hz
    rcases u1 z hz with q | q
    · exact .inl ((iff z).mpr (.inl q))
    · exact .inr q
  · intro z hz
    rcases (iff z).mp hz with q | ⟨x, hx, j, _, _, q⟩
    · exact .inl (u2 z q)
    · exact .inr ⟨x, hx, j, q⟩
  · intro x hx j hj hne
    refine (iff _).mpr (.inr ⟨x, hx, j, by rw [hn]; exact hj.1, hears_iff.mpr ⟨by omega, by rw [hL]; exact hj.2⟩, rfl⟩)
theorem Sd.dlv {c : Cst} (F : Fx c) {S : MS} (x : Sd c S) {k : Int} {s : Sl} (h : (k, s) ∈ S.slips) : Sd c (Spr.dlv S k s) := by
  have wl := x.wf.sl _ h
  dsimp only at wl
  have kp := hearS_keeps (popLog S k) s.to s.frm s.kd s.val
  have t0 := wl.t0
  obtain ⟨f, to, kd, v⟩ := s
  dsimp only at t0
  obtain ⟨hand, rfl⟩ := Int.eq_ofNat_of_zero_le t0
  have hn := x.n
  have t1 : ((hand : Nat) : Int) < S.n := wl.t1
  have f1 : f < (S.n : Int) := wl.f1
  refine ⟨dlv_wf x.wf h, kp.1.trans x.n, kp.2.1.trans x.e, kp.2.2.1.trans x.r, kp.2.2.2.1.trans x.d, kp.2.2.2.2.1.trans x.L, kp.2.2.2.2.2.1.trans x.f, kp.2.2.2.2.2.2.1.trans x.v, ?_⟩
  rw [dlv_eq]
  refine Inv_hearS F (S := popLog S k) (U := US S) x.n x.e x.r x.d x.L x.f x.I ⟨by rw [← hn]; omega, by rw [← x.L]; exact wl.th⟩ ⟨k, h⟩ wl.f0 (by rw [← hn]; exact f1) (fun _ => wl.ne) ?_ ?_
  · rintro z ⟨q, hq⟩
    by_cases e : q = k
    · subst e
      refine .inr ?_
      have nd := asc_nodup x.wf.asc
      exact pair_uniq nd hq h
    · exact .inl ⟨q, List.mem_filter.mpr ⟨hq, decide_eq_true e⟩⟩
  · rintro z ⟨q, hq⟩
    exact ⟨q, (List.mem_filter.mp hq).1⟩
end Spr
namespace Spr
open PySem L2
theorem InvU.more {c : Cst} {ears : List ME} {U U' : Sl → Prop} {x : Option (Nat × Int)} (I : InvU c ears U x) (h : ∀ s, U s → U' s) (h' : ∀ s, U' s → U s ∨ s.frm ∈ c.L) : InvU c ears U' x :=
  ⟨I.el, I.W, I.A, I.B, fun s h us e hn => by
    rcases h' s us with q | q
    · exact I.C s h q e hn
    · rw [e] at q
      exact absurd q hn.2, I.D, I.Ee, I.J, I.T, fun hf v hv i E hi he => (I.L0 hf v hv i E hi he).imp id (h _), fun i j Ei Ej v hi hj h1 h2 h3 => (I.L1 i j Ei Ej v hi hj h1 h2 h3).imp id (h _), fun i j Ei Ej v hi hj h1 h2 h3 => (I.L2 i j Ei Ej v hi hj h1 h2 h3).imp id (h _), I.P2, I.P3⟩
theorem Sd.lie {c : Cst} {S : MS} (x : Sd c S) {l t : Int} {k : Kd} {v : Int} (hl : l ∈ S.liars) (ht : honest S t = true) : Sd c (lieS S l t k v) := by
  refine ⟨lieS_wf x.wf hl ht, x.n, x.e, x.r, x.d, x.L, x.f, x.v, x.I.more ?_ ?_⟩
  · rintro s ⟨q, hq⟩
    exact ⟨q, List.mem_append_left _ hq⟩
  · rintro s ⟨q, hq⟩
    rcases List.mem_append.mp hq with z | z
    · exact .inl ⟨q, z⟩
    · have : s = ⟨l, t, k, v⟩ := congrArg Prod.snd (List.mem_singleton.mp z)
      rw [this]
      exact .inr (by rw [← x.L]; exact hl)
theorem Sd.rest {c : Cst} (F : Fx c) : ∀ (m : Nat) {S : MS}, Sd c S → Sd c (restN m S)
  | 0, _, x => x
  | m + 1, S, x => by
    show Sd c (restN m (stepR S))
    refine Sd.rest F m ?_
    unfold stepR
    split
    · exact x
    · rename_i y r e
      exact x.dlv F (by rw [e]; exact List.mem_cons_self)
theorem Sd.init {n t : Nat} {e r d : Int} {liars : List Int} {first : Int} {value : Option Int} (p : MkP n e r d liars first value) (F : Fx ⟨n, t, e, r, d, liars, first, value⟩) : Sd ⟨n, t, e, r, d, liars, first, value⟩ (initS n e r d liars first value) := by
  have e1 := F.e
  have e2 := F.r
  have e3 := F.d
  dsimp only at e1 e2 e3
  have rep : ∀ {i : Nat} {E : ME}, (List.replicate n (⟨none, [], [], none, none, none⟩ : ME))[i]? = some E → E = ⟨none, [], [], none, none, none⟩ := fun h => List.eq_of_mem_replicate (List.mem_of_getElem? h)
  have w0 := init0_wf p
  have base : ∀ U : Sl → Prop, (∀ s, U s → first ∉ liars ∧ s.frm = first ∧ s.kd = .said ∧ value = some s.val) → (first ∉ liars → ∀ v, value = some v → ∀ i : Nat, (i : Int) < n → (i : Int) ∉ liars → U ⟨first, i, .said, v⟩) → InvU ⟨n, t, e, r, d, liars, first, value⟩ (List.replicate n ⟨none, [], [], none, none, none⟩) U none := fun U hu hl => by
    refine ⟨List.length_replicate, fun i E h => w0.ears i E h, fun i E h v hi he m => ?_, fun i E h v hi he m => ?_, fun s h us hf hn => ?_, fun hf i E v hi he q => ?_, fun i E hi he => ?_, fun i E v hi he q => ?_, fun i E v hi he q => ?_, fun hf v hv i E hi he => .inr (hl hf v hv i (by have := hi.1; dsimp only at this; omega) hi.2), fun i j Ei Ej v hi hj h1 h2 h3 => ?_, fun i j Ei Ej v hi hj h1 h2 h3 => ?_, fun i E v hi he q _ => ?_, fun i E v hi he q _ => ?_⟩
    · rw [rep he] at m
      cases m
    · rw [rep he] at m
      cases m
    · obtain ⟨h1, h2, h3, h4⟩ := hu s us
      exact ⟨fun _ => ⟨h2, h4⟩, fun z => (by rw [h3] at z; cases z), fun z => (by rw [h3] at z; cases z)⟩
    · rw [rep he] at q
      cases q
    · rw [rep he]
      exact .inl rfl
    · rw [rep he] at q
      cases q
    · rw [rep he] at q
      cases q
    · rw [rep h1] at h3
      cases h3
    · rw [rep h1] at h3
      cases h3
    · rw [rep he]
      show ((0 : Nat) : Int) < e ∧ ((0 : Nat) : Int) < r
      omega
    · rw [rep he]
      show ((0 : Nat) : Int) < d
      omega
  have zero : first ∈ liars → Sd ⟨n, t, e, r, d, liars, first, value⟩ (init0 n e r d liars first value) := fun hf =>
    ⟨w0, rfl, rfl, rfl, rfl, rfl, rfl, rfl, base _ (fun s ⟨q, hq⟩ => by cases hq) fun h => absurd hf h⟩
  have wi := initS_wf p
  revert wi
  unfold initS
  cases value with
  | none =>
    intro _
    refine zero (Classical.byContradiction fun h => ?_)
    obtain ⟨i, q, _⟩ := p.v1 h
    cases q
  | some v =>
    dsimp only
    by_cases hi : inI first liars = true
    · rw [if_pos hi]
      exact fun _ => zero (of_decide_eq_true hi)
    · rw [if_neg hi]
      intro wi
      have hf : first ∉ liars := fun q => hi (decide_eq_true q)
      obtain ⟨fh, rfl⟩ := Int.eq_ofNat_of_zero_le p.f0
      have f1 := p.f1
      have kp := putTo_keeps (init0 n e r d liars fh (some v)) fh .said v n
      have kq := hearS_keeps (putAll (init0 n e r d liars fh (some v)) fh .said v) fh fh .said v
      refine ⟨wi, kq.1.trans kp.1, kq.2.1.trans kp.2.1, kq.2.2.1.trans kp.2.2.1, kq.2.2.2.1.trans kp.2.2.2.1, kq.2.2.2.2.1.trans kp.2.2.2.2.1, kq.2.2.2.2.2.1.trans kp.2.2.2.2.2.1, kq.2.2.2.2.2.2.1.trans kp.2.2.2.2.2.2.1, ?_⟩
      have iff := fun s => US_putTo (init0 n e r d liars fh (some v)) fh .said v s n
      refine Inv_hearS (c := ⟨n, t, e, r, d, liars, fh, some v⟩) F (S := putAll (init0 n e r d liars fh (some v)) fh .said v) (U := fun s => US (putAll (init0 n e r d liars fh (some v)) fh .said v) s ∨ s = ⟨fh, fh, .said, v⟩) kp.1 kp.2.1 kp.2.2.1 kp.2.2.2.1 kp.2.2.2.2.1 kp.2.2.2.2.2.1 ?_ ⟨by dsimp only; omega, hf⟩ (.inr rfl) p.f0 f1 (fun q => absurd rfl q) (fun z hz => hz) (fun z hz => .inl hz)
      have ears : (putAll (init0 n e r d liars fh (some v)) fh .said v).ears = List.replicate n ⟨none, [], [], none, none, none⟩ := kp.2.2.2.2.2.2.2.1
      rw [ears]
      refine base _ (fun s hs => ?_) fun _ v' hv i hi hn => ?_
      · rcases hs with q | q
        · rcases (iff s).mp q with ⟨_, q⟩ | ⟨j, _, _, q⟩
          · cases q
          · rw [q]
            exact ⟨hf, rfl, rfl, rfl⟩
        · rw [q]
          exact ⟨hf, rfl, rfl, rfl⟩
      · cases hv
        by_cases ei : i = fh
        · subst ei
          exact .inr rfl
        · exact .inl ((iff _).mpr (.inr ⟨i, by omega, hears_iff.mpr ⟨by omega, hn⟩, rfl⟩))
end Spr
namespace Spr
open PySem L2 PySem.Spec PyProof.Rows
/-! ### sorted(d): a dict of whole numbers, of any size -/
theorem intsOf : ∀ {us : List Value} {ns : List Int}, us.length = ns.length → (∀ (j : Nat) (u : Value), us[j]? = some u → ∃ (x : Int) (t : Tok), ns[j]? = some x ∧ u = Value.int x t) → IntsAre us ns
  | [], [], _, _ => .nil
  | u :: us, x :: ns, hl, h => by
    obtain ⟨y, t, a, rfl⟩ := h 0 u rfl
    cases (show some x = some y from a)
    exact .cons _ _ (intsOf (Nat.succ.inj hl) fun j z e => h (j + 1) z e)
  | [], _ :: _, hl, _ => by cases hl
  | _ :: _, [], hl, _ => by cases hl
def rSortD : List V → Hp → VK → Prop := fun xs H Q => ∃ (a : Addr) (m : List (Key × V)) (ns : List Int), xs = [.ref a] ∧ Rd H a (.dK m) ∧ m.map (·.1) = ns.map Sum.inl ∧ ns.length ≤ 10000 ∧ ∀ (zs : List Int) (p : Addr), zs.Perm ns → zs.Pairwise (· ≤ ·) → H p = none → Q (.ref p) (upd H p (.lst (zs.map V.int)))
theorem cr_sortedD {X : Cx} (hc : X.calm = true) : CallR X (.builtin "sorted") rSortD := by
  rintro pins s σ H xs us Q I r ⟨a, m, ns, rfl, hd, hm, hn, q⟩
  obtain ⟨u, rfl, rx⟩ := vals1 r
  cases rx
  obtain ⟨z, lo, kv, rel, dd⟩ := dk_rd I.hok hd
  obtain ⟨ep, at0⟩ := dd.dictAt
  have kk : kv.map (·.1) = ns.map Sum.inl := rel.keys.symm.trans hm
  have kl : kv.length = ns.length := by
    have := congrArg List.length kk
    rwa [List.length_map, List.length_map] at this
  have big : ns.length ≤ sizeLine := Nat.le_trans hn (by rw [sizeLine_eq]; decide)
  refine Calls.call_function_entry PyProof.Rows.kind_sorted PyProof.Rows.plain_sorted PyProof.Rows.entry_sorted (PyProof.Rows.args_sorted1 _) ?_
  unfold Builtin.«sorted»
  refine wpAny_bind (m := checkCount "sorted" 1 1 _) (wpAny_pure (wpAny_bind (PySem.W.kdu_collect (A := X.A.in1) (PySem.W.kdl_dict (knd := mixKind X.prog X.w) (kvs := kv) (ep := ep) lo) (I.ok.hd hc) at0 (by rw [kl]; exact big) fun h1 t1 acc kp hacc => ?_)))
  have al : acc.toList.length = ns.length := by rw [Array.length_toList, hacc.1, kl]
  have ia : IntsAre acc.toList ns := intsOf al fun j u e => by
    obtain ⟨k, x, e1, e2⟩ := hacc.2 j u (by rw [← Array.getElem?_toList]; exact e)
    have e3 : (kv.map (·.1))[j]? = some k := by
      rw [List.getElem?_map, e1]
      rfl
    rw [kk, List.getElem?_map] at e3
    cases e4 : ns[j]? with
    | none => rw [e4] at e3; cases e3
    | some y =>
      rw [e4] at e3
      cases (show some (Sum.inl y) = some k from e3)
      rcases keyIs_shape (show keyIs (Sum.inl y) u = true from e2) with ⟨i, t, ek, ev⟩ | ⟨i, t, ek, ev⟩
      · cases ek
        exact ⟨y, t, rfl, ev⟩
      · cases ek
  have I1 : Inv X pins σ H { s with heap := h1, toks := t1 } := I.kept kp
  refine wpAny_bind (wpAny_newList ?_ (by rw [al]; exact big))
  have ho : (h1.push (seqObj "list" acc.toList.toArray 0)).get? h1.objs.size = some (seqObj "list" acc.toList.toArray 0) := Heap.get?_push_size _ rfl
  show wpAny _ _ _ _ _ { s with heap := h1.push (seqObj "list" acc.toList.toArray 0), toks := t1 }
  refine wpAny_bind (wpAny_holding (wpAny_call_entry PyProof.Rows.slot_list_sort ⟨_, ho, rfl⟩ PyProof.Rows.entry_list_sort
    (SrtO.list_sort_ord (s := { s with heap := h1.push (seqObj "list" acc.toList.toArray 0), toks := t1 }) SrtO.swo_int ho (by rw [al]; exact big) (fun h2 => SrtO.ints_sortable ia h2) fun out g1 g2 => ⟨_, rfl, ?_⟩) (PyProof.Rows.args_list_sort _)))
  obtain ⟨k1, k2, k3⟩ := SrtO.ints_out ia g1 g2
  obtain ⟨e', fin⟩ := PyProof.Rows.sortedHeap_at (vs := acc.toList) (out := out.toArray) ho
  have ol : ((out.map SrtO.iv).map V.int).length ≤ sizeLine := by
    rw [List.length_map, k2.length_eq]
    exact big
  refine wpAny_pure ⟨_, rfl, .ref h1.objs.size, upd H h1.objs.size (.lst ((out.map SrtO.iv).map V.int)), I1.laid (t' := t1) (fun b u e => ?_) (Nat.le_refl _) (show ObjOk X.prog X.w _ _ _ (.lst ((out.map SrtO.iv).map V.int)) from ⟨ol, out, e', vals_of_ints k1, fin⟩), rfl, q _ _ k2 k3 (I1.hok.fresh (Nat.le_refl _))⟩
  have lt := Heap.lt_size e
  rw [PyProof.Rows.sortedHeap_old (Nat.ne_of_lt lt) (by rw [size_push']; exact Nat.lt_succ_of_lt lt)]
  exact Heap.get?_push_of_some _ e
end Spr
namespace Spr
open PySem L2
/-! ### what a Spread tells -/
def TupsAt (H : Hp) : List Addr → List (List V) → Prop
  | [], [] => True
  | a :: as, x :: xs => H a = some (.tup x) ∧ TupsAt H as xs
  | _, _ => False
theorem TupsAt.mono {H H' : Hp} (h : ∀ b xs, H b = some (.tup xs) → H' b = some (.tup xs)) : ∀ {as : List Addr} {xs : List (List V)}, TupsAt H as xs → TupsAt H' as xs
  | [], [], _ => True.intro
  | _ :: _, _ :: _, q => ⟨h _ _ q.1, TupsAt.mono h q.2⟩
  | [], _ :: _, q => q.elim
  | _ :: _, [], q => q.elim
theorem TupsAt.snoc {H : Hp} {a : Addr} {x : List V} (h : H a = some (.tup x)) : ∀ {as : List Addr} {xs : List (List V)}, TupsAt H as xs → TupsAt H (as ++ [a]) (xs ++ [x])
  | [], [], _ => ⟨h, True.intro⟩
  | _ :: _, _ :: _, q => ⟨q.1, TupsAt.snoc h q.2⟩
  | [], _ :: _, q => q.elim
  | _ :: _, [], q => q.elim
theorem TupsAt.len {H : Hp} : ∀ {as : List Addr} {xs : List (List V)}, TupsAt H as xs → as.length = xs.length
  | [], [], _ => rfl
  | _ :: _, _ :: _, q => by rw [List.length_cons, List.length_cons, TupsAt.len q.2]
  | [], _ :: _, q => q.elim
  | _ :: _, [], q => q.elim
theorem TupsAt.at {H : Hp} : ∀ {as : List Addr} {xs : List (List V)} {i : Nat} {a : Addr}, TupsAt H as xs → as[i]? = some a → ∃ x, xs[i]? = some x ∧ H a = some (.tup x)
  | [], [], i, a, _, e => by simp at e
  | b :: _, x :: _, 0, a, q, e => ⟨x, rfl, by rw [← Option.some.inj e]; exact q.1⟩
  | b :: _, x :: _, i + 1, a, q, e => TupsAt.at (i := i) q.2 e
  | [], _ :: _, _, _, q, _ => q.elim
  | _ :: _, [], _, _, q, _ => q.elim
section
variable {P : Program} {w : World} {K : PySem.W.Frag} {mg : Str → Option Value} {base : Heap}
theorem ears_at {C CE : Addr} {A : SA} {S : MS} {H : Hp} (x : SpAt C CE A S H) {i : Nat} {u : V} (h : (A.es.map fun x => V.ref x.a)[i]? = some u) : ∃ (y : EA) (E : ME), A.es[i]? = some y ∧ S.ears[i]? = some E ∧ u = .ref y.a ∧ EarAt CE H y.a y.dx y.d1 y.d2 i A.tc S.first E := by
  rw [List.getElem?_map] at h
  cases e : A.es[i]? with
  | none => rw [e] at h; cases h
  | some y =>
    rw [e] at h
    have hl : i < S.ears.length := by
      rw [← x.el]
      exact (List.getElem?_eq_some_iff.mp e).1
    exact ⟨y, S.ears[i], rfl, List.getElem?_eq_getElem hl, (Option.some.inj h).symm, x.ears i y _ e (List.getElem?_eq_getElem hl)⟩
def spSel (C CE : Addr) (sel : ME → Option Int) : Sp := fun vs H Q _ => ∃ (A : SA) (S : MS), vs = [.ref A.p] ∧ SpAt C CE A S H ∧ WfS S ∧ ∀ l H', H l = none → Same H H' → H' l = some (.tup (S.ears.map fun E => ov (sel E))) → Q (.ref l) H'
theorem take_map_succ {S : MS} {i : Nat} {E : ME} (f : ME → V) (h : S.ears[i]? = some E) : (S.ears.take (i + 1)).map f = (S.ears.take i).map f ++ [f E] := by
  rw [List.take_add_one, h, List.map_append]
  rfl
abbrev nSel : List Str := ["self", "ear"]
theorem scTak : FnScope nSel ["self"] (defScope s_Spread_takings) := ⟨rfl, rfl, rfl, by decide +kernel, rfl, by decide +kernel, by decide +kernel⟩
theorem ok_tak {f C CE : Addr} {fd : FuncData} (F : Fun K "takings" "Spread.takings" s_Spread_takings f fd) (T : Bn mg) (TS : TxS K C) (TE : TxE K CE) : FnOk P w K mg base CX0 1 f fd ["self"] (spSel C CE (·.took)) := by
  refine F.ok scTak (fun vs H Q E h => ?_) (fun cdv A outer s H vs Q E hr h => ?_)
  · obtain ⟨A, S, rfl, _⟩ := h
    rfl
  · obtain ⟨A, S, rfl, x, wf, kk⟩ := h
    refine ⟨_, pss_one (ps_ret (pe_callTy call_tuple_of (by rfl) T.tuple (by decide +kernel) (pa_cons (pe_lc (own := [("ear", 1)]) (g := gName 1) (tt := tYes) (te := tFld K (tVar 1) "took") rfl scTak.nd (pi_list (pe_fld (pv 0) rfl)) (blkOk_by (N := nSel) (sc := defScope s_Spread_takings) (by decide +kernel))
          (fun _ _ _ _ _ => pg_name (i := 1) scTak.nd rfl (Or.inl rfl)) (fun _ _ _ _ _ => pts_nil) (fun _ _ _ _ _ => pe_fld (pv 1) rfl)) pa_nil))), ?_⟩
    refine ⟨_, rfl, A.p, C, A.dx, _, _, rfl, x.ob, TS.cl, TS.ears, rfl, A.le, rfl, ⟨_, SqL.of x.le⟩, fun D hD => ?_⟩
    refine lc_it walk_list (PvS H D fun i => (S.ears.take i).map fun E => ov E.took) (pv0 hD rfl) (fun i H' _ p => SqL.of (p.1 _ _ x.le)) (fun i u H1 H2 hi p y => ?_) (fun H1 p => ?_)
    · obtain ⟨rfl, hx⟩ := y
      obtain ⟨y, E1, h1, h2, rfl, ea⟩ := ears_at x hx
      have ea := ea.same p.1
      refine ⟨rfl, _, rfl, y.a, CE, y.dx, _, _, rfl, ea.ob, TE.cl, TE.took, rfl, ?_⟩
      exact pvStep hD p.1 p.2 (by rw [List.length_map]; exact small1000 (Nat.le_trans (List.length_take_le' _ _) (by have := wf.el; have := wf.n12; omega))) (take_map_succ _ h2)
    · refine ⟨D, _, rfl, .inl ⟨SqL.of p.2, fun l hl => ?_⟩⟩
      dsimp only
      rw [List.length_map, x.el, List.take_of_length_le (Nat.le_refl _)]
      exact kk l _ (p.1.free hl) (Same.trans p.1 (same_new hl)) upd_same
theorem scEch : FnScope nSel ["self"] (defScope s_Spread_echoes) := ⟨rfl, rfl, rfl, by decide +kernel, rfl, by decide +kernel, by decide +kernel⟩
theorem ok_ech {f C CE : Addr} {fd : FuncData} (F : Fun K "echoes" "Spread.echoes" s_Spread_echoes f fd) (T : Bn mg) (TS : TxS K C) (TE : TxE K CE) : FnOk P w K mg base CX0 1 f fd ["self"] (spSel C CE (·.echoed)) := by
  refine F.ok scEch (fun vs H Q E h => ?_) (fun cdv A outer s H vs Q E hr h => ?_)
  · obtain ⟨A, S, rfl, _⟩ := h
    rfl
  · obtain ⟨A, S, rfl, x, wf, kk⟩ := h
    refine ⟨_, pss_one (ps_ret (pe_callTy call_tuple_of (by rfl) T.tuple (by decide +kernel) (pa_cons (pe_lc (own := [("ear", 1)]) (g := gName 1) (tt := tYes) (te := tFld K (tVar 1) "echoed") rfl scEch.nd (pi_list (pe_fld (pv 0) rfl)) (blkOk_by (N := nSel) (sc := defScope s_Spread_echoes) (by decide +kernel))
          (fun _ _ _ _ _ => pg_name (i := 1) scEch.nd rfl (Or.inl rfl)) (fun _ _ _ _ _ => pts_nil) (fun _ _ _ _ _ => pe_fld (pv 1) rfl)) pa_nil))), ?_⟩
    refine ⟨_, rfl, A.p, C, A.dx, _, _, rfl, x.ob, TS.cl, TS.ears, rfl, A.le, rfl, ⟨_, SqL.of x.le⟩, fun D hD => ?_⟩
    refine lc_it walk_list (PvS H D fun i => (S.ears.take i).map fun E => ov E.echoed) (pv0 hD rfl) (fun i H' _ p => SqL.of (p.1 _ _ x.le)) (fun i u H1 H2 hi p y => ?_) (fun H1 p => ?_)
    · obtain ⟨rfl, hx⟩ := y
      obtain ⟨y, E1, h1, h2, rfl, ea⟩ := ears_at x hx
      have ea := ea.same p.1
      refine ⟨rfl, _, rfl, y.a, CE, y.dx, _, _, rfl, ea.ob, TE.cl, TE.echoed, rfl, ?_⟩
      exact pvStep hD p.1 p.2 (by rw [List.length_map]; exact small1000 (Nat.le_trans (List.length_take_le' _ _) (by have := wf.el; have := wf.n12; omega))) (take_map_succ _ h2)
    · refine ⟨D, _, rfl, .inl ⟨SqL.of p.2, fun l hl => ?_⟩⟩
      dsimp only
      rw [List.length_map, x.el, List.take_of_length_le (Nat.le_refl _)]
      exact kk l _ (p.1.free hl) (Same.trans p.1 (same_new hl)) upd_same
theorem scPro : FnScope nSel ["self"] (defScope s_Spread_promises) := ⟨rfl, rfl, rfl, by decide +kernel, rfl, by decide +kernel, by decide +kernel⟩
theorem ok_pro {f C CE : Addr} {fd : FuncData} (F : Fun K "promises" "Spread.promises" s_Spread_promises f fd) (T : Bn mg) (TS : TxS K C) (TE : TxE K CE) : FnOk P w K mg base CX0 1 f fd ["self"] (spSel C CE (·.promised)) := by
  refine F.ok scPro (fun vs H Q E h => ?_) (fun cdv A outer s H vs Q E hr h => ?_)
  · obtain ⟨A, S, rfl, _⟩ := h
    rfl
  · obtain ⟨A, S, rfl, x, wf, kk⟩ := h
    refine ⟨_, pss_one (ps_ret (pe_callTy call_tuple_of (by rfl) T.tuple (by decide +kernel) (pa_cons (pe_lc (own := [("ear", 1)]) (g := gName 1) (tt := tYes) (te := tFld K (tVar 1) "promised") rfl scPro.nd (pi_list (pe_fld (pv 0) rfl)) (blkOk_by (N := nSel) (sc := defScope s_Spread_promises) (by decide +kernel))
          (fun _ _ _ _ _ => pg_name (i := 1) scPro.nd rfl (Or.inl rfl)) (fun _ _ _ _ _ => pts_nil) (fun _ _ _ _ _ => pe_fld (pv 1) rfl)) pa_nil))), ?_⟩
    refine ⟨_, rfl, A.p, C, A.dx, _, _, rfl, x.ob, TS.cl, TS.ears, rfl, A.le, rfl, ⟨_, SqL.of x.le⟩, fun D hD => ?_⟩
    refine lc_it walk_list (PvS H D fun i => (S.ears.take i).map fun E => ov E.promised) (pv0 hD rfl) (fun i H' _ p => SqL.of (p.1 _ _ x.le)) (fun i u H1 H2 hi p y => ?_) (fun H1 p => ?_)
    · obtain ⟨rfl, hx⟩ := y
      obtain ⟨y, E1, h1, h2, rfl, ea⟩ := ears_at x hx
      have ea := ea.same p.1
      refine ⟨rfl, _, rfl, y.a, CE, y.dx, _, _, rfl, ea.ob, TE.cl, TE.promised, rfl, ?_⟩
      exact pvStep hD p.1 p.2 (by rw [List.length_map]; exact small1000 (Nat.le_trans (List.length_take_le' _ _) (by have := wf.el; have := wf.n12; omega))) (take_map_succ _ h2)
    · refine ⟨D, _, rfl, .inl ⟨SqL.of p.2, fun l hl => ?_⟩⟩
      dsimp only
      rw [List.length_map, x.el, List.take_of_length_le (Nat.le_refl _)]
      exact kk l _ (p.1.free hl) (Same.trans p.1 (same_new hl)) upd_same
abbrev nUnd : List Str := ["self", "number"]
theorem scUnd : FnScope nUnd ["self"] (defScope s_Spread_under_way) := ⟨rfl, rfl, rfl, by decide +kernel, rfl, by decide +kernel, by decide +kernel⟩
def unV (x : Int × Sl) : List V := .int x.1 :: slV x.2
def spUnd (C CE : Addr) : Sp := fun vs H Q _ => ∃ (A : SA) (S : MS), vs = [.ref A.p] ∧ SpAt C CE A S H ∧ WfS S ∧ S.slips.length ≤ 900 ∧ ∀ l us H', H l = none → Same H H' → H' l = some (.tup (us.map V.ref)) → TupsAt H' us (S.slips.map unV) → Q (.ref l) H'
theorem perm_asc {l l' : List Int} (h : l'.Perm l) (a : l.Pairwise (· < ·)) (b : l'.Pairwise (· ≤ ·)) : l' = l :=
  h.eq_of_pairwise (le := (· ≤ ·)) (fun x y _ _ h1 h2 => Int.le_antisymm h1 h2) b (a.imp fun h => Int.le_of_lt h)
theorem ok_und {f C CE : Addr} {fd : FuncData} (F : Fun K "under_way" "Spread.under_way" s_Spread_under_way f fd) (T : Bn mg) (TS : TxS K C) : FnOk P w K mg base CX0 1 f fd ["self"] (spUnd C CE) := by
  refine F.ok scUnd (fun vs H Q E h => ?_) (fun cdv A outer s H vs Q E hr h => ?_)
  · obtain ⟨A, S, rfl, _⟩ := h
    rfl
  · obtain ⟨A, S, rfl, x, wf, h64, kk⟩ := h
    have hu := hu_of hr
    refine ⟨_, pss_one (ps_ret (pe_callTy call_tuple_of (by rfl) T.tuple (by decide +kernel) (pa_cons (pe_lc (own := [("number", 1)]) (g := gName 1) (tt := tYes) (te := tTup (tCons (tVar 1) (StX.tStar K (tDGet (tFld K (tVar 0) "_slips") (tVar 1)) tNil))) rfl scUnd.nd (pi_list (pe_callB (cr_sortedD rfl) (by rfl) T.sorted (by decide +kernel) (pa_cons (pe_fld (pv 0) rfl) pa_nil))) (blkOk_by (N := nUnd) (sc := defScope s_Spread_under_way) (by decide +kernel))
          (fun _ _ _ _ _ => pg_name (i := 1) scUnd.nd rfl (Or.inl rfl)) (fun _ _ _ _ _ => pts_nil) (fun _ _ _ _ _ => pe_tup (pa_cons (pv 1) (StX.pa_star (pe_dget hu (pe_fld (pv 0) rfl) (pv 1) (fun _ _ => rfl)) pa_nil)))) pa_nil))), ?_⟩
    obtain ⟨sg, es, hds, hsg⟩ := x.ds
    refine ⟨_, rfl, A.p, C, A.dx, _, _, rfl, x.ob, TS.cl, TS.slips, rfl, A.ds, _, S.slips.map (·.1), rfl, Rd.of hds, ?_, by rw [List.length_map]; omega, fun ys p hpm hpw hp => ?_⟩
    · rw [← es, List.map_map, List.map_map, List.map_map]
      rfl
    have eys : ys = S.slips.map (·.1) := perm_asc hpm wf.asc hpw
    subst eys
    have s1 : Same H (upd H p (.lst ((S.slips.map (·.1)).map V.int))) := same_new hp
    refine ⟨p, rfl, ⟨_, SqL.of upd_same⟩, fun D hD => ?_⟩
    refine lc_it walk_list (fun i H' => ∃ us : List Addr, us.length = i ∧ PvS _ D (fun _ => us.map V.ref) i H' ∧ TupsAt H' us ((S.slips.take i).map unV)) ⟨[], rfl, pv0 hD rfl, True.intro⟩ (fun i H' _ ⟨_, _, q, _⟩ => SqL.of (q.1 _ _ upd_same)) (fun i u H1 H2 hi ⟨us, hus, q, tu⟩ y => ?_) (fun H1 ⟨us, hus, q, tu⟩ => ?_)
    · obtain ⟨rfl, hx⟩ := y
      rw [List.getElem?_map, List.getElem?_map] at hx
      obtain ⟨z, hz, rfl⟩ : ∃ z, S.slips[i]? = some z ∧ u = V.int z.1 := by
        cases e : S.slips[i]? with
        | none => rw [e] at hx; cases hx
        | some z => rw [e] at hx; exact ⟨z, rfl, (Option.some.inj hx).symm⟩
      have hil : i < S.slips.length := (List.getElem?_eq_some_iff.mp hz).1
      obtain ⟨y, hy, ey⟩ : ∃ y, y ∈ sg ∧ y.1 = z := by
        have := List.mem_of_getElem? hz
        rw [← es] at this
        obtain ⟨y, hy, e⟩ := List.mem_map.mp this
        exact ⟨y, hy, e⟩
      have ndk : ((sg.map fun x => ((Sum.inl x.1.1 : Key), V.ref x.2)).map (·.1)).Nodup := by
        have := asc_nodup wf.asc
        rw [← es, List.map_map] at this
        rw [List.map_map]
        have e2 : (sg.map ((·.1) ∘ fun x => ((Sum.inl x.1.1 : Key), V.ref x.2))) = (sg.map ((·.1) ∘ (·.1))).map (fun i => (Sum.inl i : Key)) := by
          rw [List.map_map]
          rfl
        rw [e2]
        exact List.Pairwise.map _ (fun a b h q => h (Sum.inl.inj q)) this
      have hv : valV (sg.map fun x => ((Sum.inl x.1.1 : Key), V.ref x.2)) (Sum.inl z.1 : Key) = some (.ref y.2) := by
        refine valV_mem ndk ?_
        refine List.mem_map.mpr ⟨y, hy, ?_⟩
        rw [ey]
      have s2 := Same.trans s1 q.1
      have hty := s2 _ _ (hsg y hy)
      rw [ey] at hty
      refine ⟨rfl, _, rfl, _, rfl, A.p, C, A.dx, _, _, rfl, s2 _ _ x.ob, TS.cl, TS.slips, rfl, _, rfl, A.ds, _, rfl, (by rw [← hv]; exact DGet.k (k := Sum.inl z.1) (s2 _ _ hds)), y.2, _, rfl, .inl (SqT.of hty), (by show 5 ≤ sizeLine; decide), fun t ht => ?_⟩
      have hDt : D ≠ t := ne_of_none q.2 ht
      refine ⟨_, (upd_ne hDt).trans q.2, ?_, us ++ [t], by rw [List.length_append, hus]; rfl, ⟨same_upd (same_upd q.1 (q.1.free ht)) hD, by rw [upd_same, List.map_append]; rfl⟩, ?_⟩
      · rw [List.length_map, hus]
        exact small1000 (by omega)
      · rw [List.take_add_one, hz, List.map_append]
        refine TupsAt.snoc ?_ (tu.mono fun b xs h => ?_)
        · rw [upd_ne hDt.symm, upd_same]
          show some (HO.tup (([V.int z.1] : List V) ++ (slV z.2 ++ []))) = _
          rw [List.append_nil]
          rfl
        · rw [upd_ne (ne_of h q.2 (by intro z; cases z)), upd_ne (ne_of_none h ht)]
          exact h
    · refine ⟨D, _, rfl, .inl ⟨SqL.of q.2, fun l hl => ?_⟩⟩
      have e : (S.slips.take ((S.slips.map (·.1)).map V.int).length) = S.slips := by
        rw [List.length_map, List.length_map, List.take_of_length_le (Nat.le_refl _)]
      rw [e] at tu
      have s3 := Same.trans s1 q.1
      exact kk l us _ (s3.free hl) (Same.trans s3 (same_new hl)) upd_same (tu.mono fun b xs h => by rw [upd_ne (ne_of_none h hl)]; exact h)
end
end Spr
namespace Spr
open PySem L2
/-! ### the law's own helpers -/
def PotAt (H : Hp) (a : Addr) (c : Nat) : Prop := ∃ (p0 p1 : Int) (p2 : Nat), H a = some (.lst [.int p0, .int p1, .int (p2 : Int)]) ∧ 0 ≤ p0 ∧ 0 ≤ p1 ∧ p1 < 4611686018427387904 ∧ p2 ≤ c
def Only (a : Addr) (H H' : Hp) : Prop := ∀ b o, H b = some o → b ≠ a → H' b = some o
theorem Only.refl (a : Addr) (H : Hp) : Only a H H := fun _ _ e _ => e
theorem Only.trans {a : Addr} {H H1 H2 : Hp} (p : Only a H H1) (q : Only a H1 H2) : Only a H H2 := fun b o e h => q b o (p b o e h) h
theorem Same.only {a : Addr} {H H' : Hp} (s : Same H H') : Only a H H' := fun b o e _ => s b o e
theorem only_upd {a : Addr} {H H' : Hp} {o : HO} (p : Only a H H') : Only a H (upd H' a o) := fun b u e h => by
  rw [upd_ne h]
  exact p b u e h
def CPowB (i j : Int) : Prop := 0 ≤ j ∧ (Builtin.Int.intBits i : Int) * j ≤ 2 ^ 27
section
variable {X : Cx}
theorem op_powB : OpR X (binaryOp .Pow) (rI CPowB fun i j => .int (i ^ j.toNat)) := opI fun _ _ _ _ _ _ _ hc q => PyProof.Rows.pow_int hc.1 hc.2 q
end
theorem pow_base {p1 c p2 e : Int} (h0 : 0 ≤ p1) (h1 : p1 < 4611686018427387904) (hc : 0 ≤ c) (hc2 : c ≤ 200000) (hp : 0 ≤ p2) (hp2 : p2 ≤ 1000000) (he : 0 ≤ e) (he2 : e ≤ 100000) : (p1 + c * p2 * p2 + e).natAbs < 2 ^ 64 := by
  have a1 : c * p2 ≤ 200000 * 1000000 := Int.mul_le_mul hc2 hp2 hp (by decide)
  have a0 : 0 ≤ c * p2 := Int.mul_nonneg hc hp
  have b1 : c * p2 * p2 ≤ 200000 * 1000000 * 1000000 := Int.mul_le_mul a1 hp2 hp (by decide)
  have b0 : 0 ≤ c * p2 * p2 := Int.mul_nonneg a0 hp
  generalize c * p2 * p2 = z at b1 b0
  omega
theorem mul_in {c p2 : Int} (hc : 0 ≤ c) (hc2 : c ≤ 200000) (hp : 0 ≤ p2) (hp2 : p2 ≤ 1000000) : -(2 ^ 64) < c * p2 ∧ c * p2 < 2 ^ 64 := by
  have a1 : c * p2 ≤ 200000 * 1000000 := Int.mul_le_mul hc2 hp2 hp (by decide)
  have a0 : 0 ≤ c * p2 := Int.mul_nonneg hc hp
  generalize c * p2 = z at a1 a0
  omega
theorem prime_at (z : Int) (h0 : 0 ≤ z) (h1 : z < 5) : ∃ q : Int, atI [V.int 2147483647, V.int 2147483629, V.int 2147483587, V.int 2147483579, V.int 2147483563] z = some (.int q) ∧ 0 < q ∧ q < 4294967296 := by
  have : z = 0 ∨ z = 1 ∨ z = 2 ∨ z = 3 ∨ z = 4 := by omega
  rcases this with rfl | rfl | rfl | rfl | rfl
  · exact ⟨_, at_of (j := 0) rfl rfl, by decide, by decide⟩
  · exact ⟨_, at_of (j := 1) rfl rfl, by decide, by decide⟩
  · exact ⟨_, at_of (j := 2) rfl rfl, by decide, by decide⟩
  · exact ⟨_, at_of (j := 3) rfl rfl, by decide, by decide⟩
  · exact ⟨_, at_of (j := 4) rfl rfl, by decide, by decide⟩
section
variable {P : Program} {w : World} {K : PySem.W.Frag} {mg : Str → Option Value} {base : Heap}
def spTake : Sp := fun vs H Q _ => ∃ (a : Addr) (u : Int) (c : Nat), vs = [.ref a, .int u] ∧ PotAt H a c ∧ 0 < u ∧ u < 1073741824 ∧ c ≤ 900000 ∧ ∀ (r : Int) H', 0 ≤ r → r < u → PotAt H' a (c + 1) → Only a H H' → Q (.int r) H'
abbrev nTake : List Str := ["pot", "upto", "digit", "prime", "blend"]
theorem scTake : FnScope nTake ["pot", "upto"] (defScope s_law_take) := ⟨rfl, rfl, rfl, by decide +kernel, rfl, by decide +kernel, by decide +kernel⟩
theorem ok_take {f : Addr} {fd : FuncData} (F : Fun K "_law_take" "_law_take" s_law_take f fd) (T : Bn mg) : FnOk P w K mg base CX0 1 f fd ["pot", "upto"] spTake := by
  refine F.ok scTake (fun vs H Q E h => ?_) (fun cdv A outer s H vs Q E hr h => ?_)
  · obtain ⟨a, u, c, rfl, _⟩ := h
    rfl
  · obtain ⟨a, u, c, rfl, ⟨p0, p1, p2, ha, h0, h1, h2, hc⟩, hu0, hu1, hcc, kk⟩ := h
    refine ⟨_, pss_cons (ps_if (pt_cmpR op_gt (pe_ix ix_list (pv 0) pe_int (fun _ _ => rfl)) pe_int (nomark _))
        (pss_cons (ps_set (i := 2) scTake.nd rfl (Or.inl rfl) (pe_op op_mod (pe_callTy call_int1 (by rfl) T.int (by decide +kernel) (pa_cons (pe_ix ix_list (pv 0) pe_int (fun _ _ => rfl)) pa_nil)) (pv 1)))
        (pss_cons (ps_asg (pe_op op_fdiv (pe_ix ix_list (pv 0) pe_int (fun _ _ => rfl)) (pv 1)) (pg_sub (pv 0) pe_int set_list))
        (pss_one (ps_ret (pv 2))))) pss_nil)
      (pss_cons (ps_asg (pe_op op_add (pe_ix ix_list (pv 0) pe_int (fun _ _ => rfl)) pe_int) (pg_sub (pv 0) pe_int set_list))
      (pss_cons (ps_set (i := 3) scTake.nd rfl (Or.inl rfl) (pe_ix ix_list (pe_lst (pa_cons pe_int (pa_cons pe_int (pa_cons pe_int (pa_cons pe_int (pa_cons pe_int pa_nil)))))) (pe_op op_mod (pe_callTy call_int1 (by rfl) T.int (by decide +kernel) (pa_cons (pe_ix ix_list (pv 0) pe_int (fun _ _ => rfl)) pa_nil)) pe_int) (fun _ _ => rfl)))
      (pss_cons (ps_set (i := 4) scTake.nd rfl (Or.inl rfl) (pe_op op_mod (pe_callTy call_int1 (by rfl) T.int (by decide +kernel) (pa_cons (pe_op op_pow (pe_callTy call_int1 (by rfl) T.int (by decide +kernel) (pa_cons (pe_op op_add (pe_op op_add (pe_ix ix_list (pv 0) pe_int (fun _ _ => rfl)) (pe_op op_mul (pe_op op_mul pe_int (pe_ix ix_list (pv 0) pe_int (fun _ _ => rfl))) (pe_ix ix_list (pv 0) pe_int (fun _ _ => rfl)))) pe_int) pa_nil)) pe_int) pa_nil)) (pv 3)))
      (pss_one (ps_ret (pe_op op_mod (pe_callTy call_int1 (by rfl) T.int (by decide +kernel) (pa_cons (pe_op op_fdiv (pe_op op_mul (pv 4) (pe_op op_add (pe_op op_mod (pe_callTy call_int1 (by rfl) T.int (by decide +kernel) (pa_cons (pv 4) pa_nil)) pe_int) (pe_op op_mul pe_int (pe_ix ix_list (pv 0) pe_int (fun _ _ => rfl))))) pe_int) pa_nil)) (pv 1))))))), ?_⟩
    have i0 : atI [V.int p0, V.int p1, V.int (p2 : Int)] 0 = some (.int p0) := at_of (j := 0) rfl rfl
    refine ⟨_, rfl, a, _, _, _, rfl, rfl, SqL.of ha, i0, _, _, rfl, rfl, _, rfl, ?_⟩
    by_cases c0 : 0 < p0
    · rw [decide_eq_true c0]
      refine iteT ⟨_, rfl, a, _, _, _, rfl, rfl, SqL.of ha, i0, .inl ⟨_, rfl, _, rfl, _, _, rfl, rfl, hu0, ?_⟩⟩
      refine ⟨_, rfl, a, _, _, _, rfl, rfl, SqL.of ha, i0, _, rfl, _, _, rfl, rfl, ⟨hu0, by omega⟩, _, rfl, a, _, _, 0, rfl, rfl, ha, rfl, ?_⟩
      refine ⟨_, rfl, kk (p0 % u) _ (Int.emod_nonneg _ (by omega)) (Int.emod_lt_of_pos _ hu0) ⟨p0 / u, p1, p2, upd_same, Int.ediv_nonneg h0 (by omega), h1, h2, by omega⟩ (only_upd (Only.refl a H))⟩
    · rw [decide_eq_false c0]
      refine iteF ?_
      have i2 : atI [V.int p0, V.int p1, V.int (p2 : Int)] 2 = some (.int (p2 : Int)) := at_of (j := 2) rfl rfl
      refine ⟨_, rfl, a, _, _, _, rfl, rfl, SqL.of ha, i2, _, _, rfl, rfl, _, rfl, a, _, _, 2, rfl, rfl, ha, rfl, ?_⟩
      have e2 : ((p2 : Int) + 1) = ((p2 + 1 : Nat) : Int) := rfl
      have j2 : atI [V.int p0, V.int p1, V.int ((p2 : Int) + 1)] 2 = some (.int ((p2 : Int) + 1)) := at_of (j := 2) rfl rfl
      have j1 : atI [V.int p0, V.int p1, V.int ((p2 : Int) + 1)] 1 = some (.int p1) := at_of (j := 1) rfl rfl
      have ha2 : (upd H a (.lst [.int p0, .int p1, .int ((p2 : Int) + 1)])) a = some (.lst [.int p0, .int p1, .int ((p2 : Int) + 1)]) := upd_same
      obtain ⟨q, hq, q0, q1⟩ := prime_at (((p2 : Int) + 1) % 5) (Int.emod_nonneg _ (by decide)) (Int.emod_lt_of_pos _ (by decide))
      refine ⟨(by show 5 ≤ sizeLine; decide), fun t ht => ?_⟩
      have ta : a ≠ t := ne_of_none ha2 ht
      have ha3 : (upd (upd H a (.lst [.int p0, .int p1, .int ((p2 : Int) + 1)])) t (.lst [.int 2147483647, .int 2147483629, .int 2147483587, .int 2147483579, .int 2147483563])) a = some (.lst [.int p0, .int p1, .int ((p2 : Int) + 1)]) := (upd_ne ta).trans ha2
      refine ⟨_, rfl, a, _, _, _, rfl, rfl, SqL.of ha3, j2, .inl ⟨_, rfl, _, _, rfl, rfl, (by show (0 : Int) < 5; decide), t, _, _, _, rfl, rfl, SqL.of upd_same, hq, ?_⟩⟩
      refine ⟨_, rfl, a, _, _, _, rfl, rfl, SqL.of ha3, j1, _, rfl, a, _, _, _, rfl, rfl, SqL.of ha3, j2, _, _, rfl, rfl, .inl ⟨by decide, by decide⟩, _, rfl, a, _, _, _, rfl, rfl, SqL.of ha3, j2, _, _, rfl, rfl, .inl (mul_in (by decide) (by decide) (by omega) (by omega)), _, _, rfl, rfl, _, _, rfl, rfl, .inl ⟨_, rfl, _, _, rfl, rfl, ⟨by decide, by decide, pow_base h1 h2 (by decide) (by decide) (by omega) (by omega) (by decide) (by decide)⟩, .inl ⟨_, rfl, _, rfl, _, _, rfl, rfl, q0, ?_⟩⟩⟩
      refine ⟨_, rfl, _, rfl, .inl ⟨_, rfl, _, _, rfl, rfl, (by show (0 : Int) < _; decide), _, rfl, a, _, _, _, rfl, rfl, SqL.of ha3, j2, _, _, rfl, rfl, .inl ⟨by decide, by decide⟩, _, _, rfl, rfl, _, _, rfl, rfl, .inl ⟨?_, ?_⟩, _, _, rfl, rfl, ⟨by decide, by decide⟩, .inl ⟨_, rfl, _, rfl, _, _, rfl, rfl, hu0, ?_⟩⟩⟩
      · exact Int.lt_of_lt_of_le (by decide) (Int.emod_nonneg _ (by omega))
      · exact Int.lt_trans (Int.emod_lt_of_pos _ q0) (Int.lt_trans q1 (by decide))
      · exact kk _ _ (Int.emod_nonneg _ (by omega)) (Int.emod_lt_of_pos _ hu0) ⟨p0, p1, p2 + 1, ha3, h0, h1, h2, by omega⟩ (fun b o e hb => by rw [upd_ne (ne_of_none ((upd_ne hb).trans e) ht), upd_ne hb]; exact e)
end
end Spr
namespace Spr
open PySem L2
section
variable {P : Program} {w : World} {K : PySem.W.Frag} {mg : Str → Option Value} {base : Heap}
abbrev nPot : List Str := ["script", "place", "cell", "own", "small"]
theorem scPot : FnScope nPot ["script", "place"] (defScope s_law_pot) := ⟨rfl, rfl, rfl, by decide +kernel, rfl, by decide +kernel, by decide +kernel⟩
def spPot (K : PySem.W.Frag) : Sp := fun vs H Q _ => ∃ (a : Addr) (ns : List Int) (pl : Nat), vs = [.ref a, .int (pl : Int)] ∧ SqL K H a (ns.map V.int) ∧ pl ≤ 10 ∧ ∀ p H', H p = none → Same H H' → PotAt H' p 0 → Q (.ref p) H'
theorem cut_one (ns : List Int) : cutV (ns.map V.int) Option.none (some 1) = (ns.take 1).map V.int := by
  show ((ns.map V.int).drop 0).take (HT.sIx (ns.map V.int).length (ns.map V.int).length (some ((1 : Nat) : Int)) - 0) = _
  rw [HT.sIx_nat, List.length_map, List.map_take]
  show (ns.map V.int).take (min 1 ns.length - 0) = _
  rw [Nat.sub_zero, List.take_eq_take_iff]
  simp
theorem b01 (b : Bool) : -(2 ^ 64) < (if b = true then (1 : Int) else 0) ∧ (if b = true then (1 : Int) else 0) < 2 ^ 64 := by
  cases b <;> exact ⟨by decide, by decide⟩
theorem ok_pot {f : Addr} {fd : FuncData} (F : Fun K "_law_pot" "_law_pot" s_law_pot f fd) (T : Bn mg) : FnOk P w K mg base CX0 1 f fd ["script", "place"] (spPot K) := by
  refine F.ok scPot (fun vs H Q E h => ?_) (fun cdv A outer s H vs Q E hr h => ?_)
  · obtain ⟨a, ns, pl, rfl, _⟩ := h
    rfl
  · obtain ⟨a, ns, pl, rfl, ha, hp, kk⟩ := h
    refine ⟨_, C8.pss_cut (ps_set (i := 2) scPot.nd rfl (Or.inl rfl) (pe_ifExp (pt_cmpR op_lt (pv 1) (pe_callB call_len_seq (by rfl) T.len PySem.boot_len (pa_cons (pv 0) pa_nil)) (nomark _)) (pe_ix ix_list (pv 0) (pv 1) (fun _ _ => rfl))
        (pe_op op_add (pe_op op_add (pe_op op_mod (pe_callTy call_int1 (by rfl) T.int (by decide +kernel) (pa_cons (pe_callB (cr_sum rfl) (by rfl) T.sum (by decide +kernel) (pa_cons (pe_slice sl_list (pv 0) po_none (po_some pe_int)) pa_nil)) pa_nil)) pe_int) (pe_op op_mul pe_int (pv 1))) pe_int)))
      (pss_cons (ps_set (i := 3) scPot.nd rfl (Or.inl rfl) (pe_op op_mul (pe_op op_mod (pe_callTy call_int1 (by rfl) T.int (by decide +kernel) (pa_cons (pe_callB call_abs (by rfl) T.abs (by decide +kernel) (pa_cons (pv 2) pa_nil)) pa_nil)) (pe_op op_powB (pe_op op_powB pe_int pe_int) pe_int))
          (pe_callTy call_int1 (by rfl) T.int (by decide +kernel) (pa_cons (pe_cmpR op_ge (pe_callB call_abs (by rfl) T.abs (by decide +kernel) (pa_cons (pv 2) pa_nil)) (pe_op op_powB pe_int pe_int) (nomark _)) pa_nil))))
      (pss_cons (ps_set (i := 4) scPot.nd rfl (Or.inl rfl) (pe_op op_mod (pe_callTy call_int1 (by rfl) T.int (by decide +kernel) (pa_cons (pv 2) pa_nil)) pe_int))
      (pss_one (ps_ret (pe_lst (pa_cons (pv 3) (pa_cons (pe_op op_mod (pe_callTy call_int1 (by rfl) T.int (by decide +kernel) (pa_cons (pe_op op_add (pe_op op_add (pe_op op_mul (pv 4) pe_int) (pe_op op_mul (pe_op op_mul pe_int (pv 1)) (pv 1))) pe_int) pa_nil)) pe_int) (pa_cons pe_int pa_nil)))))))), ?_⟩
    refine ⟨fun σ' H' => ∃ cell : Int, σ' = [some (.ref a), some (.int (pl : Int)), some (.int cell), none, none] ∧ Same H H', ?_, ?_⟩
    · refine ⟨_, rfl, _, rfl, a, _, rfl, .inl ha, _, _, rfl, rfl, _, rfl, ?_⟩
      rw [List.length_map]
      by_cases c : (pl : Int) < (ns.length : Int)
      · rw [decide_eq_true c]
        have hl : pl < ns.length := by omega
        refine iteT ⟨_, rfl, _, rfl, a, _, _, .int ns[pl], rfl, rfl, ha, at_of (j := pl) rfl (by rw [List.getElem?_map, List.getElem?_eq_getElem hl]; rfl), _, rfl, Same.refl H⟩
      · rw [decide_eq_false c]
        refine iteF ⟨_, rfl, 1, rfl, a, _, rfl, ha, fun p hp0 => ?_⟩
        refine ⟨p, ns.take 1, rfl, SqL.of (by rw [upd_same, cut_one]), .inl ⟨_, rfl, _, _, rfl, rfl, (by show (0 : Int) < _; decide), _, rfl, _, _, rfl, rfl, .inl ⟨by decide, by decide⟩, _, _, rfl, rfl, _, _, rfl, rfl, _, rfl, same_new hp0⟩⟩
    · rintro σ' H' ⟨cell, rfl, s1⟩
      have bigpos : (0 : Int) < ((10 : Int) ^ (60 : Int).toNat) ^ (5 : Int).toNat := by decide +kernel
      refine ⟨_, rfl, _, rfl, .inl ⟨_, rfl, _, _, rfl, rfl, ⟨by decide, by decide +kernel⟩, _, _, rfl, rfl, ⟨by decide, by decide +kernel⟩, _, _, rfl, rfl, bigpos, ?_⟩⟩
      refine ⟨_, rfl, _, rfl, _, _, rfl, rfl, ⟨by decide, by decide +kernel⟩, _, _, rfl, rfl, .inr ⟨_, rfl, _, _, rfl, rfl, .inr ?_, ?_⟩⟩
      · exact b01 _
      have own0 : ∀ (x : Int) (b : Bool), 0 ≤ (x % (((10 : Int) ^ (60 : Int).toNat) ^ (5 : Int).toNat)) * (if b = true then 1 else 0) := fun x b => Int.mul_nonneg (Int.emod_nonneg _ (by omega)) (by split <;> decide)
      refine ⟨_, rfl, .inl ⟨_, rfl, _, _, rfl, rfl, (by show (0 : Int) < _; decide), ?_⟩⟩
      have sm0 : ∀ x : Int, 0 ≤ x % 2305843009213693951 ∧ x % 2305843009213693951 < 2305843009213693951 := fun x => ⟨Int.emod_nonneg _ (by decide), Int.emod_lt_of_pos _ (by decide)⟩
      refine ⟨_, rfl, _, rfl, _, _, rfl, rfl, .inl ⟨Int.lt_of_lt_of_le (by decide) (sm0 cell).1, Int.lt_trans (sm0 cell).2 (by decide)⟩, _, rfl, _, _, rfl, rfl, .inl ⟨by decide, by decide⟩, _, rfl, _, _, rfl, rfl, .inr ⟨by omega, by omega⟩, _, _, rfl, rfl, _, _, rfl, rfl, .inl ⟨_, rfl, _, _, rfl, rfl, (by show (0 : Int) < _; decide), (by show 3 ≤ sizeLine; decide), fun p hp0 => ?_⟩⟩
      exact kk p _ (s1.free hp0) (Same.trans s1 (same_new hp0)) ⟨_, _, 0, upd_same, own0 _ _, Int.emod_nonneg _ (by decide), Int.lt_trans (Int.emod_lt_of_pos _ (by decide)) (by decide), Nat.le_refl 0⟩
theorem scOf : FnScope ["pot", "some"] ["pot", "some"] (defScope s_law_of) := ⟨rfl, rfl, rfl, by decide +kernel, rfl, by decide +kernel, by decide +kernel⟩
def spOf (K : PySem.W.Frag) : Sp := fun vs H Q _ => ∃ (a b : Addr) (xs : List V) (c : Nat), vs = [.ref a, .ref b] ∧ PotAt H a c ∧ ((SqL K H b xs ∧ H b = some (.lst xs) ∧ b ≠ a) ∨ H b = some (.tup xs)) ∧ 0 < xs.length ∧ xs.length ≤ 1000 ∧ c ≤ 900000 ∧
  ∀ (i : Nat) (x : V) H', xs[i]? = some x → PotAt H' a (c + 1) → Only a H H' → Q x H'
theorem ok_of {f fT : Addr} {fd fdT : FuncData} (F : Fun K "_law_of" "_law_of" s_law_of f fd) (T : Bn mg) (cT : Ca P w K mg base 1 "_law_take" ["pot", "upto"] spTake fT fdT) : FnOk P w K mg base CX0 2 f fd ["pot", "some"] (spOf K) := by
  refine F.ok scOf (fun vs H Q E h => ?_) (fun cdv A outer s H vs Q E hr h => ?_)
  · obtain ⟨a, b, xs, c, rfl, _⟩ := h
    rfl
  · obtain ⟨a, b, xs, c, rfl, hp, hb, l0, l1, hc, kk⟩ := h
    refine ⟨_, pss_one (ps_ret (pe_ix ix_seq (pv 1) (pe_ca cT hr (pa_cons (pv 0) (pa_cons (pe_callB call_len_seq (by rfl) T.len PySem.boot_len (pa_cons (pv 1) pa_nil)) pa_nil))) (fun _ _ => rfl))), ?_⟩
    have hb' : SqL K H b xs ∨ SqT K H b xs := hb.elim (fun q => .inl q.1) (fun q => .inr (SqT.of q))
    refine ⟨_, rfl, _, rfl, _, rfl, b, _, rfl, hb', a, (xs.length : Int), c, rfl, hp, by omega, by omega, hc, fun r H' r0 r1 hp' on => ?_⟩
    obtain ⟨i, rfl⟩ : ∃ i : Nat, r = (i : Int) := ⟨r.toNat, by omega⟩
    have hi : i < xs.length := by omega
    have hx : atI xs (i : Int) = some xs[i] := at_of (j := i) rfl (List.getElem?_eq_getElem hi)
    obtain ⟨p0, p1, p2, ha, _⟩ := id hp
    rcases hb with ⟨_, hb, hne⟩ | hb
    · exact .inl ⟨b, _, _, _, rfl, rfl, SqL.of (on _ _ hb hne), hx, kk i _ H' (List.getElem?_eq_getElem hi) hp' on⟩
    · exact .inr (.inl ⟨b, _, _, _, rfl, rfl, SqT.of (on _ _ hb (ne_of hb ha (by intro z; cases z))), hx, kk i _ H' (List.getElem?_eq_getElem hi) hp' on⟩)
theorem scCells : FnScope ["script", "limit"] ["script", "limit"] (defScope s_law_cells) := ⟨rfl, rfl, rfl, by decide +kernel, rfl, by decide +kernel, by decide +kernel⟩
def spCells (K : PySem.W.Frag) : Sp := fun vs H Q _ => ∃ (a : Addr) (xs : List V) (lim : Nat), vs = [.ref a, .int (lim : Int)] ∧ SqL K H a xs ∧ 1 ≤ lim ∧ lim ≤ 9 ∧ ∀ (l : Addr) (m : Nat), 1 ≤ m → m ≤ lim → H l = none → Q (.ref l) (upd H l (.lst (rgV 0 (m : Int))))
theorem ok_cells {f : Addr} {fd : FuncData} (F : Fun K "_law_cells" "_law_cells" s_law_cells f fd) (T : Bn mg) : FnOk P w K mg base CX0 1 f fd ["script", "limit"] (spCells K) := by
  refine F.ok scCells (fun vs H Q E h => ?_) (fun cdv A outer s H vs Q E hr h => ?_)
  · obtain ⟨a, xs, lim, rfl, _⟩ := h
    rfl
  · obtain ⟨a, xs, lim, rfl, ha, h1, h2, kk⟩ := h
    refine ⟨_, pss_one (ps_ret (pe_listRg rfl (by rfl) T.list (prg_1 (by rfl) T.range (pe_callB (call_max2 rfl) (by rfl) T.max (by decide +kernel) (pa_cons pe_int (pa_cons (pe_callB (call_min2 rfl) (by rfl) T.min (by decide +kernel) (pa_cons (pv 1) (pa_cons (pe_callB call_len_seq (by rfl) T.len PySem.boot_len (pa_cons (pv 0) pa_nil)) pa_nil))) pa_nil)))))), ?_⟩
    refine ⟨_, rfl, _, rfl, a, _, rfl, .inl ha, _, _, rfl, _, _, rfl, _, rfl, ?_⟩
    obtain ⟨m, hm, m1, m2⟩ : ∃ m : Nat, (if (if (xs.length : Int) < (lim : Int) then (xs.length : Int) else (lim : Int)) > 1 then (if (xs.length : Int) < (lim : Int) then (xs.length : Int) else (lim : Int)) else 1) = (m : Int) ∧ 1 ≤ m ∧ m ≤ lim := by
      by_cases c1 : (xs.length : Int) < (lim : Int)
      · rw [if_pos c1]
        by_cases c2 : (xs.length : Int) > 1
        · rw [if_pos c2]
          exact ⟨xs.length, rfl, by omega, by omega⟩
        · rw [if_neg c2]
          exact ⟨1, rfl, by omega, by omega⟩
      · rw [if_neg c1]
        by_cases c2 : (lim : Int) > 1
        · rw [if_pos c2]
          exact ⟨lim, rfl, by omega, by omega⟩
        · rw [if_neg c2]
          exact ⟨1, rfl, by omega, by omega⟩
    rw [hm]
    refine ⟨⟨by decide, by decide, by omega, by omega, ?_⟩, fun l hl => kk l m m1 m2 hl⟩
    have : ((m : Int) - 0).toNat = m := by omega
    rw [this]
    exact Nat.le_trans m2 (Nat.le_trans h2 (by decide))
end
end Spr
namespace Spr
open PySem L2
/-! ### like data -/
def flatL : V → Bool
  | .non => true
  | .int _ => true
  | .str _ => true
  | _ => false
def Like : Nat → Hp → V → V → Prop
  | 0, _, u, v => u = v ∧ flatL u = true
  | n + 1, H, u, v => (u = v ∧ flatL u = true) ∨ ∃ (a b : Addr) (xs ys : List V), u = .ref a ∧ v = .ref b ∧ H a = some (.tup xs) ∧ H b = some (.tup ys) ∧ xs.length = ys.length ∧ xs.length ≤ 900 ∧ ∀ (i : Nat) (x y : V), xs[i]? = some x → ys[i]? = some y → Like n H x y
theorem Like.same : ∀ {n : Nat} {H H' : Hp} {u v : V}, Same H H' → Like n H u v → Like n H' u v
  | 0, _, _, _, _, _, h => h
  | _ + 1, _, _, _, _, s, .inl h => .inl h
  | n + 1, _, _, _, _, s, .inr ⟨a, b, xs, ys, e1, e2, h1, h2, h3, h4, h5⟩ => .inr ⟨a, b, xs, ys, e1, e2, s _ _ h1, s _ _ h2, h3, h4, fun i x y p q => Like.same s (h5 i x y p q)⟩
theorem Like.flat {n : Nat} {H : Hp} {u : V} (h : flatL u = true) : Like n H u u := by
  cases n with
  | zero => exact ⟨rfl, h⟩
  | succ n => exact .inl ⟨rfl, h⟩
section
variable {P : Program} {w : World} {K : PySem.W.Frag} {mg : Str → Option Value} {base : Heap}
def spLike (n : Nat) : Sp := fun vs H Q _ => ∃ u v : V, vs = [u, v] ∧ Like n H u v ∧ ∀ H', Same H H' → Q (.bl true) H'
abbrev nLike : List Str := ["one", "other", "mine", "its", "is_whole"]
theorem scLike : FnScope nLike ["one", "other"] (defScope s_law_is_like) := ⟨rfl, rfl, rfl, by decide +kernel, rfl, by decide +kernel, by decide +kernel⟩
theorem ok_like {f : Addr} {fd : FuncData} (F : Fun K "_law_is_like" "_law_is_like" s_law_is_like f fd) (T : Bn mg) (m : mg "_law_is_like" = some (.ref f)) (kp : PySem.W.keepIn K (.ref f) = true) (b : Binds K fd ["one", "other"] []) : ∀ n : Nat, FnOk P w K mg base CX0 (n + 1) f fd ["one", "other"] (spLike n) := by
  intro n
  induction n with
  | zero =>
    refine F.ok scLike (fun vs H Q E h => ?_) (fun cdv A outer s H vs Q E hr h => ?_)
    · obtain ⟨u, v, rfl, _⟩ := h
      rfl
    · obtain ⟨u, v, rfl, ⟨rfl, hfl⟩, k⟩ := h
      refine ⟨_, pss_cons (ps_if (PW.pt (pw_and (pt_val (pe_callB call_isi (by rfl) T.isi (by decide +kernel) (pa_cons (pv 0) (pa_cons (pe_bltn (v := .ty "tuple") (by rfl) T.tuple (by decide +kernel) rfl) pa_nil)))) (pw_and1 (pt_val (pe_callB call_isi (by rfl) T.isi (by decide +kernel) (pa_cons (pv 1) (pa_cons (pe_bltn (v := .ty "tuple") (by rfl) T.tuple (by decide +kernel) rfl) pa_nil))))))) pss_never pss_nil)
        (pss_cons (ps_set (i := 4) scLike.nd rfl (Or.inl rfl) (pe_and (pe_callB call_isi (by rfl) T.isi (by decide +kernel) (pa_cons (pv 0) (pa_cons (pe_bltn (v := .ty "int") (by rfl) T.int (by decide +kernel) rfl) pa_nil))) (pe_one (pe_not (pe_callB call_isi (by rfl) T.isi (by decide +kernel) (pa_cons (pv 0) (pa_cons (pe_bltn (v := .ty "bool") (by rfl) T.bool (by decide +kernel) rfl) pa_nil)))))))
        (pss_one (ps_ret (pe_and (pe_cmpR op_eq (pv 4) (pe_and (pe_callB call_isi (by rfl) T.isi (by decide +kernel) (pa_cons (pv 1) (pa_cons (pe_bltn (v := .ty "int") (by rfl) T.int (by decide +kernel) rfl) pa_nil))) (pe_one (pe_not (pe_callB call_isi (by rfl) T.isi (by decide +kernel) (pa_cons (pv 1) (pa_cons (pe_bltn (v := .ty "bool") (by rfl) T.bool (by decide +kernel) rfl) pa_nil)))))) (nomark _)) (pe_one (pe_cmpR op_eq (pv 0) (pv 1) (nomark _))))))), ?_⟩
      cases u with
      | int i =>
        refine ⟨_, rfl, .int i, _, _, _, false, rfl, .ty "tuple", .base (.int i), kit_ty (by decide +kernel), false, rfl, iteF (iteF ?_)⟩
        refine ⟨_, rfl, .int i, _, _, _, true, rfl, .ty "int", .base (.int i), kit_ty (by decide +kernel), true, rfl, iteT ?_⟩
        refine ⟨_, rfl, .int i, _, _, _, false, rfl, .ty "bool", .base (.int i), kit_ty (by decide +kernel), false, rfl, ?_⟩
        refine ⟨_, rfl, _, rfl, .int i, _, _, _, true, rfl, .ty "int", .base (.int i), kit_ty (by decide +kernel), true, rfl, iteT ?_⟩
        refine ⟨_, rfl, .int i, _, _, _, false, rfl, .ty "bool", .base (.int i), kit_ty (by decide +kernel), false, rfl, rfl, true, rfl, iteT ?_⟩
        refine ⟨_, rfl, _, rfl, rfl, ?_⟩
        rw [decide_eq_true rfl]
        exact k H (Same.refl H)
      | non =>
        refine ⟨_, rfl, .non, _, _, _, false, rfl, .ty "tuple", .base .non, kit_ty (by decide +kernel), false, rfl, iteF (iteF ?_)⟩
        refine ⟨_, rfl, .non, _, _, _, false, rfl, .ty "int", .base .non, kit_ty (by decide +kernel), false, rfl, iteF ?_⟩
        refine ⟨_, rfl, _, rfl, .non, _, _, _, false, rfl, .ty "int", .base .non, kit_ty (by decide +kernel), false, rfl, iteF ⟨rfl, true, rfl, iteT ?_⟩⟩
        exact ⟨_, rfl, _, rfl, rfl, k H (Same.refl H)⟩
      | str z =>
        refine ⟨_, rfl, .str z, _, _, _, false, rfl, .ty "tuple", .base (.str z), kit_ty (by decide +kernel), false, rfl, iteF (iteF ?_)⟩
        refine ⟨_, rfl, .str z, _, _, _, false, rfl, .ty "int", .base (.str z), kit_ty (by decide +kernel), false, rfl, iteF ?_⟩
        refine ⟨_, rfl, _, rfl, .str z, _, _, _, false, rfl, .ty "int", .base (.str z), kit_ty (by decide +kernel), false, rfl, iteF ⟨rfl, true, rfl, iteT ?_⟩⟩
        refine ⟨_, rfl, _, rfl, rfl, ?_⟩
        rw [decide_eq_true rfl]
        exact k H (Same.refl H)
      | bl _ => cases hfl
      | byt _ => cases hfl
      | flt _ => cases hfl
      | ref _ => cases hfl
      | ty _ => cases hfl
  | succ n ih =>
    refine F.ok scLike (fun vs H Q E h => ?_) (fun cdv A outer s H vs Q E hr h => ?_)
    · obtain ⟨u, v, rfl, _⟩ := h
      rfl
    · obtain ⟨u, v, rfl, hl, k⟩ := h
      have cR : Ca P w K mg base (n + 1) "_law_is_like" ["one", "other"] (spLike n) f fd := ⟨ih, m, kp, b⟩
      refine ⟨_, pss_cons (ps_if (PW.pt (pw_and (pt_val (pe_callB call_isi (by rfl) T.isi (by decide +kernel) (pa_cons (pv 0) (pa_cons (pe_bltn (v := .ty "tuple") (by rfl) T.tuple (by decide +kernel) rfl) pa_nil)))) (pw_and1 (pt_val (pe_callB call_isi (by rfl) T.isi (by decide +kernel) (pa_cons (pv 1) (pa_cons (pe_bltn (v := .ty "tuple") (by rfl) T.tuple (by decide +kernel) rfl) pa_nil)))))))
          (pss_one (ps_ret (pe_and (pe_cmpR op_eq (pe_callB call_len_seq (by rfl) T.len PySem.boot_len (pa_cons (pv 0) pa_nil)) (pe_callB call_len_seq (by rfl) T.len PySem.boot_len (pa_cons (pv 1) pa_nil)) (nomark _)) (pe_one (pe_callB (cr_all rfl) (by rfl) T.all (by decide +kernel) (pa_cons (pe_lc (own := [("mine", 2), ("its", 3)]) (g := gTup K 2 (gCons (gName 2) (gCons (gName 3) gNil))) (tt := tYes) rfl scLike.nd (RZ.pi_zipA (by rfl) T.zip (pa_cons (pv 0) (pa_cons (pv 1) pa_nil))) (blkOk_by (N := nLike) (sc := defScope s_law_is_like) (by decide +kernel))
            (fun _ _ _ _ _ => pg_tup rfl (pgs_cons (pg_name (i := 2) scLike.nd rfl (Or.inl rfl)) (pgs_cons (pg_name (i := 3) scLike.nd rfl (Or.inl rfl)) pgs_nil))) (fun _ _ _ _ _ => pts_nil) (fun _ _ _ _ _ => pe_ca cR (by assumption) (pa_cons (pv 2) (pa_cons (pv 3) pa_nil)))) pa_nil)))))) pss_nil)
        (pss_cons (ps_set (i := 4) scLike.nd rfl (Or.inl rfl) (pe_and (pe_callB call_isi (by rfl) T.isi (by decide +kernel) (pa_cons (pv 0) (pa_cons (pe_bltn (v := .ty "int") (by rfl) T.int (by decide +kernel) rfl) pa_nil))) (pe_one (pe_not (pe_callB call_isi (by rfl) T.isi (by decide +kernel) (pa_cons (pv 0) (pa_cons (pe_bltn (v := .ty "bool") (by rfl) T.bool (by decide +kernel) rfl) pa_nil)))))))
        (pss_one (ps_ret (pe_and (pe_cmpR op_eq (pv 4) (pe_and (pe_callB call_isi (by rfl) T.isi (by decide +kernel) (pa_cons (pv 1) (pa_cons (pe_bltn (v := .ty "int") (by rfl) T.int (by decide +kernel) rfl) pa_nil))) (pe_one (pe_not (pe_callB call_isi (by rfl) T.isi (by decide +kernel) (pa_cons (pv 1) (pa_cons (pe_bltn (v := .ty "bool") (by rfl) T.bool (by decide +kernel) rfl) pa_nil)))))) (nomark _)) (pe_one (pe_cmpR op_eq (pv 0) (pv 1) (nomark _))))))), ?_⟩
      rcases hl with ⟨rfl, hfl⟩ | ⟨a, b2, xs, ys, rfl, rfl, ha, hb, hlen, h900, hall⟩
      · cases u with
        | int i =>
          refine ⟨_, rfl, .int i, _, _, _, false, rfl, .ty "tuple", .base (.int i), kit_ty (by decide +kernel), false, rfl, iteF (iteF ?_)⟩
          refine ⟨_, rfl, .int i, _, _, _, true, rfl, .ty "int", .base (.int i), kit_ty (by decide +kernel), true, rfl, iteT ?_⟩
          refine ⟨_, rfl, .int i, _, _, _, false, rfl, .ty "bool", .base (.int i), kit_ty (by decide +kernel), false, rfl, ?_⟩
          refine ⟨_, rfl, _, rfl, .int i, _, _, _, true, rfl, .ty "int", .base (.int i), kit_ty (by decide +kernel), true, rfl, iteT ?_⟩
          refine ⟨_, rfl, .int i, _, _, _, false, rfl, .ty "bool", .base (.int i), kit_ty (by decide +kernel), false, rfl, rfl, true, rfl, iteT ?_⟩
          refine ⟨_, rfl, _, rfl, rfl, ?_⟩
          rw [decide_eq_true rfl]
          exact k H (Same.refl H)
        | non =>
          refine ⟨_, rfl, .non, _, _, _, false, rfl, .ty "tuple", .base .non, kit_ty (by decide +kernel), false, rfl, iteF (iteF ?_)⟩
          refine ⟨_, rfl, .non, _, _, _, false, rfl, .ty "int", .base .non, kit_ty (by decide +kernel), false, rfl, iteF ?_⟩
          refine ⟨_, rfl, _, rfl, .non, _, _, _, false, rfl, .ty "int", .base .non, kit_ty (by decide +kernel), false, rfl, iteF ⟨rfl, true, rfl, iteT ?_⟩⟩
          exact ⟨_, rfl, _, rfl, rfl, k H (Same.refl H)⟩
        | str z =>
          refine ⟨_, rfl, .str z, _, _, _, false, rfl, .ty "tuple", .base (.str z), kit_ty (by decide +kernel), false, rfl, iteF (iteF ?_)⟩
          refine ⟨_, rfl, .str z, _, _, _, false, rfl, .ty "int", .base (.str z), kit_ty (by decide +kernel), false, rfl, iteF ?_⟩
          refine ⟨_, rfl, _, rfl, .str z, _, _, _, false, rfl, .ty "int", .base (.str z), kit_ty (by decide +kernel), false, rfl, iteF ⟨rfl, true, rfl, iteT ?_⟩⟩
          refine ⟨_, rfl, _, rfl, rfl, ?_⟩
          rw [decide_eq_true rfl]
          exact k H (Same.refl H)
        | bl _ => cases hfl
        | byt _ => cases hfl
        | flt _ => cases hfl
        | ref _ => cases hfl
        | ty _ => cases hfl
      · refine ⟨_, rfl, .ref a, _, _, _, true, rfl, .ty "tuple", .base (.tup ha), kit_ty (by decide +kernel), true, rfl, iteT ?_⟩
        refine ⟨_, rfl, .ref b2, _, _, _, true, rfl, .ty "tuple", .base (.tup hb), kit_ty (by decide +kernel), true, rfl, iteT ?_⟩
        refine ⟨_, rfl, a, _, rfl, .inr (SqT.of ha), _, rfl, b2, _, rfl, .inr (SqT.of hb), rfl, true, by rw [hlen, decide_eq_true rfl], iteT ?_⟩
        refine ⟨_, rfl, _, rfl, a, b2, _, _, rfl, .inr ⟨SqT.of ha, SqT.of hb, fun D hD => ?_⟩⟩
        refine lc_it (walk_zipT rfl) (PvS H D fun i => List.replicate i (.bl true)) (pv0 hD rfl) (fun i H' _ q => ⟨sTup q.1 (SqT.of ha), sTup q.1 (SqT.of hb)⟩) (fun i x H2 H3 hi q y => ?_) (fun H2 q => ?_)
        · obtain ⟨T', x1, x2, rfl, hT, rfl, e1, e2⟩ := y
          have s3 : Same H (upd H2 T' (.tup [x1, x2])) := same_upd q.1 (q.1.free hT)
          have hil : i < xs.length := (List.getElem?_eq_some_iff.mp e1).1
          refine ⟨T', _, rfl, SqT.of upd_same, rfl, _, _, rfl, _, _, rfl, rfl, rfl, _, rfl, _, rfl, x1, x2, rfl, (hall i x1 x2 e1 e2).same s3, fun H4 s4 => ?_⟩
          refine pvStep hD (Same.trans s3 s4) (s4 _ _ ((upd_ne (ne_of_none q.2 hT)).trans q.2)) (by rw [List.length_replicate]; exact small1000 (by omega)) List.replicate_succ'
        · refine ⟨D, _, rfl, SqL.of (by rw [q.2, List.map_replicate]), ?_⟩
          rw [bl_all_replicate]
          exact k H2 q.1
end
end Spr
namespace Spr
open PySem L2
theorem only_new {a c : Addr} {H H' : Hp} {o : HO} (p : Only a H H') (h : H c = none) : Only a H (upd H' c o) := fun b u e hb => by
  rw [upd_ne (ne_of_none e h)]
  exact p b u e hb
theorem PotAt.same {H H' : Hp} {a : Addr} {c : Nat} (p : PotAt H a c) (s : Same H H') : PotAt H' a c := by
  obtain ⟨p0, p1, p2, ha, q⟩ := p
  exact ⟨p0, p1, p2, s _ _ ha, q⟩
theorem PotAt.upd {H : Hp} {a b : Addr} {c : Nat} {o : HO} (p : PotAt H a c) (h : b ≠ a) : PotAt (upd H b o) a c := by
  obtain ⟨p0, p1, p2, ha, q⟩ := p
  exact ⟨p0, p1, p2, (upd_ne h.symm).trans ha, q⟩
theorem PotAt.ne {H : Hp} {a b : Addr} {c : Nat} (p : PotAt H a c) (h : H b = none) : b ≠ a := by
  obtain ⟨p0, p1, p2, ha, q⟩ := p
  intro e
  rw [e, ha] at h
  cases h
theorem erase_map (f : Int → V) : ∀ (rs : List Int) (k : Nat), (rs.map f).eraseIdx k = (rs.eraseIdx k).map f
  | [], _ => rfl
  | _ :: _, 0 => rfl
  | x :: r, k + 1 => congrArg (f x :: ·) (erase_map f r k)
theorem pop_perm : ∀ (rs : List Int) (k : Nat) (y : Int), rs[k]? = some y → (y :: rs.eraseIdx k).Perm rs
  | [], _, _, h => by simp at h
  | x :: r, 0, y, h => by
    cases (show some x = some y from h)
    exact List.Perm.refl _
  | x :: r, k + 1, y, h => (List.Perm.swap x y _).trans (List.Perm.cons x (pop_perm r k y h))
section
variable {P : Program} {w : World} {K : PySem.W.Frag} {mg : Str → Option Value} {base : Heap}
abbrev nSome : List Str := ["pot", "pool", "many", "stock", "found", "lap"]
theorem scSome : FnScope nSome ["pot", "pool", "many"] (defScope s_law_some) := ⟨rfl, rfl, rfl, by decide +kernel, rfl, by decide +kernel, by decide +kernel⟩
def spSome : Sp := fun vs H Q _ => ∃ (a b : Addr) (ns : List Int) (m c : Nat), vs = [.ref a, .ref b, .int (m : Int)] ∧ PotAt H a c ∧ H b = some (.lst (ns.map V.int)) ∧ ns.length ≤ 20 ∧ m ≤ ns.length ∧ c ≤ 800000 ∧
  ∀ (zs rs : List Int) (l : Addr) H', zs.length = m → (zs ++ rs).Perm ns → PotAt H' a (c + m) → Only a H H' → H l = none → H' l = some (.lst (zs.map V.int)) → Q (.ref l) H'
theorem ok_some {f fT : Addr} {fd fdT : FuncData} (F : Fun K "_law_some" "_law_some" s_law_some f fd) (T : Bn mg) (cT : Ca P w K mg base 1 "_law_take" ["pot", "upto"] spTake fT fdT) : FnOk P w K mg base CX0 2 f fd ["pot", "pool", "many"] spSome := by
  refine F.ok scSome (fun vs H Q E h => ?_) (fun cdv A outer s H vs Q E hr h => ?_)
  · obtain ⟨a, b, ns, m, c, rfl, _⟩ := h
    rfl
  · obtain ⟨a, b, ns, m, c, rfl, hp, hb, h20, hm, hc, kk⟩ := h
    refine ⟨_, pss_cons (ps_par (i := 3) (j := 4) (by rfl) scSome.nd rfl rfl (by decide) rfl rfl (pa_cons (pe_callTy call_list_of (by rfl) T.list (by decide +kernel) (pa_cons (pv 1) pa_nil)) (pa_cons (pe_lst pa_nil) pa_nil)) (by rfl))
      (pss_cons (ps_for PassesOwn.never rfl (pi_range1 rfl T.range (pa_cons (pv 2) pa_nil)) (pg_name (i := 5) scSome.nd rfl (Or.inl rfl))
        (pss_one (ps_expr (pe_bm PySem.F.plainAttrs_list PySem.F.slot_list_append PySem.F.type_list_append mt_append (pv 4) (pa_cons (pe_bm PySem.F.plainAttrs_list PySem.F.slot_list_pop PySem.F.type_list_pop mt_popAt (pv 3) (pa_cons (pe_ca cT hr (pa_cons (pv 0) (pa_cons (pe_callB call_len_seq (by rfl) T.len PySem.boot_len (pa_cons (pv 3) pa_nil)) pa_nil))) pa_nil)) pa_nil)))))
      (pss_one (ps_ret (pv 4)))), ?_⟩
    refine ⟨_, rfl, b, _, rfl, .inl (SqL.of hb), fun st hst => ⟨(by show 0 ≤ sizeLine; decide), fun fo hfo => ⟨_, _, rfl, ?_⟩⟩⟩
    have hfo0 : H fo = none := Same.free (same_new hst) hfo
    have sf : st ≠ fo := ne_of_none upd_same hfo
    refine ⟨_, rfl, (m : Int), rfl, by omega, by omega, ?_⟩
    refine for_range (lo := 0) (n := m) (fun i σ H' => ∃ (v5 : Option V) (zs rs : List Int), σ = [some (.ref a), some (.ref b), some (.int (m : Int)), some (.ref st), some (.ref fo), v5] ∧ zs.length = i ∧ (zs ++ rs).Perm ns ∧ H' st = some (.lst (rs.map V.int)) ∧ H' fo = some (.lst (zs.map V.int)) ∧ PotAt H' a (c + i) ∧ Only a H H')
      ⟨none, [], ns, rfl, rfl, List.Perm.refl _, (upd_ne sf).trans upd_same, upd_same, (hp.upd (hp.ne hst)).upd (hp.ne hfo0), only_new (only_new (Only.refl a H) hst) hfo0⟩ ?_ ?_
    · rintro i σ H' hi ⟨v5, zs, rs, rfl, hz, hpm, hs, hf, hp', on⟩
      have hlen : rs.length = ns.length - i := by
        have := hpm.length_eq
        rw [List.length_append] at this
        omega
      refine ⟨_, rfl, .inl ⟨rfl, _, SqL.of hf⟩, _, rfl, .inl ⟨rfl, _, SqL.of hs⟩, _, rfl, _, rfl, st, _, rfl, .inl (SqL.of hs), ?_⟩
      rw [List.length_map]
      refine ⟨a, (rs.length : Int), c + i, rfl, hp', by omega, by omega, by omega, fun r H1 r0 r1 hp1 on1 => ?_⟩
      obtain ⟨k, rfl⟩ := Int.eq_ofNat_of_zero_le r0
      have hk : k < rs.length := by omega
      have sa : st ≠ a := hp.ne hst
      have fa : fo ≠ a := hp.ne hfo0
      have hs1 := on1 _ _ hs sa
      have hf1 := on1 _ _ hf fa
      refine ⟨st, _, (k : Int), k, V.int rs[k], rfl, rfl, hs1, by omega, by omega, ?_, ?_, ?_⟩
      · rw [List.length_map]
        exact PyProof.Rows.seqIndex_at (by omega) (by omega)
      · rw [List.getElem?_map, List.getElem?_eq_getElem hk]
        rfl
      refine ⟨fo, _, _, rfl, rfl, (upd_ne (Ne.symm sf)).trans hf1, ?_, ?_⟩
      · rw [List.length_map]
        exact small1000 (by omega)
      · rw [erase_map]
        refine ⟨_, zs ++ [rs[k]], rs.eraseIdx k, rfl, by rw [List.length_append, hz]; rfl, ?_, (upd_ne sf).trans upd_same, by rw [upd_same, List.map_append]; rfl, (hp1.upd sa).upd fa, only_new (only_new (Only.trans on on1) hst) hfo0⟩
        rw [List.append_assoc]
        exact (List.Perm.append_left zs (pop_perm rs k _ (List.getElem?_eq_getElem hk))).trans hpm
    · rintro σ H' ⟨v5, zs, rs, rfl, hz, hpm, hs, hf, hp', on⟩
      exact ⟨_, rfl, kk zs rs fo H' hz hpm hp' on hfo0 hf⟩
theorem scLus : FnScope ["n", "t"] ["n", "t"] (defScope s_law_usual) := ⟨rfl, rfl, rfl, by decide +kernel, rfl, by decide +kernel, by decide +kernel⟩
def spLus : Sp := fun vs H Q _ => ∃ n t : Int, vs = [.int n, .int t] ∧ 2 ≤ n ∧ n ≤ 12 ∧ 0 ≤ t ∧ t ≤ 9 ∧ ∀ p, H p = none → Q (.ref p) (upd H p (.tup [.int ((n + t) / 2 + 1), .int (t + 1), .int (2 * t + 1)]))
theorem ok_lus {f : Addr} {fd : FuncData} (F : Fun K "_law_usual" "_law_usual" s_law_usual f fd) : FnOk P w K mg base CX0 1 f fd ["n", "t"] spLus := by
  refine F.ok scLus (fun vs H Q E h => ?_) (fun cdv A outer s H vs Q E hr h => ?_)
  · obtain ⟨n, t, rfl, _⟩ := h
    rfl
  · obtain ⟨n, t, rfl, n0, n1, t0, t1, kk⟩ := h
    refine ⟨_, pss_one (ps_ret (pe_tup (pa_cons (pe_op op_add (pe_op op_fdiv (pe_op op_add (pv 0) (pv 1)) pe_int) pe_int) (pa_cons (pe_op op_add (pv 1) pe_int) (pa_cons (pe_op op_add (pe_op op_mul pe_int (pv 1)) pe_int) pa_nil))))), ?_⟩
    refine ⟨_, rfl, _, rfl, _, _, rfl, rfl, _, _, rfl, rfl, ⟨by decide, by decide⟩, _, _, rfl, rfl, _, rfl, _, _, rfl, rfl, _, rfl, _, _, rfl, rfl, .inl ⟨by decide, by decide⟩, _, _, rfl, rfl, (by show 3 ≤ sizeLine; decide), fun p hp => kk p hp⟩
end
end Spr
namespace Spr
open PySem L2
theorem Like.up : ∀ {n : Nat} {H : Hp} {u v : V}, Like n H u v → Like (n + 1) H u v
  | 0, _, _, _, h => .inl h
  | _ + 1, _, _, _, .inl h => .inl h
  | n + 1, _, _, _, .inr ⟨a, b, xs, ys, e1, e2, h1, h2, h3, h4, h5⟩ => .inr ⟨a, b, xs, ys, e1, e2, h1, h2, h3, h4, fun i x y p q => Like.up (h5 i x y p q)⟩
theorem sumN_le : ∀ l : List ME, sumN (l.map potE) ≤ 2 * l.length
  | [] => Nat.le_refl _
  | E :: r => by
    have := sumN_le r
    have h : potE E ≤ 2 := by
      unfold potE
      split <;> split <;> decide
    show potE E + sumN (r.map potE) ≤ 2 * (r.length + 1)
    omega
theorem initS_pot {n : Nat} {e r d : Int} {liars : List Int} {first : Int} {value : Option Int} (p : MkP n e r d liars first value) : (initS n e r d liars first value).log.length + pot (initS n e r d liars first value) ≤ 400 := by
  have w0 := init0_wf p
  have n12 := p.n12
  have base : pot (init0 n e r d liars first value) ≤ 12 * 24 := by
    have := sumN_le (init0 n e r d liars first value).ears
    have e1 : (init0 n e r d liars first value).ears.length = n := List.length_replicate
    show 0 + 12 * sumN _ ≤ _
    omega
  unfold initS
  cases value with
  | none =>
    show 0 + pot (init0 n e r d liars first none) ≤ 400
    omega
  | some v =>
    dsimp only
    split
    · show 0 + pot (init0 n e r d liars first (some v)) ≤ 400
      omega
    · have w1 : WfS (putAll (init0 n e r d liars first (some v)) first .said v) := putAll_wf w0 p.f0 p.f1
      have kp := putTo_keeps (init0 n e r d liars first (some v)) first .said v (init0 n e r d liars first (some v)).n
      have h1 := hearS_pot w1 (snd := first) (k := .said) (v := v) p.f0 (by rw [show (putAll (init0 n e r d liars first (some v)) first .said v).n = n from kp.1]; exact p.f1)
      have h2 : pot (putAll (init0 n e r d liars first (some v)) first .said v) ≤ n + 12 * 24 := by
        have hl := putTo_len (init0 n e r d liars first (some v)) first .said v (init0 n e r d liars first (some v)).n
        have he : (putAll (init0 n e r d liars first (some v)) first .said v).ears = (init0 n e r d liars first (some v)).ears := kp.2.2.2.2.2.2.2.1
        unfold pot at base ⊢
        rw [he]
        have hl : (putAll (init0 n e r d liars first (some v)) first .said v).slips.length ≤ 0 + n := hl
        have : (init0 n e r d liars first (some v)).slips.length = 0 := rfl
        omega
      have hlog : (hearS (putAll (init0 n e r d liars first (some v)) first .said v) first first .said v).log = [] := (hearS_keeps _ _ _ _ _).2.2.2.2.2.2.2.trans kp.2.2.2.2.2.2.2.2
      rw [hlog]
      show 0 + _ ≤ _
      omega
end Spr
namespace Spr
open PySem L2
/-- a property that may be read -/
structure Pr (P : Program) (w : World) (K : PySem.W.Frag) (mg : Str → Option Value) (base : Heap) (k : Nat) (C : Addr) (x : Str) (sp : Sp) (p g : Addr) (fd : FuncData) : Prop where
  ok : FnOk P w K mg base CX0 k g fd ["self"] sp
  pr : PropOf K C x p g
  b : Binds K fd ["self"] []
section
variable {X : Cx} {k : Nat} {C p g : Addr} {fd : FuncData} {sp : Sp} {x : Str} {pos : Pos} {o : PySem.Expr} {ta : TE}
theorem pe_pr (he : PE X o ta) (cl : Cls X.K C) (c : Pr X.prog X.w X.K X.mg X.base k C x sp p g fd) (hr : Room (k + 1) X.A) (hab : attributeBase o x X.env (eval o X.env) = eval o X.env := by rfl) : PE X (.Attribute o x pos) (tProp C sp [] E0 ta) :=
  pe_prop he cl c.pr c.ok hr c.b .nil pass0 hab
end
end Spr
namespace Spr
open PySem L2
def tk (S : MS) (h : Int) : Option Int := (earOf S h).took
theorem ears_of {S : MS} (w : WfS S) {h : Int} (h0 : 0 ≤ h) (h1 : h < S.n) : ∃ i : Nat, h = (i : Int) ∧ S.ears[i]? = some (earOf S h) := by
  obtain ⟨i, rfl⟩ := Int.eq_ofNat_of_zero_le h0
  have := w.el
  refine ⟨i, rfl, ?_⟩
  unfold earOf
  rw [List.getD_eq_getElem?_getD, Int.toNat_natCast, List.getElem?_eq_getElem (by omega)]
  rfl
theorem ov_non {o : Option Int} : decide (ov o = V.non) = o.isNone := by
  cases o with
  | none => exact decide_eq_true rfl
  | some v => exact decide_eq_false (by intro q; cases q)
theorem filterMap_take {α : Type} {f : α → Option Int} {l : List α} {i : Nat} {x : α} (h : l[i]? = some x) : (l.take (i + 1)).filterMap f = (l.take i).filterMap f ++ (match f x with | some v => [v] | none => []) := by
  rw [List.take_add_one, h, List.filterMap_append]
  congr 1
  show List.filterMap f [x] = _
  rw [List.filterMap_cons]
  cases f x <;> rfl
theorem sel_at {S : MS} {i : Nat} {E : ME} {sel : ME → Option Int} {z : Int} (h : S.ears[i]? = some E) (e : z = (i : Int)) : atI (S.ears.map fun E => ov (sel E)) z = some (ov (sel E)) :=
  at_of e (by rw [List.getElem?_map, h]; rfl)
section
variable {P : Program} {w : World} {K : PySem.W.Frag} {mg : Str → Option Value} {base : Heap}
abbrev nSnd : List Str := ["spread", "honest", "first", "value", "some", "hand", "one"]
theorem scSnd : FnScope nSnd ["spread", "honest", "first", "value"] (defScope s_law_is_sound) := ⟨rfl, rfl, rfl, by decide +kernel, rfl, by decide +kernel, by decide +kernel⟩
def spSnd (C CE : Addr) : Sp := fun vs H Q _ => ∃ (A : SA) (S : MS) (hL : Addr) (hs : List Int) (first : Int) (value : Option Int), vs = [.ref A.p, .ref hL, .int first, ov value] ∧ SpAt C CE A S H ∧ WfS S ∧ H hL = some (.lst (hs.map V.int)) ∧ hs.length ≤ 20 ∧ (∀ h ∈ hs, 0 ≤ h ∧ h < S.n) ∧
  (∀ h ∈ hs, ∀ g ∈ hs, ∀ v u, tk S h = some v → tk S g = some u → v = u) ∧ (first ∈ hs → ∀ h ∈ hs, ∀ v, tk S h = some v → value = some v) ∧ ∀ H', Same H H' → Q (.bl true) H'
theorem ok_snd {f fL C CE pT gT : Addr} {fd dL eT : FuncData} (F : Fun K "_law_is_sound" "_law_is_sound" s_law_is_sound f fd) (T : Bn mg) (hAny : mg "any" = none) (TS : TxS K C) (cL : Ca P w K mg base 4 "_law_is_like" ["one", "other"] (spLike 3) fL dL) (pT_ : Pr P w K mg base 1 C "takings" (spSel C CE (·.took)) pT gT eT) : FnOk P w K mg base CX0 5 f fd ["spread", "honest", "first", "value"] (spSnd C CE) := by
  refine F.ok scSnd (fun vs H Q E h => ?_) (fun cdv A outer s H vs Q E hr h => ?_)
  · obtain ⟨A, S, hL, hs, first, value, rfl, _⟩ := h
    rfl
  · obtain ⟨A', S, hL, hs, first, value, rfl, x, wf, hh, h20, hin, hag, hfs, kk⟩ := h
    have hr2 := hr.mono (show 2 ≤ 4 by decide)
    refine ⟨_, pss_cons (ps_set (i := 4) scSnd.nd rfl (Or.inr rfl) (pe_lc (own := [("hand", 5)]) (g := gName 5) (tt := tB (tNotN (tOp (rIxT K) (tProp C (spSel C CE (·.took)) [] E0 (tVar 0)) (tVar 5)))) (te := tOp (rIxT K) (tProp C (spSel C CE (·.took)) [] E0 (tVar 0)) (tVar 5)) rfl scSnd.nd (pi_list (pv 1)) (blkOk_by (N := nSnd) (sc := defScope s_law_is_sound) (by decide +kernel))
          (fun _ _ _ _ _ => pg_name (i := 5) scSnd.nd rfl (Or.inl rfl)) (fun _ _ _ _ _ => pts_one (pt_cmp (pc_notN (pe_ix ix_tup (pe_pr (pv 0) TS.cl pT_ hr2) (pv 5) (fun _ _ => rfl))))) (fun _ _ _ _ _ => pe_ix ix_tup (pe_pr (pv 0) TS.cl pT_ hr2) (pv 5) (fun _ _ => rfl))))
      (pss_cons (ps_if (pt_val (pe_callB (cr_any rfl) (by rfl) hAny (by decide +kernel) (pa_cons (pe_lc (own := [("one", 6)]) (g := gName 6) (tt := tYes) (te := tNotV (tCall (spLike 3) [] E0 (tCons (tVar 6) (tCons (tOp (rIxL K) (tVar 4) (tC (.int 0))) tNil)))) rfl scSnd.nd (pi_list (pv 4)) (blkOk_by (N := nSnd) (sc := defScope s_law_is_sound) (by decide +kernel))
          (fun _ _ _ _ _ => pg_name (i := 6) scSnd.nd rfl (Or.inl rfl)) (fun _ _ _ _ _ => pts_nil) (fun _ _ _ _ _ => pe_not (pe_ca cL hr (pa_cons (pv 6) (pa_cons (pe_ix ix_list (pv 4) pe_int (fun _ _ => rfl)) pa_nil))))) pa_nil))) pss_never pss_nil)
      (pss_one (ps_ret (pe_or (pe_cmpR op_notIn_seq (pv 2) (pv 1) (by rfl)) (pe_one (pe_callB (cr_all rfl) (by rfl) T.all (by decide +kernel) (pa_cons (pe_lc (own := [("one", 6)]) (g := gName 6) (tt := tYes) rfl scSnd.nd (pi_list (pv 4)) (blkOk_by (N := nSnd) (sc := defScope s_law_is_sound) (by decide +kernel))
          (fun _ _ _ _ _ => pg_name (i := 6) scSnd.nd rfl (Or.inl rfl)) (fun _ _ _ _ _ => pts_nil) (fun _ _ _ _ _ => pe_ca cL hr (pa_cons (pv 6) (pa_cons (pv 3) pa_nil)))) pa_nil))))))), ?_⟩
    refine ⟨_, rfl, hL, rfl, ⟨_, SqL.of hh⟩, fun D hD => ?_⟩
    have wl : ∀ i, ((hs.take i).filterMap (tk S)).length ≤ 20 := fun i => Nat.le_trans (List.length_filterMap_le _ _) (Nat.le_trans (List.length_take_le' _ _) h20)
    refine lc_it walk_list (PvS H D fun i => ((hs.take i).filterMap (tk S)).map V.int) (pv0 hD rfl) (fun i H' _ p => SqL.of (p.1 _ _ hh)) (fun i u H1 H2 hi p y => ?_) (fun H1 p => ?_)
    · obtain ⟨rfl, hx⟩ := y
      obtain ⟨h, hh1, rfl⟩ := map_at hx
      obtain ⟨h0, h1⟩ := hin h (List.mem_of_getElem? hh1)
      obtain ⟨j, rfl, hj⟩ := ears_of wf h0 h1
      have x1 := x.same p.1
      refine ⟨rfl, _, rfl, A'.p, A'.dx, _, rfl, x1.ob, A', S, rfl, x1, wf, fun l3 H3 _ s3 h3 => ⟨_, rfl, l3, _, _, _, rfl, rfl, SqT.of h3, sel_at (sel := (·.took)) hj rfl, ?_⟩⟩
      have e2 := filterMap_take (f := tk S) hh1
      have ow : ov (earOf S (j : Int)).took = ov (tk S (j : Int)) := rfl
      dsimp only
      rw [ow]
      refine ⟨_, rfl, ?_⟩
      rw [ov_non]
      cases et : tk S (j : Int) with
      | none =>
        refine iteF (pvSkip (Same.trans p.1 s3) (s3 _ _ p.2) ?_)
        rw [e2, et]
        simp
      | some v =>
        refine iteT ?_
        have x3 := x1.same s3
        refine ⟨_, rfl, A'.p, A'.dx, _, rfl, x3.ob, A', S, rfl, x3, wf, fun l4 H4 _ s4 h4 => ⟨_, rfl, l4, _, _, _, rfl, rfl, SqT.of h4, sel_at (sel := (·.took)) hj rfl, ?_⟩⟩
        dsimp only
        rw [ow, et]
        refine pvStep hD (Same.trans p.1 (Same.trans s3 s4)) (s4 _ _ (s3 _ _ p.2)) (by rw [List.length_map]; exact small1000 (Nat.le_trans (wl i) (by decide))) ?_
        rw [e2, et, List.map_append]
        rfl
    · have hw : H1 D = some (.lst ((hs.filterMap (tk S)).map V.int)) := by
        rw [p.2, List.length_map]
        dsimp only
        rw [List.take_of_length_le (Nat.le_refl _)]
      have wlen : (hs.filterMap (tk S)).length ≤ 20 := Nat.le_trans (List.length_filterMap_le _ _) h20
      have wmem : ∀ v ∈ hs.filterMap (tk S), ∃ h ∈ hs, tk S h = some v := fun v hv => List.mem_filterMap.mp hv
      generalize hs.filterMap (tk S) = ws at hw wlen wmem
      have s1 := p.1
      refine ⟨_, rfl, D, rfl, ⟨_, SqL.of hw⟩, fun D2 hD2 => ?_⟩
      refine lc_it walk_list (PvS H1 D2 fun i => List.replicate i (.bl false)) (pv0 hD2 rfl) (fun i H' _ p => SqL.of (p.1 _ _ hw)) (fun i u H2 H3 hi q y => ?_) (fun H2 q => ?_)
      · obtain ⟨rfl, hx⟩ := y
        obtain ⟨v, hv, rfl⟩ := map_at hx
        have hil : i < ws.length := (List.getElem?_eq_some_iff.mp hv).1
        have h00 : 0 < ws.length := by omega
        have e0 : ws[0] = v := by
          obtain ⟨a1, b1, c1⟩ := wmem v (List.mem_of_getElem? hv)
          obtain ⟨a2, b2, c2⟩ := wmem ws[0] (List.getElem_mem h00)
          exact hag a2 b2 a1 b1 _ _ c2 c1
        refine ⟨rfl, _, rfl, _, rfl, D, _, _, _, rfl, rfl, SqL.of (q.1 _ _ hw), at_of (j := 0) rfl (by rw [List.getElem?_map, List.getElem?_eq_getElem h00]; rfl), ?_⟩
        rw [e0]
        refine ⟨_, _, rfl, Like.flat rfl, fun H4 s4 => ⟨true, rfl, ?_⟩⟩
        exact pvStep hD2 (Same.trans q.1 s4) (s4 _ _ q.2) (by rw [List.length_replicate]; exact small1000 (by omega)) List.replicate_succ'
      · refine ⟨D2, List.replicate ws.length false, rfl, SqL.of (by rw [q.2, List.map_replicate, List.length_map]), ?_⟩
        have ea : (List.replicate ws.length false).any id = false := by
          rw [List.any_eq_false]
          intro b hb
          rw [List.eq_of_mem_replicate hb]
          decide
        refine ⟨_, rfl, ?_⟩
        rw [ea]
        refine iteF ?_
        have hh2 := q.1 _ _ (s1 _ _ hh)
        refine ⟨_, rfl, _, rfl, hL, _, rfl, .inl (SqL.of hh2), rfl, flat_ints _, _, rfl, ?_⟩
        rw [inV_int]
        by_cases hf : first ∈ hs
        · rw [show inI first hs = true from decide_eq_true hf]
          refine iteF ?_
          have hw2 := q.1 _ _ hw
          refine ⟨_, rfl, D, rfl, ⟨_, SqL.of hw2⟩, fun D3 hD3 => ?_⟩
          refine lc_it walk_list (PvS H2 D3 fun i => List.replicate i (.bl true)) (pv0 hD3 rfl) (fun i H' _ p => SqL.of (p.1 _ _ hw2)) (fun i u H3 H4 hi q3 y => ?_) (fun H3 q3 => ?_)
          · obtain ⟨rfl, hx⟩ := y
            obtain ⟨v, hv, rfl⟩ := map_at hx
            have hil : i < ws.length := (List.getElem?_eq_some_iff.mp hv).1
            obtain ⟨a1, b1, c1⟩ := wmem v (List.mem_of_getElem? hv)
            have ev := hfs hf a1 b1 _ c1
            refine ⟨rfl, _, rfl, _, rfl, ?_⟩
            rw [ev]
            refine ⟨_, _, rfl, Like.flat rfl, fun H5 s5 => ?_⟩
            exact pvStep hD3 (Same.trans q3.1 s5) (s5 _ _ q3.2) (by rw [List.length_replicate]; exact small1000 (by omega)) List.replicate_succ'
          · refine ⟨D3, _, rfl, SqL.of (by rw [q3.2, List.map_replicate]), ?_⟩
            rw [bl_all_replicate]
            exact kk H3 (Same.trans s1 (Same.trans q.1 q3.1))
        · rw [show inI first hs = false from decide_eq_false hf]
          exact iteT (kk H2 (Same.trans s1 q.1))
end
end Spr
namespace Spr
open PySem L2
theorem stepR_keeps (S : MS) : (stepR S).n = S.n ∧ (stepR S).liars = S.liars := by
  unfold stepR
  split
  · exact ⟨rfl, rfl⟩
  · rename_i x _ _
    have h := hearS_keeps (popLog S x.1) x.2.to x.2.frm x.2.kd x.2.val
    exact ⟨h.1, h.2.2.2.2.1⟩
theorem restN_keeps : ∀ (m : Nat) (S : MS), (restN m S).n = S.n ∧ (restN m S).liars = S.liars
  | 0, _ => ⟨rfl, rfl⟩
  | m + 1, S => by
    have h := restN_keeps m (stepR S)
    have q := stepR_keeps S
    exact ⟨h.1.trans q.1, h.2.trans q.2⟩
theorem lieS_bnd (S : MS) (l t : Int) (k : Kd) (v : Int) : (lieS S l t k v).log.length + pot (lieS S l t k v) = S.log.length + pot S + 2 := by
  show (S.log ++ [_]).length + ((S.slips ++ [_]).length + 12 * sumN (S.ears.map potE)) = S.log.length + (S.slips.length + 12 * sumN (S.ears.map potE)) + 2
  rw [List.length_append, List.length_append]
  show S.log.length + 1 + (S.slips.length + 1 + _) = _
  omega
end Spr
namespace Spr
open PySem L2
section
variable {P : Program} {w : World} {K : PySem.W.Frag} {mg : Str → Option Value} {base : Heap}
def spRi : Sp := fun vs H Q _ => ∃ (a : Addr) (c : Nat), vs = [.ref a] ∧ PotAt H a c ∧ c ≤ 700000 ∧ ∀ H', Only a H H' → Q (.bl true) H'
def spLaw (K : PySem.W.Frag) : Sp := fun vs H Q _ => ∃ (a : Addr) (ns : List Int), vs = [.ref a] ∧ SqL K H a (ns.map V.int) ∧ ns.length ≤ 63 ∧ ∀ H', Q (.bl true) H'
theorem scLaw : FnScope ["script", "place"] ["script"] (defScope s_law) := ⟨rfl, rfl, rfl, by decide +kernel, rfl, by decide +kernel, by decide +kernel⟩
theorem ok_law {f f1 f2 f3 : Addr} {fd d1 d2 d3 : FuncData} (F : Fun K "law" "law" s_law f fd) (T : Bn mg) (c1 : Ca P w K mg base 9 "_law_right" ["pot"] spRi f1 d1) (c2 : Ca P w K mg base 1 "_law_pot" ["script", "place"] (spPot K) f2 d2) (c3 : Ca P w K mg base 1 "_law_cells" ["script", "limit"] (spCells K) f3 d3) : FnOk P w K mg base CX0 10 f fd ["script"] (spLaw K) := by
  refine F.ok scLaw (fun vs H Q E h => ?_) (fun cdv A outer s H vs Q E hr h => ?_)
  · obtain ⟨a, ns, rfl, _⟩ := h
    rfl
  · obtain ⟨a, ns, rfl, hS, hlen, kk⟩ := h
    have hr1 := hr.mono (show 1 ≤ 9 by decide)
    refine ⟨_, pss_one (ps_ret (pe_callB (cr_all rfl) (by rfl) T.all (by decide +kernel) (pa_cons (pe_lc (own := [("place", 1)]) (g := gName 1) (tt := tYes) rfl scLaw.nd (pi_list (pe_ca c3 hr1 (pa_cons (pv 0) (pa_cons pe_int pa_nil)))) (blkOk_by (N := ["script", "place"]) (sc := defScope s_law) (by decide +kernel))
          (fun _ _ _ _ _ => pg_name (i := 1) scLaw.nd rfl (Or.inl rfl)) (fun _ _ _ _ _ => pts_nil) (fun _ _ _ _ _ => pe_ca c1 hr (pa_cons (pe_ca c2 hr1 (pa_cons (pv 0) (pa_cons (pv 1) pa_nil))) pa_nil))) pa_nil))), ?_⟩
    refine ⟨_, rfl, a, _, 3, rfl, hS, by decide, by decide, fun l m m1 m2 hl => ?_⟩
    have s1 : Same H (upd H l (.lst (rgV 0 (m : Int)))) := same_new hl
    have hl' : upd H l (.lst (rgV 0 (m : Int))) l = some (.lst (rgV 0 (m : Int))) := upd_same
    generalize upd H l (.lst (rgV 0 (m : Int))) = H0 at s1 hl'
    have rlen : (rgV 0 (m : Int)).length = m := by
      unfold rgV
      rw [List.length_map, List.length_range]
      omega
    refine ⟨l, rfl, ⟨_, SqL.of hl'⟩, fun D hD => ?_⟩
    refine lc_it walk_list (PvS H0 D fun i => List.replicate i (.bl true)) (pv0 hD rfl) (fun i H' _ p => SqL.of (p.1 _ _ hl')) (fun i x H1 H2 hi p y => ?_) (fun H1 p => ?_)
    · obtain ⟨rfl, hx⟩ := y
      have him : i < m := by rw [rlen] at hi; exact hi
      have ex : x = .int (i : Int) := by
        unfold rgV at hx
        rw [List.getElem?_map, List.getElem?_range (by omega)] at hx
        have hx : V.int (0 + (i : Int)) = x := Option.some.inj hx
        rw [← hx, Int.zero_add]
      subst ex
      refine ⟨rfl, _, rfl, _, rfl, a, ns, i, rfl, (Same.trans s1 p.1).seq hS, by omega, fun pt H3 hp0 s3 hpt => ⟨pt, 0, rfl, hpt, by decide, fun H4 on4 => ?_⟩⟩
      have s4 : Same H2 H4 := fun b o e => on4 b o (s3 b o e) (ne_of_none e hp0)
      exact pvStep hD (Same.trans p.1 s4) (s4 _ _ p.2) (by rw [List.length_replicate]; exact small1000 (by omega)) List.replicate_succ'
    · refine ⟨D, _, rfl, SqL.of (by rw [p.2, List.map_replicate]), ?_⟩
      rw [bl_all_replicate]
      exact kk H1
end
end Spr
namespace Spr
open PySem L2
/-- what stays apart from a Spread in use -/
structure N17 (C CE : Addr) (A : SA) (a hL sm : Addr) (H0 : Hp) : Prop where
  ap : Apart C CE A
  na : ¬ Fp A a
  nh : ¬ Fp A hL
  ns : ¬ Fp A sm
  ha : hL ≠ a
  sa : sm ≠ a
  nf : ∀ b o, H0 b = some o → ¬ Fp A b
structure W17 (C CE : Addr) (A : SA) (a hL sm tl : Addr) (H0 : Hp) (hs liars : List Int) (s0 s1 : Int) (c b : Nat) (S : MS) (H : Hp) : Prop where
  sp : SpAt C CE A S H
  pot : PotAt H a c
  hL : H hL = some (.lst (hs.map V.int))
  sm : H sm = some (.lst [.int s0, .int s1])
  tl : H tl = some (.tup (liars.map V.int))
  on : Only a H0 H
  bd : S.log.length + Spr.pot S ≤ b
section
variable {C CE : Addr} {A : SA} {a hL sm tl : Addr} {H0 : Hp} {hs liars : List Int} {s0 s1 : Int} {c b : Nat} {S : MS} {H H' : Hp}
theorem W17.same (x : W17 C CE A a hL sm tl H0 hs liars s0 s1 c b S H) (s : Same H H') : W17 C CE A a hL sm tl H0 hs liars s0 s1 c b S H' :=
  ⟨x.sp.same s, x.pot.same s, s _ _ x.hL, s _ _ x.sm, s _ _ x.tl, Only.trans x.on (Same.only s), x.bd⟩
theorem W17.potted (x : W17 C CE A a hL sm tl H0 hs liars s0 s1 c b S H) (N : N17 C CE A a hL sm H0) {c' : Nat} (p : PotAt H' a c') (on : Only a H H') : W17 C CE A a hL sm tl H0 hs liars s0 s1 c' b S H' := by
  obtain ⟨p0, p1, p2, ha, _⟩ := x.pot
  refine ⟨x.sp.other fun y o hy h => on y o hy fun q => ?_, p, on _ _ x.hL N.ha, on _ _ x.sm N.sa, on _ _ x.tl (fun q => by have := x.tl; rw [q, ha] at this; cases this), Only.trans x.on on, x.bd⟩
  subst q
  rcases h with h | h | h | h | ⟨ys, h⟩
  · exact N.na h
  · have := x.sp.tc
    rw [← h, ha] at this
    cases this
  · have := x.sp.tl
    rw [← h, ha] at this
    cases this
  · have := x.sp.le
    rw [← h, ha] at this
    cases e : A.es with
    | nil => rw [e] at this; cases this
    | cons z r => rw [e] at this; cases this
  · rw [h, ha] at hy
    cases hy
theorem W17.kept (x : W17 C CE A a hL sm tl H0 hs liars s0 s1 c b S H) (N : N17 C CE A a hL sm H0) {S' : MS} {b' : Nat} (sp : SpAt C CE A S' H') (kp : KeepF A H H') (bd : S'.log.length + Spr.pot S' ≤ b') : W17 C CE A a hL sm tl H0 hs liars s0 s1 c b' S' H' := by
  obtain ⟨p0, p1, p2, ha, hp⟩ := x.pot
  exact ⟨sp, ⟨p0, p1, p2, kp _ _ ha N.na, hp⟩, kp _ _ x.hL N.nh, kp _ _ x.sm N.ns, kp _ _ x.tl (x.sp.tupF x.tl), fun y o e ne => kp _ _ (x.on y o e ne) (N.nf y o e), bd⟩
theorem W17.slips (x : W17 C CE A a hL sm tl H0 hs liars s0 s1 c b S H) : S.slips.length ≤ b := Nat.le_trans (Nat.le_trans (Nat.le_add_right _ _) (Nat.le_add_left _ _)) x.bd
theorem W17.log (x : W17 C CE A a hL sm tl H0 hs liars s0 s1 c b S H) : S.log.length ≤ b := Nat.le_trans (Nat.le_add_right _ _) x.bd
end
/-! comparing with () -/
theorem lay_ints : ∀ ls : List Int, PyData.canLayAll0 (ls.map PyData.int) = true ∧ PyData.depthAll (ls.map PyData.int) = 0
  | [] => ⟨by simp [PyData.canLayAll0], by simp [PyData.depthAll]⟩
  | x :: r => ⟨by simp [PyData.canLayAll0, PyData.canLay0, (lay_ints r).1], by simp [PyData.depthAll, PyData.depth, (lay_ints r).2]⟩
theorem shaped_tup {ds : List PyData} (h1 : PyData.canLayAll0 ds = true) (h2 : PyData.depthAll ds ≤ 60) : SeqAt.shaped (.tuple ds) = true := by
  show (PyData.canLay0 (.tuple ds) && decide (PyData.depth (.tuple ds) ≤ 64)) = true
  rw [Bool.and_eq_true]
  refine ⟨by simp only [PyData.canLay0]; exact h1, decide_eq_true ?_⟩
  simp only [PyData.depth]
  omega
def slD (x : Int × Sl) : PyData := .tuple [.int x.1, .int x.2.frm, .int x.2.to, .str (ks x.2.kd), .int x.2.val]
theorem slD_lay (x : Int × Sl) : (slD x).canLay0 = true ∧ (slD x).depth ≤ 1 := by
  obtain ⟨k, f, t, kd, v⟩ := x
  refine ⟨?_, ?_⟩
  · have h : PyData.canLay0 (.str (ks kd)) = true := by cases kd <;> decide +kernel
    simp only [slD, PyData.canLay0, PyData.canLayAll0, Bool.and_true, Bool.true_and]
    simpa only [PyData.canLay0] using h
  · simp [slD, PyData.depth, PyData.depthAll]
theorem slDs_lay : ∀ xs : List (Int × Sl), PyData.canLayAll0 (xs.map slD) = true ∧ PyData.depthAll (xs.map slD) ≤ 1
  | [] => ⟨by simp [PyData.canLayAll0], by simp [PyData.depthAll]⟩
  | x :: r => ⟨by simp [PyData.canLayAll0, (slD_lay x).1, (slDs_lay r).1], by
    have h1 := (slD_lay x).2
    have h2 := (slDs_lay r).2
    simp only [List.map_cons, PyData.depthAll]
    omega⟩
theorem dp_ints {K : PySem.W.Frag} {H : Hp} : ∀ ls : List Int, DpAll K H (ls.map V.int) (ls.map PyData.int)
  | [] => .nil
  | x :: r => .cons (.int x) (dp_ints r)
theorem dp_sls {K : PySem.W.Frag} {H : Hp} : ∀ {us : List Addr} {xs : List (Int × Sl)}, TupsAt H us (xs.map unV) → DpAll K H (us.map V.ref) (xs.map slD)
  | [], [], _ => .nil
  | u :: us, x :: xs, q => .cons (.tup (SqT.of q.1) (.cons (.int _) (.cons (.int _) (.cons (.int _) (.cons (.str _) (.cons (.int _) .nil)))))) (dp_sls q.2)
  | [], _ :: _, q => q.elim
  | _ :: _, [], q => q.elim
theorem eqv_nil : ∀ ds : List PyData, PyData.eqv (.tuple ds) (.tuple []) = ds.isEmpty
  | [] => by simp [PyData.eqv, PyData.eqvAll]
  | _ :: _ => by simp [PyData.eqv, PyData.eqvAll]
/-- x != () -/
theorem ne_nil {K : PySem.W.Frag} {H : Hp} {Q : VK} {p q : Addr} {xs : List V} {ds : List PyData} (hp : SqT K H p xs) (hq : H q = some (.tup [])) (d : DpAll K H xs ds) (s : SeqAt.shaped (.tuple ds) = true) (k : Q (.bl (!ds.isEmpty)) H) : rNeD K (.ref p) (.ref q) H Q :=
  ⟨.tuple ds, .tuple [], .tup hp d, .tup (SqT.of hq) .nil, s, by decide +kernel, by rw [eqv_nil]; exact k⟩
theorem rg_ints (n : Nat) : rgV 0 (n : Int) = ((List.range n).map fun i : Nat => (i : Int)).map V.int := by
  unfold rgV
  rw [List.map_map]
  have : ((n : Int) - 0).toNat = n := by omega
  rw [this]
  refine List.map_congr_left fun i _ => ?_
  show V.int (0 + (i : Int)) = V.int (i : Int)
  rw [Int.zero_add]
end Spr
namespace Spr
open PySem L2
/-- all that the law's right def calls -/
structure Env17 (P : Program) (w : World) (K : PySem.W.Frag) (mg : Str → Option Value) (base : Heap) (C CE : Addr) (fT fU fL fO fI gU gT fR fLi fD pU pT fS fUs fSn : Addr) (dT dU dL dO dI eU eT dR dLi dD dS dUs dSn : FuncData) : Prop where
  T : Bn mg
  hAny : mg "any" = none
  TS : TxS K C
  cT : Ca P w K mg base 1 "_law_take" ["pot", "upto"] spTake fT dT
  cU : Ca P w K mg base 4 "usual" ["n", "t"] spUsual fU dU
  cL : Ca P w K mg base 4 "_law_is_like" ["one", "other"] (spLike 3) fL dL
  cO : Ca P w K mg base 2 "_law_of" ["pot", "some"] (spOf K) fO dO
  cS : Ca P w K mg base 2 "_law_some" ["pot", "pool", "many"] spSome fS dS
  cUs : Ca P w K mg base 1 "_law_usual" ["n", "t"] spLus fUs dUs
  cSn : Ca P w K mg base 5 "_law_is_sound" ["spread", "honest", "first", "value"] (spSnd C CE) fSn dSn
  MkS : Mk K C fI
  mS : mg "Spread" = some (.ref C)
  GS : FnOk P w K mg base CX0 6 fI dI ["self", "n", "counts", "liars", "first", "value"] (spInit C CE)
  bS : Binds K dI ["self", "n", "counts", "liars", "first", "value"] []
  pU : Pr P w K mg base 1 C "under_way" (spUnd C CE) pU gU eU
  pT : Pr P w K mg base 1 C "takings" (spSel C CE (·.took)) pT gT eT
  cR : Me P w K mg base 6 C "rest" ["self"] (spRest C CE) fR dR
  cLi : Me P w K mg base 5 C "lie" nLie (spLie C CE) fLi dLi
  cD : Me P w K mg base 5 C "deliver" ["self", "number"] (spDel C CE) fD dD
section
variable {P : Program} {w : World} {K : PySem.W.Frag} {mg : Str → Option Value} {base : Heap}
abbrev nRt : List Str := ["pot", "n", "t", "liars", "honest", "first", "counts", "value", "spread", "some", "lap", "kind", "took", "liar", "hand"]
theorem scRt : FnScope nRt ["pot"] (defScope s_law_right) := ⟨rfl, rfl, rfl, by decide +kernel, rfl, by decide +kernel, by decide +kernel⟩
end
end Spr
namespace Spr
open PySem L2
def honL (i : Nat) (ls : List Int) : List Int := ((List.range i).map fun j : Nat => (j : Int)).filter fun x => decide (x ∉ ls)
theorem honL_succ (i : Nat) (ls : List Int) : honL (i + 1) ls = honL i ls ++ (if (i : Int) ∈ ls then [] else [(i : Int)]) := by
  unfold honL
  rw [List.range_succ, List.map_append, List.filter_append]
  congr 1
  show List.filter _ [(i : Int)] = _
  rw [List.filter_cons]
  by_cases z : (i : Int) ∈ ls
  · simp [z]
  · simp [z]
theorem honL_len (i : Nat) (ls : List Int) : (honL i ls).length ≤ i := by
  unfold honL
  refine Nat.le_trans (List.length_filter_le _ _) ?_
  rw [List.length_map, List.length_range]
  exact Nat.le_refl _
theorem mem_honL {i : Nat} {ls : List Int} {x : Int} : x ∈ honL i ls ↔ 0 ≤ x ∧ x < i ∧ x ∉ ls := by
  unfold honL
  rw [List.mem_filter, List.mem_map, decide_eq_true_eq]
  constructor
  · rintro ⟨⟨j, hj, rfl⟩, h⟩
    have := List.mem_range.mp hj
    exact ⟨by omega, by omega, h⟩
  · rintro ⟨h0, h1, h2⟩
    exact ⟨⟨x.toNat, List.mem_range.mpr (by omega), by omega⟩, h2⟩
theorem asc_of {l : List Int} (nd : l.Nodup) (h : l.Pairwise (· ≤ ·)) : l.Pairwise (· < ·) :=
  (List.Pairwise.and nd h).imp fun {x y} q => by
    have := q.1
    have := q.2
    omega
theorem some_ok {n m : Nat} {zs rs ls : List Int} (hp : (zs ++ rs).Perm ((List.range n).map fun i : Nat => (i : Int))) (hq : ls.Perm zs) (hz : zs.length = m) : ls.Nodup ∧ (∀ l ∈ ls, 0 ≤ l ∧ l < (n : Int)) ∧ ls.length = m := by
  have nd : (zs ++ rs).Nodup := hp.nodup_iff.mpr (nd_mapC List.nodup_range)
  refine ⟨hq.nodup_iff.mpr (List.nodup_append.mp nd).1, fun l hl => ?_, hq.length_eq.trans hz⟩
  obtain ⟨i, hi, rfl⟩ := List.mem_map.mp (hp.mem_iff.mp (List.mem_append_left _ (hq.mem_iff.mp hl)))
  have := List.mem_range.mp hi
  omega
/-- a tuple of flat values, told twice -/
theorem like_flat {H : Hp} {l l2 : Addr} {xs : List L2.V} (h1 : H l = some (.tup xs)) (h2 : H l2 = some (.tup xs)) (hf : xs.all flatL = true) (hl : xs.length ≤ 900) : Like 1 H (.ref l) (.ref l2) :=
  .inr ⟨l, l2, xs, xs, rfl, rfl, h1, h2, rfl, hl, fun i x y hx hy => by
    rw [hx] at hy
    have := Option.some.inj hy
    subst this
    exact ⟨rfl, List.all_eq_true.mp hf x (List.mem_of_getElem? hx)⟩⟩
theorem PotAt.up {H : Hp} {a : Addr} {c c' : Nat} (p : PotAt H a c) (h : c ≤ c') : PotAt H a c' := by
  obtain ⟨p0, p1, p2, ha, h0, h1, h2, h3⟩ := p
  exact ⟨p0, p1, p2, ha, h0, h1, h2, Nat.le_trans h3 h⟩
theorem PotAt.nt {H : Hp} {a b : Addr} {c : Nat} {xs : List V} (p : PotAt H a c) (h : H b = some (.tup xs)) : b ≠ a := by
  obtain ⟨p0, p1, p2, ha, _⟩ := p
  intro q
  rw [q, ha] at h
  cases h
theorem sp_pot {C CE : Addr} {A : SA} {S : MS} {H H' : Hp} {a : Addr} {c : Nat} (x : SpAt C CE A S H) (p : PotAt H a c) (na : ¬ Fp A a) (on : Only a H H') : SpAt C CE A S H' := by
  obtain ⟨p0, p1, p2, ha, _⟩ := p
  refine x.other fun y o hy h => on y o hy fun q => ?_
  subst q
  rcases h with h | h | h | h | ⟨ys, h⟩
  · exact na h
  · have := x.tc
    rw [← h, ha] at this
    cases this
  · have := x.tl
    rw [← h, ha] at this
    cases this
  · have := x.le
    rw [← h, ha] at this
    cases e : A.es with
    | nil => rw [e] at this; cases this
    | cons z r => rw [e] at this; cases this
  · rw [h, ha] at hy
    cases hy
theorem W17.up {C CE : Addr} {A : SA} {a hL sm tl : Addr} {H0 : Hp} {hs liars : List Int} {s0 s1 : Int} {c b c' b' : Nat} {S : MS} {H : Hp} (x : W17 C CE A a hL sm tl H0 hs liars s0 s1 c b S H) (hc : c ≤ c') (hb : b ≤ b') : W17 C CE A a hL sm tl H0 hs liars s0 s1 c' b' S H :=
  ⟨x.sp, x.pot.up hc, x.hL, x.sm, x.tl, x.on, Nat.le_trans x.bd hb⟩
theorem ifC {b : Bool} {σ : St} {H : Hp} {Q : VK} (h : ∀ N : Nat, N ≤ 40 → tC (.int (N : Int)) σ H Q) : if b = true then tC (.int 40) σ H Q else tC (.int 6) σ H Q := by
  cases b
  · exact iteF (h 6 (by decide))
  · exact iteT (h 40 (by decide))
theorem Sd.hn {c : Cst} {S : MS} (x : Sd c S) {h : Int} (hh : h ∈ honL c.n c.L) : ∃ i : Nat, h = (i : Int) ∧ Hn c i ∧ S.ears[i]? = some (earOf S h) := by
  obtain ⟨h0, h1, h2⟩ := mem_honL.mp hh
  obtain ⟨i, rfl, he⟩ := ears_of x.wf h0 (by rw [x.n]; exact h1)
  exact ⟨i, rfl, ⟨by omega, h2⟩, he⟩
theorem Sd.sound {c : Cst} (F : Fx c) {S : MS} (x : Sd c S) : (∀ h ∈ honL c.n c.L, ∀ g ∈ honL c.n c.L, ∀ v u, tk S h = some v → tk S g = some u → v = u) ∧ (c.first ∈ honL c.n c.L → ∀ h ∈ honL c.n c.L, ∀ v, tk S h = some v → c.value = some v) := by
  refine ⟨fun h hh g hg v u hv hu => ?_, fun hf h hh v hv => ?_⟩
  · obtain ⟨i, rfl, hi, he⟩ := x.hn hh
    obtain ⟨j, rfl, hj, he'⟩ := x.hn hg
    exact x.I.agree F hi hj he he' hv hu
  · obtain ⟨i, rfl, hi, he⟩ := x.hn hh
    exact x.I.fst F (mem_honL.mp hf).2.2 hi he hv
theorem Sd.rested {c : Cst} (F : Fx c) {S : MS} (x : Sd c S) (h0 : S.slips = []) : (c.first ∈ honL c.n c.L → ∀ h ∈ honL c.n c.L, (tk S h).isSome = true) ∧ ((∃ h ∈ honL c.n c.L, (tk S h).isSome = true) → ∀ h ∈ honL c.n c.L, (tk S h).isSome = true) := by
  have hu : ∀ s, ¬ US S s := fun s ⟨k, hk⟩ => by
    rw [h0] at hk
    cases hk
  have fin : ∀ o : Option Int, o ≠ none → o.isSome = true := fun o h => by
    cases o with
    | none => exact absurd rfl h
    | some v => rfl
  refine ⟨fun hf h hh => ?_, fun ⟨g, hg, hv⟩ h hh => ?_⟩
  · obtain ⟨i, rfl, hi, he⟩ := x.hn hh
    exact fin _ (x.I.restFst F hu (mem_honL.mp hf).2.2 hi he)
  · obtain ⟨i, rfl, hi, he⟩ := x.hn hh
    obtain ⟨j, rfl, hj, he'⟩ := x.hn hg
    obtain ⟨v, hv⟩ := Option.isSome_iff_exists.mp hv
    exact fin _ (x.I.restAll F hu hj hi he' he hv)
theorem not_ov {o : Option Int} : (!decide (ov o = V.non)) = o.isSome := by
  rw [ov_non]
  cases o <;> rfl
theorem dlv_bd {S : MS} (w : WfS S) {k : Int} {s : Sl} (h : (k, s) ∈ S.slips) : (dlv S k s).log.length + pot (dlv S k s) ≤ S.log.length + pot S := by
  have h1 := dlv_pot w h
  rw [dlv_log, List.length_append]
  show S.log.length + 1 + _ ≤ _
  omega
theorem iteSame {b : Bool} {X Y : Prop} (h1 : b = true → Y → X) (y : Y) : if b = true then X else Y := by
  cases b
  · exact iteF y
  · exact iteT (h1 rfl y)
end Spr
namespace Spr
open PySem L2
section
variable {P : Program} {w : World} {K : PySem.W.Frag} {mg : Str → Option Value} {base : Heap}
theorem ok_rt {f C CE fT fU fL fO fI gU gT fR fLi fD pU pT fS fUs fSn : Addr} {fd dT dU dL dO dI eU eT dR dLi dD dS dUs dSn : FuncData} (F : Fun K "_law_right" "_law_right" s_law_right f fd) (Vn : Env17 P w K mg base C CE fT fU fL fO fI gU gT fR fLi fD pU pT fS fUs fSn dT dU dL dO dI eU eT dR dLi dD dS dUs dSn) : FnOk P w K mg base CX0 9 f fd ["pot"] spRi := by
  refine F.ok scRt (fun vs H Q E h => ?_) (fun cdv A0 outer s H vs Q E hr h => ?_)
  · obtain ⟨a, c, rfl, _⟩ := h
    rfl
  · obtain ⟨a, c, rfl, hp, hc, kk⟩ := h
    have T := Vn.T
    have hr1 := hr.mono (show 1 ≤ 8 by decide)
    have hr2 := hr.mono (show 2 ≤ 8 by decide)
    have hr4 := hr.mono (show 4 ≤ 8 by decide)
    have hr5 := hr.mono (show 5 ≤ 8 by decide)
    have hr6 := hr.mono (show 6 ≤ 8 by decide)
    have hr7 := hr.mono (show 7 ≤ 8 by decide)
    have hu := hr.units
    refine ⟨_, pss_cons (ps_set (i := 1) scRt.nd rfl (Or.inl rfl) (pe_ca Vn.cO hr2 (pa_cons (pv 0) (pa_cons (pe_lst (pa_cons pe_int (pa_cons pe_int (pa_cons pe_int (pa_cons pe_int (pa_cons pe_int pa_nil)))))) pa_nil))))
      (pss_cons (ps_set (i := 2) scRt.nd rfl (Or.inl rfl) (pe_op op_fdiv (pe_op op_sub (pv 1) pe_int) pe_int))
      (pss_cons (ps_set (i := 3) scRt.nd rfl (Or.inr rfl) (pe_callTy call_tuple_of (by rfl) T.tuple (by decide +kernel) (pa_cons (pe_callB cr_sortedI (by rfl) T.sorted (by decide +kernel) (pa_cons (pe_ca Vn.cS hr2 (pa_cons (pv 0) (pa_cons (pe_listRg rfl (by rfl) T.list (prg_1 (by rfl) T.range (pv 1))) (pa_cons (pe_ca Vn.cO hr2 (pa_cons (pv 0) (pa_cons (pe_lst (pa_cons (pv 2) (pa_cons (pv 2) (pa_cons pe_int pa_nil)))) pa_nil))) pa_nil)))) pa_nil)) pa_nil)))
      (pss_cons (ps_par3 (i := 4) (j := 5) (l := 6) (by rfl) scRt.nd rfl rfl rfl (by decide) (by decide) (by decide) rfl rfl rfl (pa_cons (pe_lc (own := [("hand", 14)]) (g := gName 14) (tt := tB (tOp (rIn K true) (tVar 14) (tVar 3))) rfl scRt.nd (pi_range1 rfl T.range (pa_cons (pv 1) pa_nil)) (blkOk_by (N := nRt) (sc := defScope s_law_right) (by decide +kernel))
          (fun _ _ _ _ _ => pg_name (i := 14) scRt.nd rfl (Or.inl rfl)) (fun _ _ _ _ _ => pts_one (pt_cmpR op_notIn_seq (pv 14) (pv 3) (by rfl))) (fun _ _ _ _ _ => pv 14)) (pa_cons (pe_ca Vn.cT hr1 (pa_cons (pv 0) (pa_cons (pv 1) pa_nil))) (pa_cons (pe_ca Vn.cUs hr1 (pa_cons (pv 1) (pa_cons (pv 2) pa_nil))) pa_nil))) (by rfl))
      (pss_cons (ps_if (pt_not (pt_val (pe_ca Vn.cL hr4 (pa_cons (pe_ca Vn.cU hr4 (pa_cons (pv 1) (pa_cons (pv 2) pa_nil))) (pa_cons (pv 6) pa_nil))))) (pss_one (ps_ret pe_bl)) pss_nil)
      (C8.pss_cut (ps_set (i := 7) scRt.nd rfl (Or.inl rfl) (pe_ifExp (pt_cmpR op_in_seq (pv 5) (pv 3) (by rfl)) pe_non (pe_ca Vn.cT hr1 (pa_cons (pv 0) (pa_cons pe_int pa_nil)))))
      (pss_cons (ps_asg (pe_tup (pa_cons (pe_make Vn.MkS Vn.GS hr7 rfl Vn.mS Vn.bS .nil pass0 (pa_cons (pv 1) (pa_cons (pv 6) (pa_cons (pv 3) (pa_cons (pv 5) (pa_cons (pv 7) pa_nil)))))) (pa_cons (pe_lst (pa_cons (pe_ca Vn.cT hr1 (pa_cons (pv 0) (pa_cons pe_int pa_nil))) (pa_cons (pe_ca Vn.cT hr1 (pa_cons (pv 0) (pa_cons pe_int pa_nil))) pa_nil))) pa_nil))) (pg_tup rfl (pgs_cons (pg_name (i := 8) scRt.nd rfl (Or.inr rfl)) (pgs_cons (pg_name (i := 9) scRt.nd rfl (Or.inl rfl)) pgs_nil))))
      (pss_cons (ps_for PassesOwn.never rfl (pi_range1 rfl T.range (pa_cons (pe_ifExp (pt_cmpR (op_neD hu) (pv 3) (pe_tup pa_nil) (nomark _)) pe_int pe_int) pa_nil)) (pg_name (i := 10) scRt.nd rfl (Or.inl rfl))
          (C8.pss_cut (ps_if (PW.pt (pw_and (pt_cmpR (op_neD hu) (pv 3) (pe_tup pa_nil) (nomark _)) (pw_and1 (pt_cmpR op_eq (pe_ca Vn.cT hr1 (pa_cons (pv 0) (pa_cons pe_int pa_nil))) pe_int (nomark _)))))
              (pss_cons (ps_set (i := 11) scRt.nd rfl (Or.inl rfl) (pe_ca Vn.cO hr2 (pa_cons (pv 0) (pa_cons (pe_lst (pa_cons pe_str (pa_cons pe_str (pa_cons pe_str pa_nil)))) pa_nil))))
              (pss_one (ps_expr (pe_me (pv 8) Vn.TS.cl Vn.cLi hr5 (pa_cons (pe_ca Vn.cO hr2 (pa_cons (pv 0) (pa_cons (pv 3) pa_nil))) (pa_cons (pe_ca Vn.cO hr2 (pa_cons (pv 0) (pa_cons (pv 4) pa_nil))) (pa_cons (pv 11) (pa_cons (pe_ca Vn.cO hr2 (pa_cons (pv 0) (pa_cons (pv 9) pa_nil))) pa_nil))))))))
              (pss_one (ps_if (pt_cmpR (op_neD hu) (pe_pr (pv 8) Vn.TS.cl Vn.pU hr2) (pe_tup pa_nil) (nomark _))
                (pss_one (ps_expr (pe_me (pv 8) Vn.TS.cl Vn.cD hr5 (pa_cons (pe_ix ix_tup (pe_ca Vn.cO hr2 (pa_cons (pv 0) (pa_cons (pe_pr (pv 8) Vn.TS.cl Vn.pU hr2) pa_nil))) pe_int (fun _ _ => rfl)) pa_nil)))) pss_nil)))
          (pss_one (ps_if (pt_not (pt_val (pe_ca Vn.cSn hr5 (pa_cons (pv 8) (pa_cons (pv 4) (pa_cons (pv 5) (pa_cons (pv 7) pa_nil))))))) (pss_one (ps_ret pe_bl)) pss_nil))))
      (pss_cons (ps_for PassesOwn.never rfl (pi_range1 rfl T.range (pa_cons pe_int pa_nil)) (pg_name (i := 10) scRt.nd rfl (Or.inl rfl))
          (pss_cons (ps_expr (pe_me0 (pv 8) Vn.TS.cl Vn.cR hr6))
          (pss_cons (ps_setLc (i := 12) (own := [("hand", 14)]) (g := gName 14) (tt := tYes) (te := tNotN (tOp (rIxT K) (tProp C (spSel C CE (·.took)) [] E0 (tVar 8)) (tVar 14))) rfl scRt.nd rfl rfl (sw_true rfl rfl rfl (by decide +kernel)) (pi_list (pv 4)) (blkOk_by (N := nRt) (sc := defScope s_law_right) (by decide +kernel))
            (fun _ _ _ _ _ => pg_name (i := 14) scRt.nd rfl (Or.inl rfl)) (fun _ _ _ _ _ => pts_nil) (fun _ _ _ _ _ => pe_cmp (pc_notN (pe_ix ix_tup (pe_pr (pv 8) Vn.TS.cl Vn.pT hr2) (pv 14) (fun _ _ => rfl)))))
          (pss_cons (ps_if (PW.pt (pw_or (pt_not (pt_val (pe_ca Vn.cSn hr5 (pa_cons (pv 8) (pa_cons (pv 4) (pa_cons (pv 5) (pa_cons (pv 7) pa_nil))))))) (pw_or1 (PW.pt (pw_and (pt_val (pe_callB (cr_any rfl) (by rfl) Vn.hAny (by decide +kernel) (pa_cons (pv 12) pa_nil))) (pw_and1 (pt_not (pt_val (pe_callB (cr_all rfl) (by rfl) T.all (by decide +kernel) (pa_cons (pv 12) pa_nil)))))))))) (pss_one (ps_ret pe_bl)) pss_nil)
          (pss_cons (ps_if (PW.pt (pw_and (pt_cmpR op_in_seq (pv 5) (pv 4) (by rfl)) (pw_and1 (pt_not (pt_val (pe_callB (cr_all rfl) (by rfl) T.all (by decide +kernel) (pa_cons (pv 12) pa_nil))))))) (pss_one (ps_ret pe_bl)) pss_nil)
          (pss_one (ps_for PassesOwn.never rfl (pi_tup (pv 3)) (pg_name (i := 13) scRt.nd rfl (Or.inl rfl))
            (pss_one (ps_for PassesOwn.never rfl (pi_tup (pe_tup (pa_cons pe_str (pa_cons pe_str pa_nil)))) (pg_name (i := 11) scRt.nd rfl (Or.inl rfl))
              (pss_one (ps_expr (pe_me (pv 8) Vn.TS.cl Vn.cLi hr5 (pa_cons (pv 13) (pa_cons (pe_ca Vn.cO hr2 (pa_cons (pv 0) (pa_cons (pv 4) pa_nil))) (pa_cons (pv 11) (pa_cons (pe_ca Vn.cO hr2 (pa_cons (pv 0) (pa_cons (pv 9) pa_nil))) pa_nil))))))))))))))))
      (pss_one (ps_ret pe_bl)))))))))), ?_⟩
    -- n
    refine ⟨_, rfl, (by show 5 ≤ sizeLine; decide), fun t0 ht0 => ⟨a, t0, _, c, rfl, hp.same (same_new ht0), .inl ⟨SqL.of upd_same, upd_same, hp.ne ht0⟩, (by show 0 < 5; decide), (by show 5 ≤ 1000; decide), by omega, fun i x H1 hx hp1 on1 => ?_⟩⟩
    have on1 : Only a H H1 := Only.trans (Same.only (same_new ht0)) on1
    obtain ⟨n, rfl, n4, n7⟩ : ∃ n : Nat, x = .int (n : Int) ∧ 4 ≤ n ∧ n ≤ 7 := by
      match i, hx with
      | 0, hx => cases hx; exact ⟨4, rfl, by decide, by decide⟩
      | 1, hx => cases hx; exact ⟨4, rfl, by decide, by decide⟩
      | 2, hx => cases hx; exact ⟨5, rfl, by decide, by decide⟩
      | 3, hx => cases hx; exact ⟨6, rfl, by decide, by decide⟩
      | 4, hx => cases hx; exact ⟨7, rfl, by decide, by decide⟩
      | i + 5, hx => simp at hx
    clear hx
    -- t
    obtain ⟨t, ht⟩ : ∃ t : Nat, ((n : Int) - 1) / 3 = (t : Int) := ⟨(((n : Int) - 1) / 3).toNat, by omega⟩
    have t3 : 3 * t < n := by omega
    have t2 : t ≤ 2 := by omega
    refine ⟨_, rfl, _, _, rfl, rfl, _, _, rfl, rfl, ⟨by decide, by decide⟩, ?_⟩
    show gName 2 (.int (((n : Int) - 1) / 3)) _ _ _
    rw [ht]
    -- liars
    refine ⟨_, rfl, _, rfl, (n : Int), rfl, ⟨by decide, by decide, by omega, by omega, ?_⟩, fun l1 hl1 => ?_⟩
    · have : ((n : Int) - 0).toNat = n := by omega
      rw [this]
      exact Nat.le_trans n7 (by decide)
    have l1a := hp1.ne hl1
    refine ⟨_, rfl, _, rfl, _, rfl, (by show 3 ≤ sizeLine; decide), fun t1 ht1 => ?_⟩
    have s1 := same_new (o := .lst (rgV 0 (n : Int))) hl1
    have s2 := same_new (o := .lst [.int (t : Int), .int (t : Int), .int 0]) ht1
    refine ⟨a, t1, _, c + 1, rfl, (hp1.same s1).same s2, .inl ⟨SqL.of upd_same, upd_same, (hp1.same s1).ne ht1⟩, (by show 0 < 3; decide), (by show 3 ≤ 1000; decide), by omega, fun i2 x2 H2 hx2 hp2 on2 => ?_⟩
    have hl1v := on2 _ _ (s2 _ _ upd_same) l1a
    rw [rg_ints] at hl1v
    have on2 : Only a H H2 := Only.trans (Only.trans on1 (Same.only (Same.trans s1 s2))) on2
    obtain ⟨m, rfl, hm⟩ : ∃ m : Nat, x2 = .int (m : Int) ∧ m ≤ t := by
      match i2, hx2 with
      | 0, hx2 => cases hx2; exact ⟨t, rfl, Nat.le_refl _⟩
      | 1, hx2 => cases hx2; exact ⟨t, rfl, Nat.le_refl _⟩
      | 2, hx2 => cases hx2; exact ⟨0, rfl, Nat.zero_le _⟩
      | i + 3, hx2 => simp at hx2
    clear hx2
    refine ⟨a, l1, _, m, c + 2, rfl, hp2, hl1v, by rw [List.length_map, List.length_range]; omega, by rw [List.length_map, List.length_range]; omega, by omega, fun zs rs l2 H3 hz hpm hp3 on3 hl2 eq2 => ?_⟩
    refine ⟨l2, zs, rfl, SqL.of eq2, fun ls p hperm hpw hpn => ⟨p, _, rfl, .inl ⟨SqL.of upd_same, fun tl htl => ?_⟩⟩⟩
    obtain ⟨lnd, lin, llen⟩ := some_ok hpm hperm hz
    have s3 := same_new (o := .lst (ls.map V.int)) hpn
    have s4 := same_new (o := .tup (ls.map V.int)) htl
    have hp4 := (hp3.same s3).same s4
    have on4 : Only a H _ := Only.trans (Only.trans on2 on3) (Same.only (Same.trans s3 s4))
    have htl4 : upd (upd H3 p (.lst (ls.map V.int))) tl (.tup (ls.map V.int)) tl = some (.tup (ls.map V.int)) := upd_same
    generalize upd (upd H3 p (.lst (ls.map V.int))) tl (.tup (ls.map V.int)) = H4 at hp4 on4 htl4
    have lasc := hpw
    clear s1 s2 s3 s4 hl1v hpm hperm hpw eq2 hl1 ht1 ht0 htl hpn
    -- honest, first, counts
    refine ⟨_, rfl, (n : Int), rfl, by omega, by omega, fun D hD => ?_⟩
    refine lc_range (lo := 0) (n := n) (PvS H4 D fun i => (honL i ls).map V.int) (pv0 hD rfl) (fun i H5 hi q => ?_) (fun H5 q5 => ?_)
    · rw [Int.zero_add]
      refine ⟨rfl, _, rfl, _, rfl, tl, _, rfl, .inr (SqT.of (q.1 _ _ htl4)), rfl, flat_ints _, _, rfl, ?_⟩
      rw [inV_int]
      by_cases z : (i : Int) ∈ ls
      · rw [show inI (i : Int) ls = true from decide_eq_true z]
        refine iteF (pvSkip q.1 q.2 ?_)
        rw [honL_succ, if_pos z, List.append_nil]
      · rw [show inI (i : Int) ls = false from decide_eq_false z]
        refine iteT ⟨_, rfl, pvStep hD q.1 q.2 (by rw [List.length_map]; exact small1000 (Nat.le_trans (honL_len i ls) (by omega))) ?_⟩
        rw [honL_succ, if_neg z, List.map_append]
        rfl
    have hDa : D ≠ a := hp4.ne hD
    refine ⟨_, rfl, _, rfl, a, (n : Int), c + 2 + m, rfl, hp4.same q5.1, by omega, by omega, by omega, fun first H6 f0 f1 hp6 on6 => ?_⟩
    refine ⟨_, rfl, _, rfl, (n : Int), (t : Int), rfl, by omega, by omega, by omega, by omega, fun tc htc => ⟨_, _, _, rfl, ?_⟩⟩
    have hD6 := on6 _ _ q5.2 hDa
    have htl6 := on6 _ _ (q5.1 _ _ htl4) (fun q => by obtain ⟨p0, p1, p2, ha, _⟩ := hp4; rw [← q, htl4] at ha; cases ha)
    have on6 : Only a H H6 := Only.trans (Only.trans on4 (Same.only q5.1)) on6
    dsimp only at hD6
    clear q5
    -- usual
    refine ⟨_, rfl, _, rfl, (n : Int), (t : Int), rfl, by omega, by omega, by omega, by omega, by omega, fun tu htu => ⟨_, rfl, ?_⟩⟩
    have s5 := same_new (o := .tup [.int (((n : Int) + t) / 2 + 1), .int ((t : Int) + 1), .int (2 * (t : Int) + 1)]) htc
    have s6 := same_new (o := .tup [.int (((n : Int) + t) / 2 + 1), .int ((t : Int) + 1), .int (2 * (t : Int) + 1)]) htu
    refine ⟨_, _, rfl, Like.up (Like.up (like_flat upd_same (s6 _ _ upd_same) rfl (by show 3 ≤ 900; decide))), fun H7 s7 => ⟨true, rfl, iteF ?_⟩⟩
    have htc7 := s7 _ _ (s6 _ _ upd_same)
    have s57 := Same.trans s5 (Same.trans s6 s7)
    have hp7 := hp6.same s57
    have htl7 := s57 _ _ htl6
    have hD7 := s57 _ _ hD6
    have on7 : Only a H H7 := Only.trans on6 (Same.only s57)
    clear s5 s6 s7 s57 htc htu htl6 hD6 hp6 on1 on2 on4 hp1 hp2 hp3 hp4
    -- value
    refine ⟨fun σ' H' => ∃ vo : Option Int, σ' = [some (.ref a), some (.int (n : Int)), some (.int (t : Int)), some (.ref tl), some (.ref D), some (.int first), some (.ref tc), some (ov vo), none, none, none, none, none, none, none] ∧
      (first ∈ ls → vo = none) ∧ (first ∉ ls → ∃ v, vo = some v ∧ 0 ≤ v ∧ v ≤ 99) ∧ PotAt H' a (c + 8) ∧ Only a H H' ∧ H' tl = some (.tup (ls.map V.int)) ∧ H' D = some (.lst ((honL n ls).map V.int)) ∧ H' tc = some (.tup [.int (((n : Int) + t) / 2 + 1), .int ((t : Int) + 1), .int (2 * (t : Int) + 1)]), ?_, ?_⟩
    · refine ⟨_, rfl, _, rfl, tl, _, rfl, .inr (SqT.of htl7), rfl, flat_ints _, _, rfl, ?_⟩
      rw [inV_int]
      have up : ∀ {H' : Hp} {k : Nat}, PotAt H' a k → k ≤ c + 8 → PotAt H' a (c + 8) := fun {H' k} ⟨p0, p1, p2, ha, h0, h1, h2, h3⟩ hk => ⟨p0, p1, p2, ha, h0, h1, h2, Nat.le_trans h3 hk⟩
      by_cases z : first ∈ ls
      · rw [show inI first ls = true from decide_eq_true z]
        exact iteT ⟨none, rfl, fun _ => rfl, fun h => absurd z h, up hp7 (by omega), on7, htl7, hD7, htc7⟩
      · rw [show inI first ls = false from decide_eq_false z]
        refine iteF ⟨_, rfl, a, 10, c + 2 + m + 1, rfl, hp7, by decide, by decide, by omega, fun v H8 v0 v1 hp8 on8 => ⟨some v, rfl, fun h => absurd h z, fun _ => ⟨v, rfl, v0, by omega⟩, up hp8 (by omega), Only.trans on7 on8, on8 _ _ htl7 ?_, on8 _ _ hD7 hDa, on8 _ _ htc7 ?_⟩⟩
        · intro q
          obtain ⟨p0, p1, p2, ha, _⟩ := hp7
          rw [← q, htl7] at ha
          cases ha
        · intro q
          obtain ⟨p0, p1, p2, ha, _⟩ := hp7
          rw [← q, htc7] at ha
          cases ha
    rintro σ' H8 ⟨vo, rfl, vo0, vo1, hp8, on8, htl8, hD8, htc8⟩
    clear hp7 on7 htl7 hD7 htc7 H7
    have mp : MkP n (((n : Int) + t) / 2 + 1) ((t : Int) + 1) (2 * (t : Int) + 1) ls first vo := by
      refine ⟨by omega, by omega, fun z hz => ?_, lin, asc_of lnd lasc, by omega, f0, f1, vo0, vo1⟩
      simp only [List.mem_cons, List.not_mem_nil, or_false] at hz
      omega
    have FX : Fx ⟨n, t, ((n : Int) + t) / 2 + 1, (t : Int) + 1, 2 * (t : Int) + 1, ls, first, vo⟩ := by
      refine ⟨t3, ?_, ?_, ?_, lnd, lin, ?_, f0, f1, fun h q => ?_⟩
      · show ((n : Int) + t) / 2 + 1 = (((n + t) / 2 + 1 : Nat) : Int)
        omega
      · show (t : Int) + 1 = ((t + 1 : Nat) : Int)
        omega
      · show 2 * (t : Int) + 1 = ((2 * t + 1 : Nat) : Int)
        omega
      · show ls.length ≤ t
        omega
      · obtain ⟨v, e, _⟩ := vo1 h
        have q : vo = none := q
        rw [q] at e
        cases e
    have SD := Sd.init mp FX
    obtain ⟨p0, p1, p2, ha8, _⟩ := id hp8
    -- Spread
    refine ⟨_, rfl, _, rfl, _, rfl, _, rfl, _, rfl, ?_⟩
    intro x dxx hx hdx hne
    have d1 : tc ≠ dxx := ne_of_none htc8 hdx
    have d2 : tc ≠ x := ne_of_none htc8 hx
    have d3 : tl ≠ dxx := ne_of_none htl8 hdx
    have d4 : tl ≠ x := ne_of_none htl8 hx
    refine ⟨x, dxx, tc, tl, n, _, _, _, ls, first, vo, rfl, upd_same, (upd_ne d2).trans ((upd_ne d1).trans htc8), (upd_ne d4).trans ((upd_ne d3).trans htl8), mp, fun A H9 ex ex2 ex3 sp9 ap kp9 fpn => ⟨rfl, ?_⟩⟩
    subst ex
    have s9 : Same H8 H9 := Same.made hx hdx kp9
    have nf : ∀ b o, H8 b = some o → ¬ Fp A b := fun b o e z => by
      rcases fpn b z with q | q
      · rw [q, hx] at e; cases e
      · rw [upd_ne (ne_of_none e hx), upd_ne (ne_of_none e hdx), e] at q; cases q
    have wf := initS_wf mp
    have bd := initS_pot mp
    generalize initS n (((n : Int) + t) / 2 + 1) ((t : Int) + 1) (2 * (t : Int) + 1) ls first vo = S0 at sp9 wf bd SD
    clear kp9 fpn hx hdx hne d1 d2 d3 d4
    have hp9 := hp8.same s9
    have na := nf _ _ ha8
    have nD := nf _ _ hD8
    refine ⟨_, rfl, a, 10, c + 8, rfl, hp9, by decide, by decide, by omega, fun s0 H10 s00 s01 hp10 on10 => ⟨_, rfl, a, 10, c + 9, rfl, hp10, by decide, by decide, by omega, fun s1 H11 s10 s11 hp11 on11 => ⟨(by show 2 ≤ sizeLine; decide), fun sm hsm => ⟨(by show 2 ≤ sizeLine; decide), fun t9 ht9 => ⟨t9, _, rfl, SqT.of upd_same, rfl, _, _, rfl, _, _, rfl, rfl, ?_⟩⟩⟩⟩⟩
    have on911 := Only.trans on10 on11
    have sp11 := sp_pot sp9 hp9 na on911
    have sa := hp11.ne hsm
    have nsm := sp11.fp hsm
    have q1 := same_new (o := .lst [.int s0, .int s1]) hsm
    have q2 := same_new (o := .tup [.ref A.p, .ref sm]) ht9
    have q12 := Same.trans q1 q2
    have W0 : W17 C CE A a D sm tl H (honL n ls) ls s0 s1 (c + 10) 400 S0 (upd (upd H11 sm (.lst [.int s0, .int s1])) t9 (.tup [.ref A.p, .ref sm])) :=
      ⟨sp11.same q12, hp11.same q12, q12 _ _ (on911 _ _ (s9 _ _ hD8) hDa), q2 _ _ upd_same, q12 _ _ (on911 _ _ (s9 _ _ htl8) (hp8.nt htl8)), Only.trans on8 (Only.trans (Same.only s9) (Only.trans on911 (Same.only q12))), bd⟩
    have NN : N17 C CE A a D sm H := ⟨ap, na, nD, nsm, hDa, sa, fun b o e => ?nf⟩
    case nf =>
      by_cases h : b = a
      · rw [h]
        exact na
      · exact nf _ _ (on8 _ _ e h)
    clear q1 q2 q12 sp11 on911 sp9 s9 hp9 hp10 hp11 on10 on11 nf hp8 on8 htl8 hD8 htc8 ha8 hsm ht9 nD nsm bd wf
    generalize upd (upd H11 sm (.lst [.int s0, .int s1])) t9 (.tup [.ref A.p, .ref sm]) = Hs at W0
    -- the first loop
    have lsh := shaped_tup (ds := ls.map PyData.int) (lay_ints ls).1 (by rw [(lay_ints ls).2]; decide)
    have lemp : (ls.map PyData.int).isEmpty = ls.isEmpty := by cases ls <;> rfl
    have hsn : ∀ {S : MS}, Sd ⟨n, t, ((n : Int) + t) / 2 + 1, (t : Int) + 1, 2 * (t : Int) + 1, ls, first, vo⟩ S → ∀ h ∈ honL n ls, honest S h = true := fun {S} x h hh => by
      obtain ⟨h0, h1, h2⟩ := mem_honL.mp hh
      exact honest_iff.mpr ⟨h0, by rw [x.n]; exact h1, by rw [x.L]; exact h2⟩
    have hlen := honL_len n ls
    have hpos : 0 < (honL n ls).length := by
      have := hl_len ⟨n, t, ((n : Int) + t) / 2 + 1, (t : Int) + 1, 2 * (t : Int) + 1, ls, first, vo⟩
      have e : (hl ⟨n, t, ((n : Int) + t) / 2 + 1, (t : Int) + 1, 2 * (t : Int) + 1, ls, first, vo⟩).length ≤ (honL n ls).length := nd_sub_len _ _ (hl_nd _) fun y hy => by
        obtain ⟨i, rfl, hi⟩ := mem_hl.mp hy
        have := hi.1
        exact mem_honL.mpr ⟨by omega, by dsimp only at this; omega, hi.2⟩
      have : n ≤ (hl ⟨n, t, ((n : Int) + t) / 2 + 1, (t : Int) + 1, 2 * (t : Int) + 1, ls, first, vo⟩).length + ls.length := this
      omega
    refine ⟨_, rfl, Nat.zero_le _, fun p0 hp0 => ne_nil (SqT.of (same_new hp0 _ _ W0.tl)) upd_same (dp_ints ls) lsh ⟨_, rfl, ?_⟩⟩
    have W0 := W0.same (same_new (o := .tup []) hp0)
    generalize upd Hs p0 (.tup []) = Hs2 at W0
    refine ifC fun N hN => ⟨(N : Int), rfl, by omega, by omega, ?_⟩
    refine for_range (lo := 0) (n := N) (fun i σ H' => ∃ (v10 v11 : Option V) (S : MS), σ = [some (.ref a), some (.int (n : Int)), some (.int (t : Int)), some (.ref tl), some (.ref D), some (.int first), some (.ref tc), some (ov vo), some (.ref A.p), some (.ref sm), v10, v11, none, none, none] ∧
      W17 C CE A a D sm tl H (honL n ls) ls s0 s1 (c + 10 + 6 * i) (400 + 2 * i) S H' ∧ Sd ⟨n, t, ((n : Int) + t) / 2 + 1, (t : Int) + 1, 2 * (t : Int) + 1, ls, first, vo⟩ S) ⟨none, none, S0, rfl, W0, SD⟩ ?_ ?_
    · rintro i σ H' hi ⟨v10, v11, S, rfl, W, SD⟩
      refine ⟨fun σ' H2 => ∃ (v11 : Option V) (S : MS), σ' = [some (.ref a), some (.int (n : Int)), some (.int (t : Int)), some (.ref tl), some (.ref D), some (.int first), some (.ref tc), some (ov vo), some (.ref A.p), some (.ref sm), some (.int (0 + (i : Int))), v11, none, none, none] ∧
        W17 C CE A a D sm tl H (honL n ls) ls s0 s1 (c + 10 + 6 * (i + 1)) (400 + 2 * (i + 1)) S H2 ∧ Sd ⟨n, t, ((n : Int) + t) / 2 + 1, (t : Int) + 1, 2 * (t : Int) + 1, ls, first, vo⟩ S, ?_, ?_⟩
      · -- the deed
        refine ⟨_, rfl, Nat.zero_le _, fun p1 hp1 => ne_nil (SqT.of (same_new hp1 _ _ W.tl)) upd_same (dp_ints ls) lsh ⟨_, rfl, ?_⟩⟩
        have W1 := W.same (same_new (o := .tup []) hp1)
        generalize upd H' p1 (.tup []) = H1 at W1
        clear W hp1
        rw [lemp]
        by_cases hls : ls = []
        · rw [hls]
          refine iteF (iteF ?_)
          rw [← hls]
          have W2 := W1
          refine ⟨_, rfl, A.p, A.dx, _, rfl, W2.sp.ob, A, S, rfl, W2.sp, SD.wf, Nat.le_trans W2.slips (by omega), fun l3 us3 H3 _ s3 h3 tu3 => ⟨Nat.zero_le _, fun p4 hp4 => ne_nil (SqT.of (same_new hp4 _ _ h3)) upd_same (dp_sls (tu3.mono fun _ _ e => same_new hp4 _ _ e)) (shaped_tup (slDs_lay _).1 (Nat.le_trans (slDs_lay _).2 (by decide))) ⟨_, rfl, ?_⟩⟩⟩
          have W4 := (W2.same s3).same (same_new (o := .tup []) hp4)
          generalize upd H3 p4 (.tup []) = H4 at W4
          clear h3 tu3 s3 hp4
          by_cases hsl : S.slips = []
          · rw [hsl]
            exact iteF ⟨v11, S, rfl, W4.up (by omega) (by omega), SD⟩
          · have e4 : (S.slips.map slD).isEmpty = false := by
              cases e : S.slips with
              | nil => exact absurd e hsl
              | cons z r => rfl
            rw [e4]
            refine iteT ?_
            refine ⟨_, rfl, A.p, A.dx, _, rfl, W4.sp.ob, rfl, _, rfl, _, rfl, A.p, A.dx, _, rfl, W4.sp.ob, A, S, rfl, W4.sp, SD.wf, Nat.le_trans W4.slips (by omega), fun l5 us5 H5 _ s5 h5 tu5 => ?_⟩
            have W5 := W4.same s5
            have len5 := tu5.len
            rw [List.length_map] at len5
            refine ⟨a, l5, _, _, rfl, W5.pot, .inr h5, by rw [List.length_map, len5]; exact List.length_pos_iff.mpr hsl, by rw [List.length_map, len5]; exact Nat.le_trans W5.slips (by omega), by omega, fun i6 x6 H6 hx6 hp6 on6 => ?_⟩
            rw [List.getElem?_map] at hx6
            cases e6 : us5[i6]? with
            | none => rw [e6] at hx6; cases hx6
            | some u =>
              rw [e6] at hx6
              cases hx6
              obtain ⟨row, hrow, hu5⟩ := TupsAt.at tu5 e6
              rw [List.getElem?_map] at hrow
              cases e7 : S.slips[i6]? with
              | none => rw [e7] at hrow; cases hrow
              | some z =>
                rw [e7] at hrow
                cases hrow
                have hu6 := on6 _ _ hu5 (W5.pot.nt hu5)
                have W6 := W5.potted NN hp6 on6
                refine ⟨u, _, 0, .int z.1, rfl, rfl, SqT.of hu6, at_of (j := 0) rfl rfl, ?_⟩
                have hm : (z.1, z.2) ∈ S.slips := List.mem_of_getElem? e7
                refine ⟨A, S, z.1, z.2, rfl, W6.sp, NN.ap, SD.wf, hm, Nat.le_trans W6.slips (by omega), Nat.le_trans W6.log (by omega), fun H7 sp7 kp7 => ?_⟩
                exact ⟨v11, _, rfl, (W6.kept NN sp7 kp7 (Nat.le_trans (dlv_bd SD.wf hm) W6.bd)).up (by omega) (by omega), SD.dlv FX hm⟩
        · have e1 : ls.isEmpty = false := by
            cases e : ls with
            | nil => exact absurd e hls
            | cons z r => rfl
          rw [e1]
          refine iteT ⟨_, rfl, a, 2, _, rfl, W1.pot, by decide, by decide, by omega, fun r H2 r0 r1 hp2 on2 => ⟨rfl, _, rfl, ?_⟩⟩
          have W2 := W1.potted NN hp2 on2
          clear hp2 on2 W1
          by_cases hr0 : r = 0
          · rw [decide_eq_true (show V.int r = V.int 0 by rw [hr0])]
            refine iteT ?_
            refine ⟨_, rfl, (by show 3 ≤ sizeLine; decide), fun t5 ht5 => ⟨a, t5, _, _, rfl, W2.pot.same (same_new ht5), .inl ⟨SqL.of upd_same, upd_same, W2.pot.ne ht5⟩, (by show 0 < 3; decide), (by show 3 ≤ 1000; decide), by omega, fun i3 x3 H3 hx3 hp3 on3 => ?_⟩⟩
            obtain ⟨kd, rfl⟩ : ∃ kd : Kd, x3 = .str (ks kd) := by
              match i3, hx3 with
              | 0, hx3 => cases hx3; exact ⟨.said, rfl⟩
              | 1, hx3 => cases hx3; exact ⟨.echo, rfl⟩
              | 2, hx3 => cases hx3; exact ⟨.prom, rfl⟩
              | i3 + 3, hx3 => simp at hx3
            have W3 := (W2.same (same_new (o := .lst [.str "said", .str "echo", .str "promise"]) ht5)).potted NN hp3 on3
            clear hx3 hp3 on3 ht5
            refine ⟨_, rfl, A.p, A.dx, _, rfl, W3.sp.ob, rfl, ?_⟩
            refine ⟨_, rfl, _, rfl, a, tl, _, _, rfl, W3.pot, .inr W3.tl, by rw [List.length_map]; exact List.length_pos_iff.mpr hls, by rw [List.length_map]; omega, by omega, fun i4 x4 H4 hx4 hp4 on4 => ?_⟩
            obtain ⟨l, hl, rfl⟩ := map_at hx4
            have W4 := W3.potted NN hp4 on4
            refine ⟨_, rfl, _, rfl, a, D, _, _, rfl, W4.pot, .inl ⟨SqL.of W4.hL, W4.hL, NN.ha⟩, by rw [List.length_map]; exact hpos, by rw [List.length_map]; omega, by omega, fun i5 x5 H5 hx5 hp5 on5 => ?_⟩
            obtain ⟨g, hg, rfl⟩ := map_at hx5
            have W5 := W4.potted NN hp5 on5
            refine ⟨_, rfl, _, rfl, _, rfl, a, sm, _, _, rfl, W5.pot, .inl ⟨SqL.of W5.sm, W5.sm, NN.sa⟩, (by show 0 < 2; decide), (by show 2 ≤ 1000; decide), by omega, fun i6 x6 H6 hx6 hp6 on6 => ?_⟩
            obtain ⟨v, rfl, v0, v1⟩ : ∃ v : Int, x6 = .int v ∧ 0 ≤ v ∧ v ≤ 99 := by
              match i6, hx6 with
              | 0, hx6 => cases hx6; exact ⟨s0, rfl, s00, by omega⟩
              | 1, hx6 => cases hx6; exact ⟨s1, rfl, s10, by omega⟩
              | i6 + 2, hx6 => simp at hx6
            have W6 := W5.potted NN hp6 on6
            have hl' : l ∈ S.liars := by
              rw [SD.L]
              exact List.mem_of_getElem? hl
            have hg' := hsn SD g (List.mem_of_getElem? hg)
            refine ⟨A, S, l, g, kd, v, rfl, W6.sp, NN.ap, SD.wf, hl', hg', v0, v1, Nat.le_trans W6.slips (by omega), Nat.le_trans W6.log (by omega), fun H7 sp7 kp7 => ?_⟩
            exact ⟨_, _, rfl, (W6.kept NN sp7 kp7 (b' := 400 + 2 * i + 2) (by rw [lieS_bnd]; have := W6.bd; omega)).up (by omega) (by omega), SD.lie hl' hg'⟩
          · rw [decide_eq_false (show ¬ V.int r = V.int 0 from fun z => hr0 (by injection z))]
            refine iteF ?_
            refine ⟨_, rfl, A.p, A.dx, _, rfl, W2.sp.ob, A, S, rfl, W2.sp, SD.wf, Nat.le_trans W2.slips (by omega), fun l3 us3 H3 _ s3 h3 tu3 => ⟨Nat.zero_le _, fun p4 hp4 => ne_nil (SqT.of (same_new hp4 _ _ h3)) upd_same (dp_sls (tu3.mono fun _ _ e => same_new hp4 _ _ e)) (shaped_tup (slDs_lay _).1 (Nat.le_trans (slDs_lay _).2 (by decide))) ⟨_, rfl, ?_⟩⟩⟩
            have W4 := (W2.same s3).same (same_new (o := .tup []) hp4)
            generalize upd H3 p4 (.tup []) = H4 at W4
            clear h3 tu3 s3 hp4
            by_cases hsl : S.slips = []
            · rw [hsl]
              exact iteF ⟨v11, S, rfl, W4.up (by omega) (by omega), SD⟩
            · have e4 : (S.slips.map slD).isEmpty = false := by
                cases e : S.slips with
                | nil => exact absurd e hsl
                | cons z r => rfl
              rw [e4]
              refine iteT ?_
              refine ⟨_, rfl, A.p, A.dx, _, rfl, W4.sp.ob, rfl, _, rfl, _, rfl, A.p, A.dx, _, rfl, W4.sp.ob, A, S, rfl, W4.sp, SD.wf, Nat.le_trans W4.slips (by omega), fun l5 us5 H5 _ s5 h5 tu5 => ?_⟩
              have W5 := W4.same s5
              have len5 := tu5.len
              rw [List.length_map] at len5
              refine ⟨a, l5, _, _, rfl, W5.pot, .inr h5, by rw [List.length_map, len5]; exact List.length_pos_iff.mpr hsl, by rw [List.length_map, len5]; exact Nat.le_trans W5.slips (by omega), by omega, fun i6 x6 H6 hx6 hp6 on6 => ?_⟩
              rw [List.getElem?_map] at hx6
              cases e6 : us5[i6]? with
              | none => rw [e6] at hx6; cases hx6
              | some u =>
                rw [e6] at hx6
                cases hx6
                obtain ⟨row, hrow, hu5⟩ := TupsAt.at tu5 e6
                rw [List.getElem?_map] at hrow
                cases e7 : S.slips[i6]? with
                | none => rw [e7] at hrow; cases hrow
                | some z =>
                  rw [e7] at hrow
                  cases hrow
                  have hu6 := on6 _ _ hu5 (W5.pot.nt hu5)
                  have W6 := W5.potted NN hp6 on6
                  refine ⟨u, _, 0, .int z.1, rfl, rfl, SqT.of hu6, at_of (j := 0) rfl rfl, ?_⟩
                  have hm : (z.1, z.2) ∈ S.slips := List.mem_of_getElem? e7
                  refine ⟨A, S, z.1, z.2, rfl, W6.sp, NN.ap, SD.wf, hm, Nat.le_trans W6.slips (by omega), Nat.le_trans W6.log (by omega), fun H7 sp7 kp7 => ?_⟩
                  exact ⟨v11, _, rfl, (W6.kept NN sp7 kp7 (Nat.le_trans (dlv_bd SD.wf hm) W6.bd)).up (by omega) (by omega), SD.dlv FX hm⟩
      · rintro σ' H2 ⟨v11, S, rfl, W, SD⟩
        obtain ⟨g1, g2⟩ := SD.sound FX
        refine ⟨_, rfl, _, rfl, _, rfl, _, rfl, A, S, D, _, first, vo, rfl, W.sp, SD.wf, W.hL, by omega, fun h hh => ?_, g1, g2, fun H3 s3 => ⟨true, rfl, iteF ⟨_, _, S, rfl, W.same s3, SD⟩⟩⟩
        obtain ⟨h0, h1, _⟩ := mem_honL.mp hh
        exact ⟨h0, by rw [SD.n]; exact h1⟩
    rintro σ H' ⟨v10, v11, S, rfl, W, SD⟩
    have W := W.up (show c + 10 + 6 * N ≤ c + 250 by omega) (show 400 + 2 * N ≤ 480 by omega)
    -- the second loop
    refine ⟨(2 : Nat), rfl, by decide, by decide, ?_⟩
    refine for_range (lo := 0) (n := 2) (fun i σ H' => ∃ (v10 v11 v12 v13 : Option V) (S : MS), σ = [some (.ref a), some (.int (n : Int)), some (.int (t : Int)), some (.ref tl), some (.ref D), some (.int first), some (.ref tc), some (ov vo), some (.ref A.p), some (.ref sm), v10, v11, v12, v13, none] ∧
      W17 C CE A a D sm tl H (honL n ls) ls s0 s1 (c + 250 + 20 * i) (480 + 20 * i) S H' ∧ Sd ⟨n, t, ((n : Int) + t) / 2 + 1, (t : Int) + 1, 2 * (t : Int) + 1, ls, first, vo⟩ S) ⟨v10, v11, none, none, S, rfl, W, SD⟩ ?_ ?_
    · clear W SD
      rintro i σ H' hi ⟨v10, v11, v12, v13, S, rfl, W, SD⟩
      refine ⟨_, rfl, A.p, A.dx, _, rfl, W.sp.ob, rfl, ?_⟩
      refine ⟨A, S, rfl, W.sp, NN.ap, SD.wf, Nat.le_trans W.bd (by omega), fun m H1 g1 g2 wf1 bd1 sp1 kp1 => ?_⟩
      have W := W.kept NN sp1 kp1 (Nat.le_trans bd1 W.bd)
      have SD := SD.rest FX m
      generalize restN m S = S1 at g1 W SD
      clear g2 wf1 bd1 sp1 kp1
      obtain ⟨q1, q2⟩ := SD.rested FX g1
      obtain ⟨o1, o2⟩ := SD.sound FX
      have hin : ∀ h ∈ honL n ls, 0 ≤ h ∧ h < S1.n := fun h hh => by
        obtain ⟨h0, h1, _⟩ := mem_honL.mp hh
        exact ⟨h0, by rw [SD.n]; exact h1⟩
      -- took
      refine ⟨_, rfl, D, rfl, ⟨_, SqL.of W.hL⟩, fun D2 hD2 => ?_⟩
      refine lc_it walk_list (PvS H1 D2 fun i => ((honL n ls).take i).map fun h => V.bl (tk S1 h).isSome) (pv0 hD2 rfl) (fun i H' _ p => SqL.of (p.1 _ _ W.hL)) (fun i u H2 H3 hi q y => ?_) (fun H2 q => ?_)
      · obtain ⟨rfl, hx⟩ := y
        obtain ⟨h, hh1, rfl⟩ := map_at hx
        have hh := List.mem_of_getElem? hh1
        obtain ⟨j, rfl, hj⟩ := ears_of SD.wf (hin h hh).1 (hin h hh).2
        have x1 := W.sp.same q.1
        refine ⟨rfl, _, rfl, A.p, A.dx, _, rfl, x1.ob, A, S1, rfl, x1, SD.wf, fun l3 H4 _ s3 h3 => ⟨_, rfl, l3, _, _, _, rfl, rfl, SqT.of h3, sel_at (sel := (·.took)) hj rfl, ?_⟩⟩
        refine pvStep hD2 (Same.trans q.1 s3) (s3 _ _ q.2) (by rw [List.length_map]; exact small1000 (Nat.le_trans (List.length_take_le' _ _) (by omega))) ?_
        show ((honL n ls).take (i + 1)).map _ = _ ++ [V.bl (!decide (ov (tk S1 (j : Int)) = V.non))]
        rw [not_ov, List.take_add_one, hh1, List.map_append]
        rfl
      have hb : H2 D2 = some (.lst (((honL n ls).map fun h => (tk S1 h).isSome).map V.bl)) := by
        rw [q.2, List.length_map]
        dsimp only
        rw [List.take_of_length_le (Nat.le_refl _), List.map_map]
        rfl
      have W := W.same q.1
      clear q hD2
      have allT : (∀ h ∈ honL n ls, (tk S1 h).isSome = true) → ((honL n ls).map fun h => (tk S1 h).isSome).all id = true := fun h => by
        rw [List.all_eq_true]
        intro b hb
        obtain ⟨x, hx, rfl⟩ := List.mem_map.mp hb
        exact h x hx
      have anyT : ((honL n ls).map fun h => (tk S1 h).isSome).any id = true → ((honL n ls).map fun h => (tk S1 h).isSome).all id = true := fun h => by
        obtain ⟨b, hb, e⟩ := List.any_eq_true.mp h
        obtain ⟨x, hx, rfl⟩ := List.mem_map.mp hb
        exact allT (q2 ⟨x, hx, e⟩)
      have fstT : first ∈ honL n ls → ((honL n ls).map fun h => (tk S1 h).isSome).all id = true := fun h => allT (q1 h)
      generalize (honL n ls).map (fun h => (tk S1 h).isSome) = bs at hb allT anyT fstT
      clear allT q1 q2
      -- sound
      refine ⟨_, rfl, _, rfl, _, rfl, _, rfl, A, S1, D, _, first, vo, rfl, W.sp, SD.wf, W.hL, by omega, hin, o1, o2, fun H3 s3 => ⟨true, rfl, iteF ?_⟩⟩
      have W := W.same s3
      have hb := s3 _ _ hb
      clear s3
      refine ⟨_, rfl, D2, bs, rfl, SqL.of hb, _, rfl, ?_⟩
      refine iteSame (fun h z => ⟨_, rfl, D2, bs, rfl, SqL.of hb, _, rfl, by rw [anyT h]; exact z⟩) (iteF ?_)
      refine ⟨_, rfl, _, rfl, D, _, rfl, .inl (SqL.of W.hL), rfl, flat_ints _, _, rfl, ?_⟩
      rw [inV_int]
      refine iteSame (fun h z => ⟨_, rfl, D2, bs, rfl, SqL.of hb, _, rfl, by rw [fstT (of_decide_eq_true h)]; exact z⟩) (iteF ?_)
      -- more lies
      refine ⟨_, rfl, tl, rfl, ⟨_, SqT.of W.tl⟩, for_tup (K := K) (a := tl) (xs := ls.map V.int) (fun j σ H' => ∃ (v11 v13 : Option V) (S : MS), σ = [some (.ref a), some (.int (n : Int)), some (.int (t : Int)), some (.ref tl), some (.ref D), some (.int first), some (.ref tc), some (ov vo), some (.ref A.p), some (.ref sm), some (.int (0 + (i : Int))), v11, some (.ref D2), v13, none] ∧
        W17 C CE A a D sm tl H (honL n ls) ls s0 s1 (c + 250 + 20 * i + 4 * j) (480 + 20 * i + 4 * j) S H' ∧ Sd ⟨n, t, ((n : Int) + t) / 2 + 1, (t : Int) + 1, 2 * (t : Int) + 1, ls, first, vo⟩ S) ⟨v11, v13, S1, rfl, W, SD⟩ (fun j σ H' _ ⟨_, _, _, _, W, _⟩ => SqT.of W.tl) ?_ ?_⟩
      · clear W SD hin g1 o1 o2 anyT fstT
        rintro j x σ H' hx ⟨v11, v13, S, rfl, W, SD⟩
        obtain ⟨l, hl, rfl⟩ := map_at hx
        have hj : j < ls.length := (List.getElem?_eq_some_iff.mp hl).1
        refine ⟨(by show 2 ≤ sizeLine; decide), fun t5 ht5 => ?_⟩
        have ht5v : upd H' t5 (.tup [.str "echo", .str "promise"]) t5 = some (.tup [.str "echo", .str "promise"]) := upd_same
        have W := W.same (same_new (o := .tup [.str "echo", .str "promise"]) ht5)
        generalize upd H' t5 (.tup [.str "echo", .str "promise"]) = H5 at W ht5v
        refine ⟨t5, rfl, ⟨_, SqT.of ht5v⟩, for_tup (K := K) (a := t5) (xs := [.str "echo", .str "promise"]) (fun k σ H' => ∃ (v11 : Option V) (S : MS), σ = [some (.ref a), some (.int (n : Int)), some (.int (t : Int)), some (.ref tl), some (.ref D), some (.int first), some (.ref tc), some (ov vo), some (.ref A.p), some (.ref sm), some (.int (0 + (i : Int))), v11, some (.ref D2), some (.int l), none] ∧ H' t5 = some (.tup [.str "echo", .str "promise"]) ∧
          W17 C CE A a D sm tl H (honL n ls) ls s0 s1 (c + 250 + 20 * i + 4 * j + 2 * k) (480 + 20 * i + 4 * j + 2 * k) S H' ∧ Sd ⟨n, t, ((n : Int) + t) / 2 + 1, (t : Int) + 1, 2 * (t : Int) + 1, ls, first, vo⟩ S) ⟨v11, S, rfl, ht5v, W, SD⟩ (fun k σ H' _ ⟨_, _, _, h, _⟩ => SqT.of h) ?_ ?_⟩
        · clear W SD ht5v
          rintro k x σ H' hx ⟨v11, S, rfl, ht5v, W, SD⟩
          have hk : k < 2 := (List.getElem?_eq_some_iff.mp hx).1
          obtain ⟨kd, rfl⟩ : ∃ kd : Kd, x = .str (ks kd) := by
            match k, hx with
            | 0, hx => cases hx; exact ⟨.echo, rfl⟩
            | 1, hx => cases hx; exact ⟨.prom, rfl⟩
            | k + 2, hx => simp at hx
          refine ⟨_, rfl, A.p, A.dx, _, rfl, W.sp.ob, rfl, _, rfl, ?_⟩
          refine ⟨_, rfl, _, rfl, a, D, _, _, rfl, W.pot, .inl ⟨SqL.of W.hL, W.hL, NN.ha⟩, by rw [List.length_map]; exact hpos, by rw [List.length_map]; omega, by omega, fun i5 x5 H5 hx5 hp5 on5 => ?_⟩
          obtain ⟨g, hg, rfl⟩ := map_at hx5
          have W5 := W.potted NN hp5 on5
          refine ⟨_, rfl, _, rfl, _, rfl, a, sm, _, _, rfl, W5.pot, .inl ⟨SqL.of W5.sm, W5.sm, NN.sa⟩, (by show 0 < 2; decide), (by show 2 ≤ 1000; decide), by omega, fun i6 x6 H6 hx6 hp6 on6 => ?_⟩
          obtain ⟨v, rfl, v0, v1⟩ : ∃ v : Int, x6 = .int v ∧ 0 ≤ v ∧ v ≤ 99 := by
            match i6, hx6 with
            | 0, hx6 => cases hx6; exact ⟨s0, rfl, s00, by omega⟩
            | 1, hx6 => cases hx6; exact ⟨s1, rfl, s10, by omega⟩
            | i6 + 2, hx6 => simp at hx6
          have W6 := W5.potted NN hp6 on6
          have hl' : l ∈ S.liars := by
            rw [SD.L]
            exact List.mem_of_getElem? hl
          have hg' := hsn SD g (List.mem_of_getElem? hg)
          have ht6 := on6 _ _ (on5 _ _ ht5v (W.pot.nt ht5v)) (W5.pot.nt (on5 _ _ ht5v (W.pot.nt ht5v)))
          refine ⟨A, S, l, g, kd, v, rfl, W6.sp, NN.ap, SD.wf, hl', hg', v0, v1, Nat.le_trans W6.slips (by omega), Nat.le_trans W6.log (by omega), fun H7 sp7 kp7 => ?_⟩
          exact ⟨_, _, rfl, kp7 _ _ ht6 (W6.sp.tupF ht6), (W6.kept NN sp7 kp7 (b' := 480 + 20 * i + 4 * j + 2 * k + 2) (by rw [lieS_bnd]; have := W6.bd; omega)).up (by omega) (by omega), SD.lie hl' hg'⟩
        · rintro σ H' ⟨v11, S, rfl, _, W, SD⟩
          exact ⟨_, _, S, rfl, W.up (by show _ + 2 * 2 ≤ _; omega) (by show _ + 2 * 2 ≤ _; omega), SD⟩
      · rintro σ H' ⟨v11, v13, S, rfl, W, SD⟩
        rw [List.length_map] at W
        exact ⟨_, _, _, _, S, rfl, W.up (by omega) (by omega), SD⟩
    · rintro σ H' ⟨v10, v11, v12, v13, S, rfl, W, _⟩
      exact kk H' W.on
end
end Spr
namespace Spr
open PySem L2
theorem all_mk {l : PySem.W.OpenLaw} {w : World} {K : PySem.W.Frag} {h : Heap} {mg : Str → Option Value} {fa aK f_isint f_isfrom f_ishand f_chkhand f_ishands f_iscounts f_isspread f_chknum f_chkspread f_votes f_usual f_einit f_hear f_due f_sinit f_hon f_put f_putall f_hears f_deliver f_lie f_rest f_und f_tak f_pot f_take f_of f_some f_lus f_cells f_like f_snd f_ri f_law C CE p_und p_tak : Addr} (X : K.In h) (G : h.Ns mainGlobals mg) (hfa : mg "law" = some (.ref fa))
    {od_isint an_isint : Option Addr} {sl_isint : Array (Option Value)} {oc_isint kV_isint dc_isint pm_isint cd_isint ct_isint : Value}
    {od_isfrom an_isfrom : Option Addr} {sl_isfrom : Array (Option Value)} {oc_isfrom kV_isfrom dc_isfrom pm_isfrom cd_isfrom ct_isfrom : Value}
    {od_ishand an_ishand : Option Addr} {sl_ishand : Array (Option Value)} {oc_ishand kV_ishand dc_ishand pm_ishand cd_ishand ct_ishand : Value}
    {od_chkhand an_chkhand : Option Addr} {sl_chkhand : Array (Option Value)} {oc_chkhand kV_chkhand dc_chkhand pm_chkhand cd_chkhand ct_chkhand : Value}
    {od_ishands an_ishands : Option Addr} {sl_ishands : Array (Option Value)} {oc_ishands kV_ishands dc_ishands pm_ishands cd_ishands ct_ishands : Value}
    {od_iscounts an_iscounts : Option Addr} {sl_iscounts : Array (Option Value)} {oc_iscounts kV_iscounts dc_iscounts pm_iscounts cd_iscounts ct_iscounts : Value}
    {od_isspread an_isspread : Option Addr} {sl_isspread : Array (Option Value)} {oc_isspread kV_isspread dc_isspread pm_isspread cd_isspread ct_isspread : Value}
    {od_chknum an_chknum : Option Addr} {sl_chknum : Array (Option Value)} {oc_chknum kV_chknum dc_chknum pm_chknum cd_chknum ct_chknum : Value}
    {od_chkspread an_chkspread : Option Addr} {sl_chkspread : Array (Option Value)} {oc_chkspread kV_chkspread dc_chkspread pm_chkspread cd_chkspread ct_chkspread : Value}
    {od_votes an_votes : Option Addr} {sl_votes : Array (Option Value)} {oc_votes kV_votes dc_votes pm_votes cd_votes ct_votes : Value}
    {od_usual an_usual : Option Addr} {sl_usual : Array (Option Value)} {oc_usual kV_usual dc_usual pm_usual cd_usual ct_usual : Value}
    {od_einit an_einit : Option Addr} {sl_einit : Array (Option Value)} {oc_einit kV_einit dc_einit pm_einit cd_einit ct_einit : Value}
    {od_hear an_hear : Option Addr} {sl_hear : Array (Option Value)} {oc_hear kV_hear dc_hear pm_hear cd_hear ct_hear : Value}
    {od_due an_due : Option Addr} {sl_due : Array (Option Value)} {oc_due kV_due dc_due pm_due cd_due ct_due : Value}
    {od_sinit an_sinit : Option Addr} {sl_sinit : Array (Option Value)} {oc_sinit kV_sinit dc_sinit pm_sinit cd_sinit ct_sinit : Value}
    {od_hon an_hon : Option Addr} {sl_hon : Array (Option Value)} {oc_hon kV_hon dc_hon pm_hon cd_hon ct_hon : Value}
    {od_put an_put : Option Addr} {sl_put : Array (Option Value)} {oc_put kV_put dc_put pm_put cd_put ct_put : Value}
    {od_putall an_putall : Option Addr} {sl_putall : Array (Option Value)} {oc_putall kV_putall dc_putall pm_putall cd_putall ct_putall : Value}
    {od_hears an_hears : Option Addr} {sl_hears : Array (Option Value)} {oc_hears kV_hears dc_hears pm_hears cd_hears ct_hears : Value}
    {od_deliver an_deliver : Option Addr} {sl_deliver : Array (Option Value)} {oc_deliver kV_deliver dc_deliver pm_deliver cd_deliver ct_deliver : Value}
    {od_lie an_lie : Option Addr} {sl_lie : Array (Option Value)} {oc_lie kV_lie dc_lie pm_lie cd_lie ct_lie : Value}
    {od_rest an_rest : Option Addr} {sl_rest : Array (Option Value)} {oc_rest kV_rest dc_rest pm_rest cd_rest ct_rest : Value}
    {od_und an_und : Option Addr} {sl_und : Array (Option Value)} {oc_und kV_und dc_und pm_und cd_und ct_und : Value}
    {od_tak an_tak : Option Addr} {sl_tak : Array (Option Value)} {oc_tak kV_tak dc_tak pm_tak cd_tak ct_tak : Value}
    {od_pot an_pot : Option Addr} {sl_pot : Array (Option Value)} {oc_pot kV_pot dc_pot pm_pot cd_pot ct_pot : Value}
    {od_take an_take : Option Addr} {sl_take : Array (Option Value)} {oc_take kV_take dc_take pm_take cd_take ct_take : Value}
    {od_of an_of : Option Addr} {sl_of : Array (Option Value)} {oc_of kV_of dc_of pm_of cd_of ct_of : Value}
    {od_some an_some : Option Addr} {sl_some : Array (Option Value)} {oc_some kV_some dc_some pm_some cd_some ct_some : Value}
    {od_lus an_lus : Option Addr} {sl_lus : Array (Option Value)} {oc_lus kV_lus dc_lus pm_lus cd_lus ct_lus : Value}
    {od_cells an_cells : Option Addr} {sl_cells : Array (Option Value)} {oc_cells kV_cells dc_cells pm_cells cd_cells ct_cells : Value}
    {od_like an_like : Option Addr} {sl_like : Array (Option Value)} {oc_like kV_like dc_like pm_like cd_like ct_like : Value}
    {od_snd an_snd : Option Addr} {sl_snd : Array (Option Value)} {oc_snd kV_snd dc_snd pm_snd cd_snd ct_snd : Value}
    {od_ri an_ri : Option Addr} {sl_ri : Array (Option Value)} {oc_ri kV_ri dc_ri pm_ri cd_ri ct_ri : Value}
    {od_law an_law : Option Addr} {sl_law : Array (Option Value)} {oc_law kV_law dc_law pm_law cd_law ct_law : Value}
    {r_und : List Value}
    {r_tak : List Value}
    {odK : Option Addr} {nK : Nat} {slK : Array (Option Value)} {tK1 tK2 tK3 t_GREATEST_COUNT t_GREATEST_SPREAD t_FEWEST_SPREAD t_MOST_SPREAD t_MOST_USUAL_STOPS : Tok}
    (aC : PySem.W.nsIn K mainGlobals "Spread" = some (some (.ref C)))
    (aCE : PySem.W.nsIn K mainGlobals "Ear" = some (some (.ref CE)))
    (a_isint : PySem.W.nsIn K mainGlobals "is_integer" = some (some (.ref f_isint)))
    (l_isint : K.lookup f_isint = some ⟨oc_isint, od_isint, .func (PySem.W.fnOf "is_integer" "is_integer" (defArgs s_is_integer) (defBody s_is_integer) (defScope s_is_integer) .none kV_isint dc_isint pm_isint an_isint cd_isint ct_isint), sl_isint⟩)
    (c_isint : PySem.W.codeIn K cd_isint "is_integer" = true)
    (k_isint : PySem.W.keepIn K (.ref f_isint) = true)
    (a_isfrom : PySem.W.nsIn K mainGlobals "is_from" = some (some (.ref f_isfrom)))
    (l_isfrom : K.lookup f_isfrom = some ⟨oc_isfrom, od_isfrom, .func (PySem.W.fnOf "is_from" "is_from" (defArgs s_is_from) (defBody s_is_from) (defScope s_is_from) .none kV_isfrom dc_isfrom pm_isfrom an_isfrom cd_isfrom ct_isfrom), sl_isfrom⟩)
    (c_isfrom : PySem.W.codeIn K cd_isfrom "is_from" = true)
    (k_isfrom : PySem.W.keepIn K (.ref f_isfrom) = true)
    (a_ishand : PySem.W.nsIn K mainGlobals "is_hand" = some (some (.ref f_ishand)))
    (l_ishand : K.lookup f_ishand = some ⟨oc_ishand, od_ishand, .func (PySem.W.fnOf "is_hand" "is_hand" (defArgs s_is_hand) (defBody s_is_hand) (defScope s_is_hand) .none kV_ishand dc_ishand pm_ishand an_ishand cd_ishand ct_ishand), sl_ishand⟩)
    (c_ishand : PySem.W.codeIn K cd_ishand "is_hand" = true)
    (k_ishand : PySem.W.keepIn K (.ref f_ishand) = true)
    (a_chkhand : PySem.W.nsIn K mainGlobals "check_hand" = some (some (.ref f_chkhand)))
    (l_chkhand : K.lookup f_chkhand = some ⟨oc_chkhand, od_chkhand, .func (PySem.W.fnOf "check_hand" "check_hand" (defArgs s_check_hand) (defBody s_check_hand) (defScope s_check_hand) .none kV_chkhand dc_chkhand pm_chkhand an_chkhand cd_chkhand ct_chkhand), sl_chkhand⟩)
    (c_chkhand : PySem.W.codeIn K cd_chkhand "check_hand" = true)
    (k_chkhand : PySem.W.keepIn K (.ref f_chkhand) = true)
    (a_ishands : PySem.W.nsIn K mainGlobals "is_hands" = some (some (.ref f_ishands)))
    (l_ishands : K.lookup f_ishands = some ⟨oc_ishands, od_ishands, .func (PySem.W.fnOf "is_hands" "is_hands" (defArgs s_is_hands) (defBody s_is_hands) (defScope s_is_hands) .none kV_ishands dc_ishands pm_ishands an_ishands cd_ishands ct_ishands), sl_ishands⟩)
    (c_ishands : PySem.W.codeIn K cd_ishands "is_hands" = true)
    (k_ishands : PySem.W.keepIn K (.ref f_ishands) = true)
    (a_iscounts : PySem.W.nsIn K mainGlobals "is_counts" = some (some (.ref f_iscounts)))
    (l_iscounts : K.lookup f_iscounts = some ⟨oc_iscounts, od_iscounts, .func (PySem.W.fnOf "is_counts" "is_counts" (defArgs s_is_counts) (defBody s_is_counts) (defScope s_is_counts) .none kV_iscounts dc_iscounts pm_iscounts an_iscounts cd_iscounts ct_iscounts), sl_iscounts⟩)
    (c_iscounts : PySem.W.codeIn K cd_iscounts "is_counts" = true)
    (k_iscounts : PySem.W.keepIn K (.ref f_iscounts) = true)
    (a_isspread : PySem.W.nsIn K mainGlobals "is_spread" = some (some (.ref f_isspread)))
    (l_isspread : K.lookup f_isspread = some ⟨oc_isspread, od_isspread, .func (PySem.W.fnOf "is_spread" "is_spread" (defArgs s_is_spread) (defBody s_is_spread) (defScope s_is_spread) .none kV_isspread dc_isspread pm_isspread an_isspread cd_isspread ct_isspread), sl_isspread⟩)
    (c_isspread : PySem.W.codeIn K cd_isspread "is_spread" = true)
    (k_isspread : PySem.W.keepIn K (.ref f_isspread) = true)
    (a_chknum : PySem.W.nsIn K mainGlobals "check_number" = some (some (.ref f_chknum)))
    (l_chknum : K.lookup f_chknum = some ⟨oc_chknum, od_chknum, .func (PySem.W.fnOf "check_number" "check_number" (defArgs s_check_number) (defBody s_check_number) (defScope s_check_number) .none kV_chknum dc_chknum pm_chknum an_chknum cd_chknum ct_chknum), sl_chknum⟩)
    (c_chknum : PySem.W.codeIn K cd_chknum "check_number" = true)
    (k_chknum : PySem.W.keepIn K (.ref f_chknum) = true)
    (a_chkspread : PySem.W.nsIn K mainGlobals "check_spread" = some (some (.ref f_chkspread)))
    (l_chkspread : K.lookup f_chkspread = some ⟨oc_chkspread, od_chkspread, .func (PySem.W.fnOf "check_spread" "check_spread" (defArgs s_check_spread) (defBody s_check_spread) (defScope s_check_spread) .none kV_chkspread dc_chkspread pm_chkspread an_chkspread cd_chkspread ct_chkspread), sl_chkspread⟩)
    (c_chkspread : PySem.W.codeIn K cd_chkspread "check_spread" = true)
    (k_chkspread : PySem.W.keepIn K (.ref f_chkspread) = true)
    (a_votes : PySem.W.nsIn K mainGlobals "votes" = some (some (.ref f_votes)))
    (l_votes : K.lookup f_votes = some ⟨oc_votes, od_votes, .func (PySem.W.fnOf "votes" "votes" (defArgs s_votes) (defBody s_votes) (defScope s_votes) .none kV_votes dc_votes pm_votes an_votes cd_votes ct_votes), sl_votes⟩)
    (c_votes : PySem.W.codeIn K cd_votes "votes" = true)
    (k_votes : PySem.W.keepIn K (.ref f_votes) = true)
    (a_usual : PySem.W.nsIn K mainGlobals "usual" = some (some (.ref f_usual)))
    (l_usual : K.lookup f_usual = some ⟨oc_usual, od_usual, .func (PySem.W.fnOf "usual" "usual" (defArgs s_usual) (defBody s_usual) (defScope s_usual) .none kV_usual dc_usual pm_usual an_usual cd_usual ct_usual), sl_usual⟩)
    (c_usual : PySem.W.codeIn K cd_usual "usual" = true)
    (k_usual : PySem.W.keepIn K (.ref f_usual) = true)
    (a_einit : PySem.W.findIn K (.ref CE) "__init__" = some (some (.ref f_einit)))
    (i_einit : PySem.W.isFn K (.ref f_einit) = true)
    (l_einit : K.lookup f_einit = some ⟨oc_einit, od_einit, .func (PySem.W.fnOf "__init__" "Ear.__init__" (defArgs s_Ear_init) (defBody s_Ear_init) (defScope s_Ear_init) .none kV_einit dc_einit pm_einit an_einit cd_einit ct_einit), sl_einit⟩)
    (c_einit : PySem.W.codeIn K cd_einit "Ear.__init__" = true)
    (k_einit : PySem.W.keepIn K (.ref f_einit) = true)
    (a_hear : PySem.W.findIn K (.ref CE) "hear" = some (some (.ref f_hear)))
    (i_hear : PySem.W.isFn K (.ref f_hear) = true)
    (l_hear : K.lookup f_hear = some ⟨oc_hear, od_hear, .func (PySem.W.fnOf "hear" "Ear.hear" (defArgs s_Ear_hear) (defBody s_Ear_hear) (defScope s_Ear_hear) .none kV_hear dc_hear pm_hear an_hear cd_hear ct_hear), sl_hear⟩)
    (c_hear : PySem.W.codeIn K cd_hear "Ear.hear" = true)
    (k_hear : PySem.W.keepIn K (.ref f_hear) = true)
    (a_due : PySem.W.findIn K (.ref CE) "do_due" = some (some (.ref f_due)))
    (i_due : PySem.W.isFn K (.ref f_due) = true)
    (l_due : K.lookup f_due = some ⟨oc_due, od_due, .func (PySem.W.fnOf "do_due" "Ear.do_due" (defArgs s_Ear_do_due) (defBody s_Ear_do_due) (defScope s_Ear_do_due) .none kV_due dc_due pm_due an_due cd_due ct_due), sl_due⟩)
    (c_due : PySem.W.codeIn K cd_due "Ear.do_due" = true)
    (k_due : PySem.W.keepIn K (.ref f_due) = true)
    (a_sinit : PySem.W.findIn K (.ref C) "__init__" = some (some (.ref f_sinit)))
    (i_sinit : PySem.W.isFn K (.ref f_sinit) = true)
    (l_sinit : K.lookup f_sinit = some ⟨oc_sinit, od_sinit, .func (PySem.W.fnOf "__init__" "Spread.__init__" (defArgs s_Spread_init) (defBody s_Spread_init) (defScope s_Spread_init) .none kV_sinit dc_sinit pm_sinit an_sinit cd_sinit ct_sinit), sl_sinit⟩)
    (c_sinit : PySem.W.codeIn K cd_sinit "Spread.__init__" = true)
    (k_sinit : PySem.W.keepIn K (.ref f_sinit) = true)
    (a_hon : PySem.W.findIn K (.ref C) "_is_honest" = some (some (.ref f_hon)))
    (i_hon : PySem.W.isFn K (.ref f_hon) = true)
    (l_hon : K.lookup f_hon = some ⟨oc_hon, od_hon, .func (PySem.W.fnOf "_is_honest" "Spread._is_honest" (defArgs s_Spread_is_honest) (defBody s_Spread_is_honest) (defScope s_Spread_is_honest) .none kV_hon dc_hon pm_hon an_hon cd_hon ct_hon), sl_hon⟩)
    (c_hon : PySem.W.codeIn K cd_hon "Spread._is_honest" = true)
    (k_hon : PySem.W.keepIn K (.ref f_hon) = true)
    (a_put : PySem.W.findIn K (.ref C) "_put" = some (some (.ref f_put)))
    (i_put : PySem.W.isFn K (.ref f_put) = true)
    (l_put : K.lookup f_put = some ⟨oc_put, od_put, .func (PySem.W.fnOf "_put" "Spread._put" (defArgs s_Spread_put) (defBody s_Spread_put) (defScope s_Spread_put) .none kV_put dc_put pm_put an_put cd_put ct_put), sl_put⟩)
    (c_put : PySem.W.codeIn K cd_put "Spread._put" = true)
    (k_put : PySem.W.keepIn K (.ref f_put) = true)
    (a_putall : PySem.W.findIn K (.ref C) "_put_to_all" = some (some (.ref f_putall)))
    (i_putall : PySem.W.isFn K (.ref f_putall) = true)
    (l_putall : K.lookup f_putall = some ⟨oc_putall, od_putall, .func (PySem.W.fnOf "_put_to_all" "Spread._put_to_all" (defArgs s_Spread_put_to_all) (defBody s_Spread_put_to_all) (defScope s_Spread_put_to_all) .none kV_putall dc_putall pm_putall an_putall cd_putall ct_putall), sl_putall⟩)
    (c_putall : PySem.W.codeIn K cd_putall "Spread._put_to_all" = true)
    (k_putall : PySem.W.keepIn K (.ref f_putall) = true)
    (a_hears : PySem.W.findIn K (.ref C) "_hear" = some (some (.ref f_hears)))
    (i_hears : PySem.W.isFn K (.ref f_hears) = true)
    (l_hears : K.lookup f_hears = some ⟨oc_hears, od_hears, .func (PySem.W.fnOf "_hear" "Spread._hear" (defArgs s_Spread_hear) (defBody s_Spread_hear) (defScope s_Spread_hear) .none kV_hears dc_hears pm_hears an_hears cd_hears ct_hears), sl_hears⟩)
    (c_hears : PySem.W.codeIn K cd_hears "Spread._hear" = true)
    (k_hears : PySem.W.keepIn K (.ref f_hears) = true)
    (a_deliver : PySem.W.findIn K (.ref C) "deliver" = some (some (.ref f_deliver)))
    (i_deliver : PySem.W.isFn K (.ref f_deliver) = true)
    (l_deliver : K.lookup f_deliver = some ⟨oc_deliver, od_deliver, .func (PySem.W.fnOf "deliver" "Spread.deliver" (defArgs s_Spread_deliver) (defBody s_Spread_deliver) (defScope s_Spread_deliver) .none kV_deliver dc_deliver pm_deliver an_deliver cd_deliver ct_deliver), sl_deliver⟩)
    (c_deliver : PySem.W.codeIn K cd_deliver "Spread.deliver" = true)
    (k_deliver : PySem.W.keepIn K (.ref f_deliver) = true)
    (a_lie : PySem.W.findIn K (.ref C) "lie" = some (some (.ref f_lie)))
    (i_lie : PySem.W.isFn K (.ref f_lie) = true)
    (l_lie : K.lookup f_lie = some ⟨oc_lie, od_lie, .func (PySem.W.fnOf "lie" "Spread.lie" (defArgs s_Spread_lie) (defBody s_Spread_lie) (defScope s_Spread_lie) .none kV_lie dc_lie pm_lie an_lie cd_lie ct_lie), sl_lie⟩)
    (c_lie : PySem.W.codeIn K cd_lie "Spread.lie" = true)
    (k_lie : PySem.W.keepIn K (.ref f_lie) = true)
    (a_rest : PySem.W.findIn K (.ref C) "rest" = some (some (.ref f_rest)))
    (i_rest : PySem.W.isFn K (.ref f_rest) = true)
    (l_rest : K.lookup f_rest = some ⟨oc_rest, od_rest, .func (PySem.W.fnOf "rest" "Spread.rest" (defArgs s_Spread_rest) (defBody s_Spread_rest) (defScope s_Spread_rest) .none kV_rest dc_rest pm_rest an_rest cd_rest ct_rest), sl_rest⟩)
    (c_rest : PySem.W.codeIn K cd_rest "Spread.rest" = true)
    (k_rest : PySem.W.keepIn K (.ref f_rest) = true)
    (a_und : PySem.W.findIn K (.ref C) "under_way" = some (some (.ref p_und)))
    (g_und : PySem.W.specialIn K (.ref p_und) "__get__" = some (some (.builtin "property.__get__")))
    (k2_und : PySem.W.takesIn K (.ref p_und) = some true)
    (r2_und : PySem.W.recIn K p_und "property" = some (.ref f_und :: r_und))
    (l_und : K.lookup f_und = some ⟨oc_und, od_und, .func (PySem.W.fnOf "under_way" "Spread.under_way" (defArgs s_Spread_under_way) (defBody s_Spread_under_way) (defScope s_Spread_under_way) .none kV_und dc_und pm_und an_und cd_und ct_und), sl_und⟩)
    (c_und : PySem.W.codeIn K cd_und "Spread.under_way" = true)
    (k_und : PySem.W.keepIn K (.ref f_und) = true)
    (a_tak : PySem.W.findIn K (.ref C) "takings" = some (some (.ref p_tak)))
    (g_tak : PySem.W.specialIn K (.ref p_tak) "__get__" = some (some (.builtin "property.__get__")))
    (k2_tak : PySem.W.takesIn K (.ref p_tak) = some true)
    (r2_tak : PySem.W.recIn K p_tak "property" = some (.ref f_tak :: r_tak))
    (l_tak : K.lookup f_tak = some ⟨oc_tak, od_tak, .func (PySem.W.fnOf "takings" "Spread.takings" (defArgs s_Spread_takings) (defBody s_Spread_takings) (defScope s_Spread_takings) .none kV_tak dc_tak pm_tak an_tak cd_tak ct_tak), sl_tak⟩)
    (c_tak : PySem.W.codeIn K cd_tak "Spread.takings" = true)
    (k_tak : PySem.W.keepIn K (.ref f_tak) = true)
    (a_pot : PySem.W.nsIn K mainGlobals "_law_pot" = some (some (.ref f_pot)))
    (l_pot : K.lookup f_pot = some ⟨oc_pot, od_pot, .func (PySem.W.fnOf "_law_pot" "_law_pot" (defArgs s_law_pot) (defBody s_law_pot) (defScope s_law_pot) .none kV_pot dc_pot pm_pot an_pot cd_pot ct_pot), sl_pot⟩)
    (c_pot : PySem.W.codeIn K cd_pot "_law_pot" = true)
    (k_pot : PySem.W.keepIn K (.ref f_pot) = true)
    (a_take : PySem.W.nsIn K mainGlobals "_law_take" = some (some (.ref f_take)))
    (l_take : K.lookup f_take = some ⟨oc_take, od_take, .func (PySem.W.fnOf "_law_take" "_law_take" (defArgs s_law_take) (defBody s_law_take) (defScope s_law_take) .none kV_take dc_take pm_take an_take cd_take ct_take), sl_take⟩)
    (c_take : PySem.W.codeIn K cd_take "_law_take" = true)
    (k_take : PySem.W.keepIn K (.ref f_take) = true)
    (a_of : PySem.W.nsIn K mainGlobals "_law_of" = some (some (.ref f_of)))
    (l_of : K.lookup f_of = some ⟨oc_of, od_of, .func (PySem.W.fnOf "_law_of" "_law_of" (defArgs s_law_of) (defBody s_law_of) (defScope s_law_of) .none kV_of dc_of pm_of an_of cd_of ct_of), sl_of⟩)
    (c_of : PySem.W.codeIn K cd_of "_law_of" = true)
    (k_of : PySem.W.keepIn K (.ref f_of) = true)
    (a_some : PySem.W.nsIn K mainGlobals "_law_some" = some (some (.ref f_some)))
    (l_some : K.lookup f_some = some ⟨oc_some, od_some, .func (PySem.W.fnOf "_law_some" "_law_some" (defArgs s_law_some) (defBody s_law_some) (defScope s_law_some) .none kV_some dc_some pm_some an_some cd_some ct_some), sl_some⟩)
    (c_some : PySem.W.codeIn K cd_some "_law_some" = true)
    (k_some : PySem.W.keepIn K (.ref f_some) = true)
    (a_lus : PySem.W.nsIn K mainGlobals "_law_usual" = some (some (.ref f_lus)))
    (l_lus : K.lookup f_lus = some ⟨oc_lus, od_lus, .func (PySem.W.fnOf "_law_usual" "_law_usual" (defArgs s_law_usual) (defBody s_law_usual) (defScope s_law_usual) .none kV_lus dc_lus pm_lus an_lus cd_lus ct_lus), sl_lus⟩)
    (c_lus : PySem.W.codeIn K cd_lus "_law_usual" = true)
    (k_lus : PySem.W.keepIn K (.ref f_lus) = true)
    (a_cells : PySem.W.nsIn K mainGlobals "_law_cells" = some (some (.ref f_cells)))
    (l_cells : K.lookup f_cells = some ⟨oc_cells, od_cells, .func (PySem.W.fnOf "_law_cells" "_law_cells" (defArgs s_law_cells) (defBody s_law_cells) (defScope s_law_cells) .none kV_cells dc_cells pm_cells an_cells cd_cells ct_cells), sl_cells⟩)
    (c_cells : PySem.W.codeIn K cd_cells "_law_cells" = true)
    (k_cells : PySem.W.keepIn K (.ref f_cells) = true)
    (a_like : PySem.W.nsIn K mainGlobals "_law_is_like" = some (some (.ref f_like)))
    (l_like : K.lookup f_like = some ⟨oc_like, od_like, .func (PySem.W.fnOf "_law_is_like" "_law_is_like" (defArgs s_law_is_like) (defBody s_law_is_like) (defScope s_law_is_like) .none kV_like dc_like pm_like an_like cd_like ct_like), sl_like⟩)
    (c_like : PySem.W.codeIn K cd_like "_law_is_like" = true)
    (k_like : PySem.W.keepIn K (.ref f_like) = true)
    (a_snd : PySem.W.nsIn K mainGlobals "_law_is_sound" = some (some (.ref f_snd)))
    (l_snd : K.lookup f_snd = some ⟨oc_snd, od_snd, .func (PySem.W.fnOf "_law_is_sound" "_law_is_sound" (defArgs s_law_is_sound) (defBody s_law_is_sound) (defScope s_law_is_sound) .none kV_snd dc_snd pm_snd an_snd cd_snd ct_snd), sl_snd⟩)
    (c_snd : PySem.W.codeIn K cd_snd "_law_is_sound" = true)
    (k_snd : PySem.W.keepIn K (.ref f_snd) = true)
    (a_ri : PySem.W.nsIn K mainGlobals "_law_right" = some (some (.ref f_ri)))
    (l_ri : K.lookup f_ri = some ⟨oc_ri, od_ri, .func (PySem.W.fnOf "_law_right" "_law_right" (defArgs s_law_right) (defBody s_law_right) (defScope s_law_right) .none kV_ri dc_ri pm_ri an_ri cd_ri ct_ri), sl_ri⟩)
    (c_ri : PySem.W.codeIn K cd_ri "_law_right" = true)
    (k_ri : PySem.W.keepIn K (.ref f_ri) = true)
    (a_law : PySem.W.nsIn K mainGlobals "law" = some (some (.ref f_law)))
    (l_law : K.lookup f_law = some ⟨oc_law, od_law, .func (PySem.W.fnOf "law" "law" (defArgs s_law) (defBody s_law) (defScope s_law) .none kV_law dc_law pm_law an_law cd_law ct_law), sl_law⟩)
    (c_law : PySem.W.codeIn K cd_law "law" = true)
    (k_law : PySem.W.keepIn K (.ref f_law) = true)
    (pgC : PySem.W.plainGet K C Str.empty = true)
    (hdC : PySem.W.hasDictIn K C = true)
    (poC : PySem.W.plainOver K C = true)
    (saC : PySem.W.findIn K (.ref C) "__setattr__" = some (some (.builtin "object.__setattr__")))
    (mkC : PySem.W.makesIn K C = true)
    (kcC : PySem.W.keepIn K (.ref C) = true)
    (pgCE : PySem.W.plainGet K CE Str.empty = true)
    (hdCE : PySem.W.hasDictIn K CE = true)
    (poCE : PySem.W.plainOver K CE = true)
    (saCE : PySem.W.findIn K (.ref CE) "__setattr__" = some (some (.builtin "object.__setattr__")))
    (mkCE : PySem.W.makesIn K CE = true)
    (kcCE : PySem.W.keepIn K (.ref CE) = true)
    (nE_hand : PySem.W.findIn K (.ref CE) "hand" = some none)
    (nE_counts : PySem.W.findIn K (.ref CE) "counts" = some none)
    (nE_first : PySem.W.findIn K (.ref CE) "first" = some none)
    (nE_told : PySem.W.findIn K (.ref CE) "told" = some none)
    (nE_echo_from : PySem.W.findIn K (.ref CE) "echo_from" = some none)
    (nE_promise_from : PySem.W.findIn K (.ref CE) "promise_from" = some none)
    (nE_echoed : PySem.W.findIn K (.ref CE) "echoed" = some none)
    (nE_promised : PySem.W.findIn K (.ref CE) "promised" = some none)
    (nE_took : PySem.W.findIn K (.ref CE) "took" = some none)
    (nS_n : PySem.W.findIn K (.ref C) "n" = some none)
    (nS_counts : PySem.W.findIn K (.ref C) "counts" = some none)
    (nS_liars : PySem.W.findIn K (.ref C) "liars" = some none)
    (nS_first : PySem.W.findIn K (.ref C) "first" = some none)
    (nS__value : PySem.W.findIn K (.ref C) "_value" = some none)
    (nS__ears : PySem.W.findIn K (.ref C) "_ears" = some none)
    (nS__slips : PySem.W.findIn K (.ref C) "_slips" = some none)
    (nS__put_ever : PySem.W.findIn K (.ref C) "_put_ever" = some none)
    (nS__log : PySem.W.findIn K (.ref C) "_log" = some none)
    (z_isinstance : PySem.W.nsIn K mainGlobals "isinstance" = some none)
    (z_int : PySem.W.nsIn K mainGlobals "int" = some none)
    (z_bool : PySem.W.nsIn K mainGlobals "bool" = some none)
    (z_tuple : PySem.W.nsIn K mainGlobals "tuple" = some none)
    (z_str : PySem.W.nsIn K mainGlobals "str" = some none)
    (z_list : PySem.W.nsIn K mainGlobals "list" = some none)
    (z_all : PySem.W.nsIn K mainGlobals "all" = some none)
    (z_zip : PySem.W.nsIn K mainGlobals "zip" = some none)
    (z_len : PySem.W.nsIn K mainGlobals "len" = some none)
    (z_range : PySem.W.nsIn K mainGlobals "range" = some none)
    (z_sorted : PySem.W.nsIn K mainGlobals "sorted" = some none)
    (z_enumerate : PySem.W.nsIn K mainGlobals "enumerate" = some none)
    (z_min : PySem.W.nsIn K mainGlobals "min" = some none)
    (z_max : PySem.W.nsIn K mainGlobals "max" = some none)
    (z_sum : PySem.W.nsIn K mainGlobals "sum" = some none)
    (z_abs : PySem.W.nsIn K mainGlobals "abs" = some none)
    (z_any : PySem.W.nsIn K mainGlobals "any" = some none)
    (v_GREATEST_COUNT : PySem.W.nsIn K mainGlobals "GREATEST_COUNT" = some (some (.int 20 t_GREATEST_COUNT)))
    (v_GREATEST_SPREAD : PySem.W.nsIn K mainGlobals "GREATEST_SPREAD" = some (some (.int 99 t_GREATEST_SPREAD)))
    (v_FEWEST_SPREAD : PySem.W.nsIn K mainGlobals "FEWEST_SPREAD" = some (some (.int 2 t_FEWEST_SPREAD)))
    (v_MOST_SPREAD : PySem.W.nsIn K mainGlobals "MOST_SPREAD" = some (some (.int 12 t_MOST_SPREAD)))
    (v_MOST_USUAL_STOPS : PySem.W.nsIn K mainGlobals "MOST_USUAL_STOPS" = some (some (.int 9 t_MOST_USUAL_STOPS)))
    (aKi : PySem.W.nsIn K mainGlobals "KINDS" = some (some (.ref aK)))
    (lKi : K.lookup aK = some ⟨.type "tuple", odK, .seq #[.str "said" tK1, .str "echo" tK2, .str "promise" tK3] nK, slK⟩)
    (hCC : C ≠ CE) :
    ∃ fd : FuncData, (∀ (s : Shared) (v : Value), BindsTo s fd ⟨[v], []⟩ [("script", v)]) ∧ ∀ base : Heap, K.In base → base.Ns mainGlobals mg → FnOk l.prog w K mg base CX0 10 fa fd ["script"] (spLaw K) := by
  have e := hfa.symm.trans (PySem.W.mg_of X G a_law)
  cases e
  have T : Bn mg := ⟨PySem.W.mg_none_of X G z_isinstance, PySem.W.mg_none_of X G z_int, PySem.W.mg_none_of X G z_bool, PySem.W.mg_none_of X G z_tuple, PySem.W.mg_none_of X G z_str, PySem.W.mg_none_of X G z_list, PySem.W.mg_none_of X G z_all, PySem.W.mg_none_of X G z_zip, PySem.W.mg_none_of X G z_len, PySem.W.mg_none_of X G z_range, PySem.W.mg_none_of X G z_sorted, PySem.W.mg_none_of X G z_enumerate, PySem.W.mg_none_of X G z_min, PySem.W.mg_none_of X G z_max, PySem.W.mg_none_of X G z_sum, PySem.W.mg_none_of X G z_abs⟩
  have N : Cn mg := ⟨⟨_, PySem.W.mg_of X G v_GREATEST_COUNT⟩, ⟨_, PySem.W.mg_of X G v_GREATEST_SPREAD⟩, ⟨_, PySem.W.mg_of X G v_FEWEST_SPREAD⟩, ⟨_, PySem.W.mg_of X G v_MOST_SPREAD⟩, ⟨_, PySem.W.mg_of X G v_MOST_USUAL_STOPS⟩⟩
  have KT : Kt K mg := ⟨aK, PySem.W.mg_of X G aKi, fun H => .inr ⟨_, _, _, lKi, rfl, rfl, by show 3 ≤ sizeLine; decide, .cons ⟨_, rfl⟩ (.cons ⟨_, rfl⟩ (.cons ⟨_, rfl⟩ .nil))⟩⟩
  have TE : TxE K CE := ⟨⟨pgCE, hdCE, poCE, saCE⟩, nE_hand, nE_counts, nE_first, nE_told, nE_echo_from, nE_promise_from, nE_echoed, nE_promised, nE_took⟩
  have TS : TxS K C := ⟨⟨pgC, hdC, poC, saC⟩, nS_n, nS_counts, nS_liars, nS_first, nS__value, nS__ears, nS__slips, nS__put_ever, nS__log⟩
  have F_isint := fun_mk (st := s_is_integer) l_isint c_isint k_isint
  have b_isint := F_isint.binds (ps := ["value"]) fun _ _ _ _ _ _ us hl => match us, hl with | [_], _ => rfl
  have m_isint := PySem.W.mg_of X G a_isint
  have F_isfrom := fun_mk (st := s_is_from) l_isfrom c_isfrom k_isfrom
  have b_isfrom := F_isfrom.binds (ps := ["value", "low", "high"]) fun _ _ _ _ _ _ us hl => match us, hl with | [_, _, _], _ => rfl
  have m_isfrom := PySem.W.mg_of X G a_isfrom
  have F_ishand := fun_mk (st := s_is_hand) l_ishand c_ishand k_ishand
  have b_ishand := F_ishand.binds (ps := ["value", "n"]) fun _ _ _ _ _ _ us hl => match us, hl with | [_, _], _ => rfl
  have m_ishand := PySem.W.mg_of X G a_ishand
  have F_chkhand := fun_mk (st := s_check_hand) l_chkhand c_chkhand k_chkhand
  have b_chkhand := F_chkhand.binds (ps := ["hand", "n"]) fun _ _ _ _ _ _ us hl => match us, hl with | [_, _], _ => rfl
  have m_chkhand := PySem.W.mg_of X G a_chkhand
  have F_ishands := fun_mk (st := s_is_hands) l_ishands c_ishands k_ishands
  have b_ishands := F_ishands.binds (ps := ["value", "n"]) fun _ _ _ _ _ _ us hl => match us, hl with | [_, _], _ => rfl
  have m_ishands := PySem.W.mg_of X G a_ishands
  have F_iscounts := fun_mk (st := s_is_counts) l_iscounts c_iscounts k_iscounts
  have b_iscounts := F_iscounts.binds (ps := ["value"]) fun _ _ _ _ _ _ us hl => match us, hl with | [_], _ => rfl
  have m_iscounts := PySem.W.mg_of X G a_iscounts
  have F_isspread := fun_mk (st := s_is_spread) l_isspread c_isspread k_isspread
  have b_isspread := F_isspread.binds (ps := ["value"]) fun _ _ _ _ _ _ us hl => match us, hl with | [_], _ => rfl
  have m_isspread := PySem.W.mg_of X G a_isspread
  have F_chknum := fun_mk (st := s_check_number) l_chknum c_chknum k_chknum
  have b_chknum := F_chknum.binds (ps := ["n"]) fun _ _ _ _ _ _ us hl => match us, hl with | [_], _ => rfl
  have m_chknum := PySem.W.mg_of X G a_chknum
  have F_chkspread := fun_mk (st := s_check_spread) l_chkspread c_chkspread k_chkspread
  have b_chkspread := F_chkspread.binds (ps := ["n", "counts", "liars", "first", "value"]) fun _ _ _ _ _ _ us hl => match us, hl with | [_, _, _, _, _], _ => rfl
  have m_chkspread := PySem.W.mg_of X G a_chkspread
  have F_votes := fun_mk (st := s_votes) l_votes c_votes k_votes
  have b_votes := F_votes.binds (ps := ["told", "value"]) fun _ _ _ _ _ _ us hl => match us, hl with | [_, _], _ => rfl
  have m_votes := PySem.W.mg_of X G a_votes
  have F_usual := fun_mk (st := s_usual) l_usual c_usual k_usual
  have b_usual := F_usual.binds (ps := ["n", "t"]) fun _ _ _ _ _ _ us hl => match us, hl with | [_, _], _ => rfl
  have m_usual := PySem.W.mg_of X G a_usual
  have F_einit := fun_mk (st := s_Ear_init) l_einit c_einit k_einit
  have b_einit := F_einit.binds (ps := ["self", "hand", "counts", "first"]) fun _ _ _ _ _ _ us hl => match us, hl with | [_, _, _, _], _ => rfl
  have F_hear := fun_mk (st := s_Ear_hear) l_hear c_hear k_hear
  have b_hear := F_hear.binds (ps := ["self", "kind", "sender", "value"]) fun _ _ _ _ _ _ us hl => match us, hl with | [_, _, _, _], _ => rfl
  have F_due := fun_mk (st := s_Ear_do_due) l_due c_due k_due
  have b_due := F_due.binds (ps := ["self", "value"]) fun _ _ _ _ _ _ us hl => match us, hl with | [_, _], _ => rfl
  have F_sinit := fun_mk (st := s_Spread_init) l_sinit c_sinit k_sinit
  have b_sinit := F_sinit.binds (ps := ["self", "n", "counts", "liars", "first", "value"]) fun _ _ _ _ _ _ us hl => match us, hl with | [_, _, _, _, _, _], _ => rfl
  have F_hon := fun_mk (st := s_Spread_is_honest) l_hon c_hon k_hon
  have b_hon := F_hon.binds (ps := ["self", "hand"]) fun _ _ _ _ _ _ us hl => match us, hl with | [_, _], _ => rfl
  have F_put := fun_mk (st := s_Spread_put) l_put c_put k_put
  have b_put := F_put.binds (ps := ["self", "sender", "to", "kind", "value"]) fun _ _ _ _ _ _ us hl => match us, hl with | [_, _, _, _, _], _ => rfl
  have F_putall := fun_mk (st := s_Spread_put_to_all) l_putall c_putall k_putall
  have b_putall := F_putall.binds (ps := ["self", "sender", "kind", "value"]) fun _ _ _ _ _ _ us hl => match us, hl with | [_, _, _, _], _ => rfl
  have F_hears := fun_mk (st := s_Spread_hear) l_hears c_hears k_hears
  have b_hears := F_hears.binds (ps := ["self", "hand", "sender", "kind", "value"]) fun _ _ _ _ _ _ us hl => match us, hl with | [_, _, _, _, _], _ => rfl
  have F_deliver := fun_mk (st := s_Spread_deliver) l_deliver c_deliver k_deliver
  have b_deliver := F_deliver.binds (ps := ["self", "number"]) fun _ _ _ _ _ _ us hl => match us, hl with | [_, _], _ => rfl
  have F_lie := fun_mk (st := s_Spread_lie) l_lie c_lie k_lie
  have b_lie := F_lie.binds (ps := ["self", "liar", "to", "kind", "value"]) fun _ _ _ _ _ _ us hl => match us, hl with | [_, _, _, _, _], _ => rfl
  have F_rest := fun_mk (st := s_Spread_rest) l_rest c_rest k_rest
  have b_rest := F_rest.binds (ps := ["self"]) fun _ _ _ _ _ _ us hl => match us, hl with | [_], _ => rfl
  have F_und := fun_mk (st := s_Spread_under_way) l_und c_und k_und
  have b_und := F_und.binds (ps := ["self"]) fun _ _ _ _ _ _ us hl => match us, hl with | [_], _ => rfl
  have F_tak := fun_mk (st := s_Spread_takings) l_tak c_tak k_tak
  have b_tak := F_tak.binds (ps := ["self"]) fun _ _ _ _ _ _ us hl => match us, hl with | [_], _ => rfl
  have F_pot := fun_mk (st := s_law_pot) l_pot c_pot k_pot
  have b_pot := F_pot.binds (ps := ["script", "place"]) fun _ _ _ _ _ _ us hl => match us, hl with | [_, _], _ => rfl
  have m_pot := PySem.W.mg_of X G a_pot
  have F_take := fun_mk (st := s_law_take) l_take c_take k_take
  have b_take := F_take.binds (ps := ["pot", "upto"]) fun _ _ _ _ _ _ us hl => match us, hl with | [_, _], _ => rfl
  have m_take := PySem.W.mg_of X G a_take
  have F_of := fun_mk (st := s_law_of) l_of c_of k_of
  have b_of := F_of.binds (ps := ["pot", "some"]) fun _ _ _ _ _ _ us hl => match us, hl with | [_, _], _ => rfl
  have m_of := PySem.W.mg_of X G a_of
  have F_some := fun_mk (st := s_law_some) l_some c_some k_some
  have b_some := F_some.binds (ps := ["pot", "pool", "many"]) fun _ _ _ _ _ _ us hl => match us, hl with | [_, _, _], _ => rfl
  have m_some := PySem.W.mg_of X G a_some
  have F_lus := fun_mk (st := s_law_usual) l_lus c_lus k_lus
  have b_lus := F_lus.binds (ps := ["n", "t"]) fun _ _ _ _ _ _ us hl => match us, hl with | [_, _], _ => rfl
  have m_lus := PySem.W.mg_of X G a_lus
  have F_cells := fun_mk (st := s_law_cells) l_cells c_cells k_cells
  have b_cells := F_cells.binds (ps := ["script", "limit"]) fun _ _ _ _ _ _ us hl => match us, hl with | [_, _], _ => rfl
  have m_cells := PySem.W.mg_of X G a_cells
  have F_like := fun_mk (st := s_law_is_like) l_like c_like k_like
  have b_like := F_like.binds (ps := ["one", "other"]) fun _ _ _ _ _ _ us hl => match us, hl with | [_, _], _ => rfl
  have m_like := PySem.W.mg_of X G a_like
  have F_snd := fun_mk (st := s_law_is_sound) l_snd c_snd k_snd
  have b_snd := F_snd.binds (ps := ["spread", "honest", "first", "value"]) fun _ _ _ _ _ _ us hl => match us, hl with | [_, _, _, _], _ => rfl
  have m_snd := PySem.W.mg_of X G a_snd
  have F_ri := fun_mk (st := s_law_right) l_ri c_ri k_ri
  have b_ri := F_ri.binds (ps := ["pot"]) fun _ _ _ _ _ _ us hl => match us, hl with | [_], _ => rfl
  have m_ri := PySem.W.mg_of X G a_ri
  have F_law := fun_mk (st := s_law) l_law c_law k_law
  have b_law := F_law.binds (ps := ["script"]) fun _ _ _ _ _ _ us hl => match us, hl with | [_], _ => rfl
  have m_law := PySem.W.mg_of X G a_law
  refine ⟨PySem.W.fnOf "law" "law" (defArgs s_law) (defBody s_law) (defScope s_law) .none kV_law dc_law pm_law an_law cd_law ct_law, fun s v => .of_eq rfl, fun base _ _ => ?_⟩
  have C_isint : Ca l.prog w K mg base _ _ _ _ _ _ := ⟨ok_is_integer F_isint T, m_isint, k_isint, b_isint⟩
  have C_isfrom : Ca l.prog w K mg base _ _ _ _ _ _ := ⟨ok_is_from F_isfrom C_isint, m_isfrom, k_isfrom, b_isfrom⟩
  have C_ishand : Ca l.prog w K mg base _ _ _ _ _ _ := ⟨ok_is_hand F_ishand C_isfrom, m_ishand, k_ishand, b_ishand⟩
  have C_chkhand : Ca l.prog w K mg base _ _ _ _ _ _ := ⟨ok_check_hand F_chkhand C_ishand, m_chkhand, k_chkhand, b_chkhand⟩
  have C_ishands : Ca l.prog w K mg base _ _ _ _ _ _ := ⟨ok_is_hands F_ishands T C_ishand, m_ishands, k_ishands, b_ishands⟩
  have C_iscounts : Ca l.prog w K mg base _ _ _ _ _ _ := ⟨ok_is_counts F_iscounts T N C_isfrom, m_iscounts, k_iscounts, b_iscounts⟩
  have C_isspread : Ca l.prog w K mg base _ _ _ _ _ _ := ⟨ok_is_spread F_isspread N C_isfrom, m_isspread, k_isspread, b_isspread⟩
  have C_chknum : Ca l.prog w K mg base _ _ _ _ _ _ := ⟨ok_check_number F_chknum N C_isfrom, m_chknum, k_chknum, b_chknum⟩
  have C_chkspread : Ca l.prog w K mg base _ _ _ _ _ _ := ⟨ok_check_spread F_chkspread T C_chknum C_iscounts C_ishands C_chkhand C_isspread, m_chkspread, k_chkspread, b_chkspread⟩
  have C_votes : Ca l.prog w K mg base _ _ _ _ _ _ := ⟨ok_votes F_votes T, m_votes, k_votes, b_votes⟩
  have C_usual : Ca l.prog w K mg base _ _ _ _ _ _ := ⟨ok_usual F_usual N C_chknum C_isfrom, m_usual, k_usual, b_usual⟩
  have C_due : Me l.prog w K mg base _ CE _ _ _ _ _ := ⟨ok_due F_due T TE C_votes, ⟨a_due, i_due, k_due⟩, b_due⟩
  have C_hear : Me l.prog w K mg base _ CE _ _ _ _ _ := ⟨ok_hear F_hear TE C_due, ⟨a_hear, i_hear, k_hear⟩, b_hear⟩
  have C_hon : Me l.prog w K mg base _ C _ _ _ _ _ := ⟨ok_hon (CE := CE) F_hon TS C_ishand, ⟨a_hon, i_hon, k_hon⟩, b_hon⟩
  have C_put : Me l.prog w K mg base _ C _ _ _ _ _ := ⟨ok_put (CE := CE) F_put TS, ⟨a_put, i_put, k_put⟩, b_put⟩
  have C_putall : Me l.prog w K mg base _ C _ _ _ _ _ := ⟨ok_putAll F_putall T TS C_put, ⟨a_putall, i_putall, k_putall⟩, b_putall⟩
  have C_hears : Me l.prog w K mg base _ C _ _ _ _ _ := ⟨ok_hearS F_hears TS TE C_putall C_hear, ⟨a_hears, i_hears, k_hears⟩, b_hears⟩
  have C_deliver : Me l.prog w K mg base _ C _ _ _ _ _ := ⟨ok_del F_deliver TS C_isint C_hears, ⟨a_deliver, i_deliver, k_deliver⟩, b_deliver⟩
  have C_lie : Me l.prog w K mg base _ C _ _ _ _ _ := ⟨ok_lie F_lie T KT TS C_isint C_hon C_isspread C_put, ⟨a_lie, i_lie, k_lie⟩, b_lie⟩
  have C_rest : Me l.prog w K mg base _ C _ _ _ _ _ := ⟨ok_rest F_rest T TS C_deliver, ⟨a_rest, i_rest, k_rest⟩, b_rest⟩
  have G_sinit := ok_init (P := l.prog) (w := w) (mg := mg) (base := base) F_sinit T TS hCC C_chkspread ⟨mkCE, a_einit, i_einit, kcCE⟩ (PySem.W.mg_of X G aCE) (ok_einit F_einit TE) b_einit C_putall C_hears
  have C_und : Pr l.prog w K mg base _ C _ _ _ _ _ := ⟨ok_und (CE := CE) F_und T TS, ⟨a_und, g_und, k2_und, _, r2_und⟩, b_und⟩
  have C_tak : Pr l.prog w K mg base _ C _ _ _ _ _ := ⟨ok_tak F_tak T TS TE, ⟨a_tak, g_tak, k2_tak, _, r2_tak⟩, b_tak⟩
  have C_take : Ca l.prog w K mg base _ _ _ _ _ _ := ⟨ok_take F_take T, m_take, k_take, b_take⟩
  have C_pot : Ca l.prog w K mg base _ _ _ _ _ _ := ⟨ok_pot F_pot T, m_pot, k_pot, b_pot⟩
  have C_of : Ca l.prog w K mg base _ _ _ _ _ _ := ⟨ok_of F_of T C_take, m_of, k_of, b_of⟩
  have C_cells : Ca l.prog w K mg base _ _ _ _ _ _ := ⟨ok_cells F_cells T, m_cells, k_cells, b_cells⟩
  have C_like : Ca l.prog w K mg base _ _ _ _ _ _ := ⟨ok_like F_like T m_like k_like b_like 3, m_like, k_like, b_like⟩
  have C_some : Ca l.prog w K mg base _ _ _ _ _ _ := ⟨ok_some F_some T C_take, m_some, k_some, b_some⟩
  have C_lus : Ca l.prog w K mg base _ _ _ _ _ _ := ⟨ok_lus F_lus, m_lus, k_lus, b_lus⟩
  have C_snd : Ca l.prog w K mg base _ _ _ _ _ _ := ⟨ok_snd F_snd T (PySem.W.mg_none_of X G z_any) TS C_like C_tak, m_snd, k_snd, b_snd⟩
  have Vn : Env17 l.prog w K mg base C CE _ _ _ _ _ _ _ _ _ _ _ _ _ _ _ _ _ _ _ _ _ _ _ _ _ _ _ _ := ⟨T, PySem.W.mg_none_of X G z_any, TS, C_take, C_usual, C_like, C_of, C_some, C_lus, C_snd, ⟨mkC, a_sinit, i_sinit, kcC⟩, PySem.W.mg_of X G aC, G_sinit, b_sinit, C_und, C_tak, C_rest, C_lie, C_deliver⟩
  have C_ri : Ca l.prog w K mg base _ _ _ _ _ _ := ⟨ok_rt F_ri Vn, m_ri, k_ri, b_ri⟩
  exact ok_law F_law T C_ri C_pot C_cells
theorem walk {l : PySem.W.OpenLaw} {q : Program} {loose : List Str} {XP : (Str → Option Value) → Heap → Prop} {YP : World → Heap → Prop} {d : DefRec} {K : Params → PySem.W.Frag} (hn : l.most = some 63) (hdf : d.params.defaults = [])
    (hY : ∀ (w : World) (h : Heap), YP w h → (K w.params).In h)
    (F : ∀ (w : World) (mg : Str → Option Value) (fa : Addr) (h : Heap), (K w.params).In h → h.Ns mainGlobals mg → mg d.name = some (.ref fa) →
      ∃ fd : FuncData, (∀ (s : Shared) (u : Value), BindsTo s fd ⟨[u], []⟩ [("script", u)]) ∧ ∀ base : Heap, (K w.params).In base → base.Ns mainGlobals mg → FnOk l.prog w (K w.params) mg base CX0 10 fa fd ["script"] (spLaw (K w.params))) :
    PySem.W.WalkO q loose XP YP l.row.toRowW d [] (fun f vs => PySem.call f vs) :=
  L2.walk_of (n := 63) (k := 10) (x := "script") (CX := fun _ => CX0) (sp := fun w => spLaw (K w.params)) hn (by decide) hdf ⟨rfl, by decide, by decide⟩ hY F (fun _ _ a ns hl _ hS => ⟨a, ns, rfl, hS, hl, fun _ => rfl⟩) fun _ _ _ _ _ z => z
end Spr
open PySem PySem.W PyProof.Rows
set_option maxRecDepth 100000 in
set_option maxHeartbeats 0 in
theorem PySem.Challenge.cw_liarslate_k17_whole_usual_counts_whoever_holds : PySem.Challenge.rw_liarslate_k17_whole_usual_counts_whoever.Holds := by
  w_on; o_law; k_head; (case hw => w_witness2)
  k_fill
  refine Spr.walk (l := PySem.Challenge.rw_liarslate_k17_whole_usual_counts_whoever) rfl rfl (fun w h Y => PySem.W.kIn_of Y) ?F
  case F =>
    intro w mg fa h KX G hmg
    refine' Spr.all_mk KX G hmg ?aC ?aCE ?a_isint ?l_isint ?c_isint ?k_isint ?a_isfrom ?l_isfrom ?c_isfrom ?k_isfrom ?a_ishand ?l_ishand ?c_ishand ?k_ishand ?a_chkhand ?l_chkhand ?c_chkhand ?k_chkhand ?a_ishands ?l_ishands ?c_ishands ?k_ishands ?a_iscounts ?l_iscounts ?c_iscounts ?k_iscounts ?a_isspread ?l_isspread ?c_isspread ?k_isspread ?a_chknum ?l_chknum ?c_chknum ?k_chknum ?a_chkspread ?l_chkspread ?c_chkspread ?k_chkspread ?a_votes ?l_votes ?c_votes ?k_votes ?a_usual ?l_usual ?c_usual ?k_usual ?a_einit ?i_einit ?l_einit ?c_einit ?k_einit ?a_hear ?i_hear ?l_hear ?c_hear ?k_hear ?a_due ?i_due ?l_due ?c_due ?k_due ?a_sinit ?i_sinit ?l_sinit ?c_sinit ?k_sinit ?a_hon ?i_hon ?l_hon ?c_hon ?k_hon ?a_put ?i_put ?l_put ?c_put ?k_put ?a_putall ?i_putall ?l_putall ?c_putall ?k_putall ?a_hears ?i_hears ?l_hears ?c_hears ?k_hears ?a_deliver ?i_deliver ?l_deliver ?c_deliver ?k_deliver ?a_lie ?i_lie ?l_lie ?c_lie ?k_lie ?a_rest ?i_rest ?l_rest ?c_rest ?k_rest ?a_und ?g_und ?k2_und ?r2_und ?l_und ?c_und ?k_und ?a_tak ?g_tak ?k2_tak ?r2_tak ?l_tak ?c_tak ?k_tak ?a_pot ?l_pot ?c_pot ?k_pot ?a_take ?l_take ?c_take ?k_take ?a_of ?l_of ?c_of ?k_of ?a_some ?l_some ?c_some ?k_some ?a_lus ?l_lus ?c_lus ?k_lus ?a_cells ?l_cells ?c_cells ?k_cells ?a_like ?l_like ?c_like ?k_like ?a_snd ?l_snd ?c_snd ?k_snd ?a_ri ?l_ri ?c_ri ?k_ri ?a_law ?l_law ?c_law ?k_law ?pgC ?hdC ?poC ?saC ?mkC ?kcC ?pgCE ?hdCE ?poCE ?saCE ?mkCE ?kcCE ?nE_hand ?nE_counts ?nE_first ?nE_told ?nE_echo_from ?nE_promise_from ?nE_echoed ?nE_promised ?nE_took ?nS_n ?nS_counts ?nS_liars ?nS_first ?nS__value ?nS__ears ?nS__slips ?nS__put_ever ?nS__log ?z_isinstance ?z_int ?z_bool ?z_tuple ?z_str ?z_list ?z_all ?z_zip ?z_len ?z_range ?z_sorted ?z_enumerate ?z_min ?z_max ?z_sum ?z_abs ?z_any ?v_GREATEST_COUNT ?v_GREATEST_SPREAD ?v_FEWEST_SPREAD ?v_MOST_SPREAD ?v_MOST_USUAL_STOPS ?aKi ?lKi ?hCC
    (case aC => k_is)
    (case aCE => k_is)
    (case a_isint => k_is)
    (case l_isint => k_is)
    (case c_isint => k_is)
    (case k_isint => k_is)
    (case a_isfrom => k_is)
    (case l_isfrom => k_is)
    (case c_isfrom => k_is)
    (case k_isfrom => k_is)
    (case a_ishand => k_is)
    (case l_ishand => k_is)
    (case c_ishand => k_is)
    (case k_ishand => k_is)
    (case a_chkhand => k_is)
    (case l_chkhand => k_is)
    (case c_chkhand => k_is)
    (case k_chkhand => k_is)
    (case a_ishands => k_is)
    (case l_ishands => k_is)
    (case c_ishands => k_is)
    (case k_ishands => k_is)
    (case a_iscounts => k_is)
    (case l_iscounts => k_is)
    (case c_iscounts => k_is)
    (case k_iscounts => k_is)
    (case a_isspread => k_is)
    (case l_isspread => k_is)
    (case c_isspread => k_is)
    (case k_isspread => k_is)
    (case a_chknum => k_is)
    (case l_chknum => k_is)
    (case c_chknum => k_is)
    (case k_chknum => k_is)
    (case a_chkspread => k_is)
    (case l_chkspread => k_is)
    (case c_chkspread => k_is)
    (case k_chkspread => k_is)
    (case a_votes => k_is)
    (case l_votes => k_is)
    (case c_votes => k_is)
    (case k_votes => k_is)
    (case a_usual => k_is)
    (case l_usual => k_is)
    (case c_usual => k_is)
    (case k_usual => k_is)
    (case a_einit => k_is)
    (case i_einit => k_is)
    (case l_einit => k_is)
    (case c_einit => k_is)
    (case k_einit => k_is)
    (case a_hear => k_is)
    (case i_hear => k_is)
    (case l_hear => k_is)
    (case c_hear => k_is)
    (case k_hear => k_is)
    (case a_due => k_is)
    (case i_due => k_is)
    (case l_due => k_is)
    (case c_due => k_is)
    (case k_due => k_is)
    (case a_sinit => k_is)
    (case i_sinit => k_is)
    (case l_sinit => k_is)
    (case c_sinit => k_is)
    (case k_sinit => k_is)
    (case a_hon => k_is)
    (case i_hon => k_is)
    (case l_hon => k_is)
    (case c_hon => k_is)
    (case k_hon => k_is)
    (case a_put => k_is)
    (case i_put => k_is)
    (case l_put => k_is)
    (case c_put => k_is)
    (case k_put => k_is)
    (case a_putall => k_is)
    (case i_putall => k_is)
    (case l_putall => k_is)
    (case c_putall => k_is)
    (case k_putall => k_is)
    (case a_hears => k_is)
    (case i_hears => k_is)
    (case l_hears => k_is)
    (case c_hears => k_is)
    (case k_hears => k_is)
    (case a_deliver => k_is)
    (case i_deliver => k_is)
    (case l_deliver => k_is)
    (case c_deliver => k_is)
    (case k_deliver => k_is)
    (case a_lie => k_is)
    (case i_lie => k_is)
    (case l_lie => k_is)
    (case c_lie => k_is)
    (case k_lie => k_is)
    (case a_rest => k_is)
    (case i_rest => k_is)
    (case l_rest => k_is)
    (case c_rest => k_is)
    (case k_rest => k_is)
    (case a_und => k_is)
    (case g_und => k_is)
    (case k2_und => k_is)
    (case r2_und => k_is)
    (case l_und => k_is)
    (case c_und => k_is)
    (case k_und => k_is)
    (case a_tak => k_is)
    (case g_tak => k_is)
    (case k2_tak => k_is)
    (case r2_tak => k_is)
    (case l_tak => k_is)
    (case c_tak => k_is)
    (case k_tak => k_is)
    (case a_pot => k_is)
    (case l_pot => k_is)
    (case c_pot => k_is)
    (case k_pot => k_is)
    (case a_take => k_is)
    (case l_take => k_is)
    (case c_take => k_is)
    (case k_take => k_is)
    (case a_of => k_is)
    (case l_of => k_is)
    (case c_of => k_is)
    (case k_of => k_is)
    (case a_some => k_is)
    (case l_some => k_is)
    (case c_some => k_is)
    (case k_some => k_is)
    (case a_lus => k_is)
    (case l_lus => k_is)
    (case c_lus => k_is)
    (case k_lus => k_is)
    (case a_cells => k_is)
    (case l_cells => k_is)
    (case c_cells => k_is)
    (case k_cells => k_is)
    (case a_like => k_is)
    (case l_like => k_is)
    (case c_like => k_is)
    (case k_like => k_is)
    (case a_snd => k_is)
    (case l_snd => k_is)
    (case c_snd => k_is)
    (case k_snd => k_is)
    (case a_ri => k_is)
    (case l_ri => k_is)
    (case c_ri => k_is)
    (case k_ri => k_is)
    (case a_law => k_is)
    (case l_law => k_is)
    (case c_law => k_is)
    (case k_law => k_is)
    (case pgC => k_is)
    (case hdC => k_is)
    (case poC => k_is)
    (case saC => k_is)
    (case mkC => k_is)
    (case kcC => k_is)
    (case pgCE => k_is)
    (case hdCE => k_is)
    (case poCE => k_is)
    (case saCE => k_is)
    (case mkCE => k_is)
    (case kcCE => k_is)
    (case nE_hand => k_is)
    (case nE_counts => k_is)
    (case nE_first => k_is)
    (case nE_told => k_is)
    (case nE_echo_from => k_is)
    (case nE_promise_from => k_is)
    (case nE_echoed => k_is)
    (case nE_promised => k_is)
    (case nE_took => k_is)
    (case nS_n => k_is)
    (case nS_counts => k_is)
    (case nS_liars => k_is)
    (case nS_first => k_is)
    (case nS__value => k_is)
    (case nS__ears => k_is)
    (case nS__slips => k_is)
    (case nS__put_ever => k_is)
    (case nS__log => k_is)
    (case z_isinstance => k_is)
    (case z_int => k_is)
    (case z_bool => k_is)
    (case z_tuple => k_is)
    (case z_str => k_is)
    (case z_list => k_is)
    (case z_all => k_is)
    (case z_zip => k_is)
    (case z_len => k_is)
    (case z_range => k_is)
    (case z_sorted => k_is)
    (case z_enumerate => k_is)
    (case z_min => k_is)
    (case z_max => k_is)
    (case z_sum => k_is)
    (case z_abs => k_is)
    (case z_any => k_is)
    (case v_GREATEST_COUNT => k_is)
    (case v_GREATEST_SPREAD => k_is)
    (case v_FEWEST_SPREAD => k_is)
    (case v_MOST_SPREAD => k_is)
    (case v_MOST_USUAL_STOPS => k_is)
    (case aKi => k_is)
    (case lKi => k_is)
    (case hCC => decide)
