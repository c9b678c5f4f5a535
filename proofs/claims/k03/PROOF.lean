import PyProof.Rows.All
import Wide.All
import OpenK.AllK
import Wide.FinOn
import HandS.ForMost
import HandS.Wide
import HandS.Conv
import HandS.Evl
import KE.KDictWalk
import HandS.SlotsOwn
import HandS.Property
import HandS.Defaults
import HandS.More
import HandS.Codes
import PySem.Challenge.RW_foldplans_k03_rule_operators
set_option Elab.async false
set_option linter.all false
set_option maxRecDepth 100000
set_option maxHeartbeats 4000000
/-! what the laws of this program share -/
namespace Fp
open PySem PySem.Spec PyProof.Rows L2

/-! ### defs of the text, by name -/
def Dn (P : Program) (w : World) (K : PySem.W.Frag) (mg : Str → Option Value) (base : Heap) (k : Nat) (x : Str) (ps : List Str) (sp : Sp) : Prop :=
  ∃ f fd, mg x = some (.ref f) ∧ PySem.W.keepIn K (.ref f) = true ∧ Binds K fd ps [] ∧ FnOk P w K mg base CX0 k f fd ps sp
section
variable {X : Cx} {k : Nat} {x : Str} {ps : List Str} {sp : Sp} {p pos : Pos} {e : Expr} {es : List Expr} {t : TA}
theorem pd (D : Dn X.prog X.w X.K X.mg X.base k x ps sp) (hr : Room k X.A) (hg : Gl X x) (ha : PA X (e :: es) t) (hdb : (x == ("__debug__" : Str)) = false := by decide)
    (he : starEach (e :: es) X.env = (false, eval e X.env) :: starEach es X.env := by rfl) (hpl : (backTo pos (starEach es X.env)).any (·.1) = false := by rfl) :
    PE X (.Call (.Name x p) (e :: es) [] pos) (tCall sp [] E0 t) := by
  obtain ⟨f, fd, h1, h2, h3, h4⟩ := D
  exact pe_call h4 hr hg h1 h2 h3 .nil pass0 ha hdb he hpl
theorem pd0 (D : Dn X.prog X.w X.K X.mg X.base k x ps sp) (hr : Room k X.A) (hg : Gl X x) (hdb : (x == ("__debug__" : Str)) = false := by decide) :
    PE X (.Call (.Name x p) [] [] pos) (tCall sp [] E0 tNil) := by
  obtain ⟨f, fd, h1, h2, h3, h4⟩ := D
  exact pe_call0 h4 hr hg h1 h2 h3 .nil pass0 hdb
end

/-! ### heaps -/
/-- all but the object at p stays -/
def But (p : Addr) (H H' : Hp) : Prop := (∀ b o, H b = some o → b ≠ p → H' b = some o) ∧ (H p ≠ none → H' p ≠ none)
theorem But.refl (p : Addr) (H : Hp) : But p H H := ⟨fun _ _ h _ => h, fun h => h⟩
theorem But.trans {p : Addr} {H H1 H2 : Hp} (a : But p H H1) (b : But p H1 H2) : But p H H2 := ⟨fun c o h n => b.1 c o (a.1 c o h n) n, fun h => b.2 (a.2 h)⟩
theorem But.of {p : Addr} {H H' : Hp} (e : Same H H') : But p H H' := ⟨fun b o h _ => e b o h, fun h => by
  cases q : H p with
  | none => exact absurd q h
  | some o => rw [e p o q]; intro z; cases z⟩
theorem But.free {p l : Addr} {H H' : Hp} (e : But p H H') (h : H' l = none) : H l = none := by
  cases q : H l with
  | none => rfl
  | some o =>
    by_cases hl : l = p
    · subst hl
      exact absurd h (e.2 (by rw [q]; intro z; cases z))
    · rw [e.1 l o q hl] at h
      cases h
theorem But.new {p q : Addr} {H H' : Hp} {o : HO} (e : But p H H') (h : H' q = none) : But p H (upd H' q o) := e.trans (But.of fun b u hb => by
  rw [upd_ne (ne_of_none hb h)]
  exact hb)
theorem Same.new {H H' : Hp} {q : Addr} {o : HO} (e : Same H H') (h : H' q = none) : Same H (upd H' q o) := fun b u hb => by
  have h1 := e b u hb
  rw [upd_ne (ne_of_none h1 h)]
  exact h1
theorem same_new {H : Hp} {q : Addr} {o : HO} (h : H q = none) : Same H (upd H q o) := Same.new (Same.refl H) h
/-- an object that H does not know may change -/
theorem Same.mut {H H' : Hp} {p : Addr} {o : HO} (e : Same H H') (h : H p = none) : Same H (upd H' p o) := fun a u ha => by
  rw [upd_ne (ne_of_none ha h)]
  exact e a u ha
theorem But.mut {p q : Addr} {H H' : Hp} {o : HO} (e : But p H H') (h : H q = none) : But p H (upd H' q o) := ⟨fun a u ha hp => by
  rw [upd_ne (ne_of_none ha h)]
  exact e.1 a u ha hp, fun hn => by
  by_cases z : p = q
  · subst z; exact absurd h hn
  · rw [upd_ne z]; exact e.2 hn⟩

/-! ### rules with one way -/
section
variable {X : Cx}
def rIntI : List V → Hp → VK → Prop := fun xs H Q => ∃ i, xs = [.int i] ∧ Q (.int i) H
theorem call_intI : CallR X (.type "int") rIntI := fun pins s σ H xs us Q I r h => call_int1 pins s σ H xs us Q I r (.inl h)
def rIntB : List V → Hp → VK → Prop := fun xs H Q => ∃ k, xs = [.bl k] ∧ Q (.int (if k then 1 else 0)) H
theorem call_intB : CallR X (.type "int") rIntB := fun pins s σ H xs us Q I r h => call_int1 pins s σ H xs us Q I r (.inr h)
def rLenL (K : PySem.W.Frag) : List V → Hp → VK → Prop := fun xs H Q => ∃ p ys, xs = [.ref p] ∧ SqL K H p ys ∧ Q (.int ys.length) H
theorem call_lenL : CallR X (.builtin "len") (rLenL X.K) := fun pins s σ H xs us Q I r h => by
  obtain ⟨p, ys, e, h1, q⟩ := h
  exact call_len_seq pins s σ H xs us Q I r ⟨p, ys, e, .inl h1, q⟩
def rListL (K : PySem.W.Frag) : List V → Hp → VK → Prop := fun xs H Q => ∃ p ys, xs = [.ref p] ∧ SqL K H p ys ∧ ∀ l, H l = none → Q (.ref l) (upd H l (.lst ys))
theorem call_listL : CallR X (.type "list") (rListL X.K) := fun pins s σ H xs us Q I r h => by
  obtain ⟨p, ys, e, h1, q⟩ := h
  exact call_list_of pins s σ H xs us Q I r ⟨p, ys, e, .inl h1, q⟩
def rListT (K : PySem.W.Frag) : List V → Hp → VK → Prop := fun xs H Q => ∃ p ys, xs = [.ref p] ∧ SqT K H p ys ∧ ∀ l, H l = none → Q (.ref l) (upd H l (.lst ys))
theorem call_listT : CallR X (.type "list") (rListT X.K) := fun pins s σ H xs us Q I r h => by
  obtain ⟨p, ys, e, h1, q⟩ := h
  exact call_list_of pins s σ H xs us Q I r ⟨p, ys, e, .inr h1, q⟩
def rAbs : List V → Hp → VK → Prop := fun xs H Q => ∃ i, xs = [.int i] ∧ Q (.int (if i < 0 then -i else i)) H
theorem call_absI : CallR X (.builtin "abs") rAbs := call_abs
end
/-! ### dicts by written keys -/
theorem dg_s {H : Hp} {a : Addr} {kvs : List (Key × V)} {z : Str} {v : V} {R : V → Prop} (h : H a = some (.dK kvs)) (hv : valV kvs (Sum.inr z) = some v) (q : R v) : ∃ x, DGet H a (.str z) (some x) ∧ R x :=
  ⟨v, by rw [← hv]; exact DGet.k (k := Sum.inr z) h, q⟩
theorem dp_s {H : Hp} {a : Addr} {kvs : List (Key × V)} {z : Str} {v : V} {R : Hp → Prop} (h : H a = some (.dK kvs)) (hl : kvs.length < sizeLine) (q : R (upd H a (.dK (putK kvs (Sum.inr z) v)))) : ∃ H', DPut H a (.str z) v H' ∧ R H' :=
  ⟨_, DPut.k (k := Sum.inr z) h hl, q⟩
/-! ### data -/
theorem dp_ints (K : PySem.W.Frag) (H : Hp) : ∀ ns : List Int, DpAll K H (ns.map V.int) (ns.map PyData.int)
  | [] => .nil
  | n :: r => .cons (.int n) (dp_ints K H r)
theorem dp_strs (K : PySem.W.Frag) (H : Hp) : ∀ ns : List Str, DpAll K H (ns.map V.str) (ns.map PyData.str)
  | [] => .nil
  | n :: r => .cons (.str n) (dp_strs K H r)
/-- a list and a new empty list -/
theorem ne_nil {K : PySem.W.Frag} {H : Hp} {p q : Addr} {xs : List V} {ds : List PyData} {Q : VK} (hp : SqL K H p xs) (hd : DpAll K H xs ds) (hs : SeqAt.shaped (.list ds) = true) (hq : H q = some (.lst [])) (k : Q (.bl (!xs.isEmpty)) H) :
    rNeD K (.ref p) (.ref q) H Q := by
  refine ⟨.list ds, .list [], .lst hp hd, .lst (.inl (.inl hq)) .nil, hs, by decide, ?_⟩
  cases hd with
  | nil => exact k
  | cons a b => exact k
theorem eq_nil {K : PySem.W.Frag} {H : Hp} {p q : Addr} {xs : List V} {ds : List PyData} {Q : VK} (hp : SqL K H p xs) (hd : DpAll K H xs ds) (hs : SeqAt.shaped (.list ds) = true) (hq : H q = some (.lst [])) (k : Q (.bl xs.isEmpty) H) :
    rEqD K (.ref p) (.ref q) H Q := by
  refine ⟨.list ds, .list [], .lst hp hd, .lst (.inl (.inl hq)) .nil, hs, by decide, ?_⟩
  cases hd with
  | nil => exact k
  | cons a b => exact k
def Shp (n : Nat) (d : PyData) : Prop := d.canLay0 = true ∧ d.depth ≤ n
theorem shp_all {n : Nat} : ∀ {ds : List PyData}, (∀ d ∈ ds, Shp n d) → PyData.canLayAll0 ds = true ∧ PyData.depthAll ds ≤ n
  | [], _ => ⟨rfl, Nat.zero_le _⟩
  | d :: r, h => by
    obtain ⟨h1, h2⟩ := shp_all (ds := r) fun x hx => h x (List.mem_cons_of_mem _ hx)
    obtain ⟨h3, h4⟩ := h d List.mem_cons_self
    exact ⟨by show (PyData.canLay0 d && PyData.canLayAll0 r) = true; rw [h1, h3]; rfl, Nat.max_le.mpr ⟨h4, h2⟩⟩
theorem shp_lst {n : Nat} {ds : List PyData} (h : ∀ d ∈ ds, Shp n d) : Shp (n + 1) (.list ds) := ⟨(shp_all h).1, Nat.succ_le_succ (shp_all h).2⟩
theorem shp_tup {n : Nat} {ds : List PyData} (h : ∀ d ∈ ds, Shp n d) : Shp (n + 1) (.tuple ds) := ⟨(shp_all h).1, Nat.succ_le_succ (shp_all h).2⟩
theorem shp_int (i : Int) : Shp 0 (.int i) := ⟨rfl, Nat.le_refl _⟩
theorem shp_bool (b : Bool) : Shp 0 (.bool b) := ⟨rfl, Nat.le_refl _⟩
theorem shp_non : Shp 0 .none := ⟨rfl, Nat.le_refl _⟩
theorem Shp.mono {n m : Nat} {d : PyData} (h : Shp n d) (hm : n ≤ m) : Shp m d := ⟨h.1, Nat.le_trans h.2 hm⟩
theorem Shp.ok {n : Nat} {d : PyData} (h : Shp n d) (hn : n ≤ 64) : SeqAt.shaped d = true := by
  show (d.canLay0 && decide (d.depth ≤ 64)) = true
  rw [h.1, decide_eq_true (Nat.le_trans h.2 hn)]
  rfl
theorem shaped_ints (ns : List Int) : SeqAt.shaped (.list (ns.map PyData.int)) = true := (shp_lst (n := 0) fun d hd => by
  obtain ⟨i, _, rfl⟩ := List.mem_map.mp hd
  exact shp_int i).ok (by decide)
theorem ix_mod {ns : List Int} {t : Int} (h0 : ns ≠ []) : ∃ v, atI (ns.map V.int) (t % ((ns.map V.int).length : Nat)) = some (.int v) := by
  have hl : 0 < ns.length := by cases ns with
    | nil => exact absurd rfl h0
    | cons x r => exact Nat.succ_pos _
  have h1 : 0 ≤ t % (ns.length : Int) := Int.emod_nonneg _ (by omega)
  have h2 : t % (ns.length : Int) < ns.length := Int.emod_lt_of_pos _ (by omega)
  rw [List.length_map]
  obtain ⟨j, hj⟩ : ∃ j : Nat, t % (ns.length : Int) = j := ⟨(t % (ns.length : Int)).toNat, by omega⟩
  rw [hj]
  have hjl : j < ns.length := by omega
  exact ⟨ns[j], atI_nat (by rw [List.getElem?_map, List.getElem?_eq_getElem hjl]; rfl)⟩
/-! ### slices -/
theorem cut_to (xs : List V) (k : Nat) : cutV xs none (some (k : Int)) = xs.take k := by
  unfold cutV
  rw [HT.sIx_none, show HT.sIx xs.length xs.length (some (k : Int)) = min k xs.length from HT.sIx_nat _ _ k]
  show List.take (min k xs.length) xs = List.take k xs
  rcases Nat.le_total k xs.length with h | h
  · rw [Nat.min_eq_left h]
  · rw [Nat.min_eq_right h, List.take_of_length_le h, List.take_of_length_le (Nat.le_refl _)]

/-! ### the pen -/
theorem s_ct : ¬ (("cells" : Str) = "turn") := by decide
theorem s_lt : ¬ (("left" : Str) = "turn") := by decide
theorem s_cl : ¬ (("cells" : Str) = "left") := by decide
theorem s_tl : ¬ (("turn" : Str) = "left") := by decide
theorem k_ct : ¬ ((Sum.inr ("cells" : Str) : Key) = Sum.inr ("turn" : Str)) := by decide
theorem k_cl : ¬ ((Sum.inr ("cells" : Str) : Key) = Sum.inr ("left" : Str)) := by decide
theorem k_tl : ¬ ((Sum.inr ("turn" : Str) : Key) = Sum.inr ("left" : Str)) := by decide
def penK (c : Addr) (turn left : Int) : List (Key × V) := [(Sum.inr "cells", .ref c), (Sum.inr "turn", .int turn), (Sum.inr "left", .int left)]
theorem pen_cells (c : Addr) (turn left : Int) : valV (penK c turn left) (Sum.inr "cells") = some (.ref c) := by
  unfold penK
  exact valV_pos rfl
theorem pen_turn (c : Addr) (turn left : Int) : valV (penK c turn left) (Sum.inr "turn") = some (.int turn) := by
  unfold penK
  rw [valV_neg k_ct, valV_pos rfl]
theorem pen_left (c : Addr) (turn left : Int) : valV (penK c turn left) (Sum.inr "left") = some (.int left) := by
  unfold penK
  rw [valV_neg k_cl, valV_neg k_tl, valV_pos rfl]
theorem pen_putT (c : Addr) (turn left x : Int) : putK (penK c turn left) (Sum.inr ("turn" : Str)) (.int x) = penK c x left := by
  unfold putK penK
  simp [s_ct, s_lt]
theorem pen_putL (c : Addr) (turn left x : Int) : putK (penK c turn left) (Sum.inr ("left" : Str)) (.int x) = penK c turn x := by
  unfold putK penK
  simp [s_cl, s_tl]
theorem pen_len (c : Addr) (turn left : Int) : (penK c turn left).length < sizeLine := small1000 (by show 3 ≤ 1000; decide)
/-- the dict at p, the list of cells at c -/
structure PenOk (H : Hp) (p c : Addr) (t : Nat) : Prop where
  ex : ∃ (cells : List Int) (turn left : Int), H p = some (.dK (penK c turn left)) ∧
    H c = some (.lst (cells.map V.int)) ∧ cells.length ≤ 63 ∧ 0 ≤ turn ∧ turn ≤ t
theorem PenOk.mono {H : Hp} {p c : Addr} {t t' : Nat} (h : PenOk H p c t) (ht : t ≤ t') : PenOk H p c t' := by
  obtain ⟨cells, turn, left, h1, h2, h3, h4, h5⟩ := h.ex
  exact ⟨cells, turn, left, h1, h2, h3, h4, by omega⟩
theorem PenOk.dict {H : Hp} {p c : Addr} {t : Nat} (h : PenOk H p c t) : ∃ kvs, H p = some (.dK kvs) := by
  obtain ⟨cells, turn, left, h1, _⟩ := h.ex
  exact ⟨_, h1⟩
theorem PenOk.cells {H : Hp} {p c : Addr} {t : Nat} (h : PenOk H p c t) : ∃ xs, H c = some (.lst xs) := by
  obtain ⟨cells, turn, left, h1, h2, _⟩ := h.ex
  exact ⟨_, h2⟩
theorem PenOk.same {H H' : Hp} {p c : Addr} {t : Nat} (h : PenOk H p c t) (e : Same H H') : PenOk H' p c t := by
  obtain ⟨cells, turn, left, h1, h2, h3, h4, h5⟩ := h.ex
  exact ⟨cells, turn, left, e _ _ h1, e _ _ h2, h3, h4, h5⟩
theorem PenOk.mut {H : Hp} {p c l : Addr} {o : HO} {t : Nat} (h : PenOk H p c t) (h1 : l ≠ p) (h2 : l ≠ c) : PenOk (upd H l o) p c t := by
  obtain ⟨cells, turn, left, g1, g2, h3, h4, h5⟩ := h.ex
  exact ⟨cells, turn, left, by rw [upd_ne h1.symm]; exact g1, by rw [upd_ne h2.symm]; exact g2, h3, h4, h5⟩

theorem lg_small {n : Nat} (h : n < 1000000) : ((n : Nat) : Int).natAbs.log2 < 9000 := by
  have := PySem.Flt.log2_lt_of (k := 20) (by decide) (show ((n : Nat) : Int).natAbs < 2 ^ 20 by rw [Int.natAbs_natCast]; omega)
  omega
def spPen (K : PySem.W.Frag) : Sp := fun vs H Q _ => ∃ (a : Addr) (ns : List Int), vs = [.ref a] ∧ SqL K H a (ns.map V.int) ∧ ns.length ≤ 63 ∧
  ∀ H' p c, H p = none → Same H H' → PenOk H' p c 0 → Q (.ref p) H'
def spDraw : Sp := fun vs H Q _ => ∃ (p c : Addr) (span : Int) (t : Nat), vs = [.ref p, .int span] ∧ PenOk H p c t ∧ t ≤ 1000000000 ∧ 0 < span ∧ span.natAbs.log2 < 9000 ∧
  ∀ (r : Int) H', 0 ≤ r → r < span → PenOk H' p c (t + 1) → But p H H' → Q (.int r) H'
end Fp

/-! the keys of a dict that the top has written, walked -/
namespace Fp
open PySem PySem.Spec PyProof.Rows L2
def keyTxt (e : DictEntry) : Option Str := match e.key with
  | .str x _ => some x
  | _ => none
/-- the dict at d stands in the written part, its keys are the texts zs -/
structure KKeys (K : PySem.W.Frag) (d : Addr) (zs : List Str) : Prop where
  ex : ∃ (es : Array DictEntry) (n : Nat), K.lookup d = some ⟨.type "dict", none, .dict es n, #[]⟩ ∧ es.toList.map keyTxt = zs.map some
  low : (d == sysModules) = false
theorem KKeys.at {K : PySem.W.Frag} {d : Addr} {zs : List Str} {es : Array DictEntry} {n : Nat} (h : es.toList.map keyTxt = zs.map some) : es.size = zs.length ∧ ∀ (i : Nat) (hi : i < es.size), ∃ z t, zs[i]? = some z ∧ es[i].key = .str z t := by
  have hl : es.size = zs.length := by
    have := congrArg List.length h
    rw [List.length_map, List.length_map] at this
    simpa using this
  refine ⟨hl, fun i hi => ?_⟩
  have hz : i < zs.length := hl ▸ hi
  have e := congrArg (fun l => l[i]?) h
  simp only [List.getElem?_map] at e
  rw [show es.toList[i]? = some es[i] by simp [hi], List.getElem?_eq_getElem hz] at e
  have e2 : keyTxt es[i] = some zs[i] := Option.some.inj e
  refine ⟨zs[i], ?_⟩
  unfold keyTxt at e2
  split at e2
  · rename_i x t hk
    exact ⟨t, List.getElem?_eq_getElem hz, by rw [hk, Option.some.inj e2]⟩
  · cases e2
/-- the keys in their order -/
def ItKK (zs : List Str) : It := ⟨fun i _ => i < zs.length, fun i H x H' => H' = H ∧ ∃ z, zs[i]? = some z ∧ x = .str z, fun i _ => zs.length ≤ i⟩
section
variable {P : Program} {w : World} {K : PySem.W.Frag} {tg : Expr}
theorem turn_kk {d it : Addr} {zs : List Str} {es : Array DictEntry} {n : Nat} (hl : K.lookup d = some ⟨.type "dict", none, .dict es n, #[]⟩) (hk : es.toList.map keyTxt = zs.map some) :
    Turn P w K tg (ItKK zs) [it] it (fun i h => h.IsKeyIter it d i es.size n) where
  mem := by simp
  obj := fun i h st b hb => by
    have e : b = it := by simpa using hb
    subst e
    obtain ⟨oi, e, c, dd⟩ := st
    exact ⟨oi, e, fun v z => by rw [dd] at z; cases z⟩
  keep := fun i h h' st k => st.at fun oi e => k it (by simp) oi e
  item := by
    intro X hP hw hK hc i pins s σ H E I hf st hg
    subst hP hw hK
    obtain ⟨f0, f1, f2, f3, f4, f5⟩ := hf it (by simp)
    obtain ⟨hs, hz⟩ := KKeys.at (K := X.K) (d := d) (n := n) hk
    have hi : i < es.size := by
      have : i < zs.length := hg
      omega
    obtain ⟨z, t, e1, e2⟩ := hz i hi
    have raw : s.heap.DictRaw d es n := ⟨_, I.kIn d _ hl, ⟨rfl, rfl, rfl⟩, rfl⟩
    refine wpAny_pyNext_keys_item_raw st raw hi fun h' st' sb => ?_
    have I1 : Inv X pins σ H { s with heap := h' } := I.turned (t' := s.toks) (fun b ob hb e => (sb.2 b hb).trans e) f0 f1 f3 f4 f5
    obtain ⟨oi, e, c, dd⟩ := id st'
    exact ⟨_, rfl, go_of (s := { s with heap := h' }) e c dd (by decide) ⟨.str z, H, I1, ⟨t, e2⟩, ⟨rfl, z, e1, rfl⟩, st', fun b hb => (hf b hb).1⟩⟩
  done := by
    intro X hP hw hK hc i pins s σ H E I hf st hg
    subst hP hw hK
    obtain ⟨f0, f1, f2, f3, f4, f5⟩ := hf it (by simp)
    obtain ⟨hs, hz⟩ := KKeys.at (K := X.K) (d := d) (n := n) hk
    have raw : s.heap.DictRaw d es n := ⟨_, I.kIn d _ hl, ⟨rfl, rfl, rfl⟩, rfl⟩
    have hi : es.size ≤ i := by
      have : zs.length ≤ i := hg
      omega
    exact wpAny_pyNext_keys_end_raw (I.ok.hd hc) st raw hi fun h' eb => ⟨rfl, I.turned (t' := s.toks) (fun b o hb e => eb b o hb e) f0 f1 f3 f4 f5⟩
  self := fun _ _ _ _ _ st h => wpAny_pyIter_keyiter st h
def iKK (K : PySem.W.Frag) (td : TE) : TI := fun σ H R => td σ H fun x H1 => ∃ d zs, x = .ref d ∧ KKeys K d zs ∧ R (ItKK zs) H1
theorem pi_kk {X : Cx} {e : Expr} {td : TE} (he : PE X e td) : PI X tg e (iKK X.K td) := by
  refine ⟨fun pins s σ H R I h => ?_⟩
  refine thn (he.run pins s σ H _ I h) fun u s1 ⟨x, H1, I1, rx, d, zs, ex, ⟨⟨es, n, hl, hk⟩, low⟩, q⟩ => ?_
  subst ex
  obtain rfl : u = Value.ref d := rx
  have raw : s1.heap.DictRaw d es n := ⟨_, I1.kIn d _ hl, ⟨rfl, rfl, rfl⟩, rfl⟩
  exact wpAny_pyIter_dict_raw low raw (pi_one (tk := s1.toks) I1 _ (turn_kk hl hk) ⟨_, Heap.get?_push_size _ rfl, rfl, rfl⟩ q)
end
end Fp

/-! operators and methods that a class of the text defines -/
namespace Fp
open PySem PySem.Spec PyProof.Rows L2
/-- the def m of the class at C -/
def Mn (P : Program) (w : World) (K : PySem.W.Frag) (mg : Str → Option Value) (base : Heap) (k : Nat) (C : Addr) (m : Str) (ps : List Str) (sp : Sp) : Prop :=
  ∃ g fd, Meth K C m g ∧ Binds K fd ps [] ∧ FnOk P w K mg base CX0 k g fd ps sp
section
variable {X : Cx} {k : Nat} {C : Addr} {m : Str} {ps : List Str} {sp : Sp}
theorem pm {pl : Sem Bool} {o e : Expr} {es : List Expr} {pos apos : Pos} {ta : TE} {t : TA} (c : Cls X.K C) (M : Mn X.prog X.w X.K X.mg X.base k C m ps sp) (hr : Room k X.A) (he : PE X o ta) (ha : PA X (e :: es) t)
    (hst : starEach (e :: es) X.env = (false, eval e X.env) :: starEach es X.env := by rfl) (hpl : (backTo pos (starEach es X.env)).any (·.1) = false := by rfl)
    (ht : eval (.Call (.Attribute o m apos) (e :: es) [] pos) X.env = (do
      let ov ← eval o X.env
      standAt apos.atName
      let (f, first) ← holding [ov] (getMethod ov m pl)
      callWith pos f first (backTo pos (starEach (e :: es) X.env)) (backToKw pos (keywordEach [] X.env))) := by rfl) :
    PE X (.Call (.Attribute o m apos) (e :: es) [] pos) (tMeth C m sp [] E0 ta t) := by
  obtain ⟨g, fd, h1, h2, h3⟩ := M
  exact pe_meth he c h1 h3 hr h2 .nil pass0 ha hst hpl ht
theorem pm0 {pl : Sem Bool} {o : Expr} {pos apos : Pos} {ta : TE} (c : Cls X.K C) (M : Mn X.prog X.w X.K X.mg X.base k C m ps sp) (hr : Room k X.A) (he : PE X o ta)
    (ht : eval (.Call (.Attribute o m apos) [] [] pos) X.env = (do
      let ov ← eval o X.env
      standAt apos.atName
      let (f, first) ← holding [ov] (getMethod ov m pl)
      callWith pos f first (backTo pos (starEach [] X.env)) (backToKw pos (keywordEach [] X.env))) := by rfl) :
    PE X (.Call (.Attribute o m apos) [] [] pos) (tMeth C m sp [] E0 ta tNil) := by
  obtain ⟨g, fd, h1, h2, h3⟩ := M
  exact pe_meth0 he c h1 h3 hr h2 .nil pass0 ht
/-- the class x of the text, made by its __init__ -/
def Kn (P : Program) (w : World) (K : PySem.W.Frag) (mg : Str → Option Value) (base : Heap) (k : Nat) (C : Addr) (ps : List Str) (sp : Sp) : Prop :=
  ∃ g fd, Mk K C g ∧ Binds K fd ps [] ∧ FnOk P w K mg base CX0 k g fd ps sp
theorem pk {x : Str} {e : Expr} {es : List Expr} {p pos : Pos} {t : TA} (M : Kn X.prog X.w X.K X.mg X.base k C ps sp) (hr : Room (k + 1) X.A) (hg : Gl X x) (hm : X.mg x = some (.ref C)) (ha : PA X (e :: es) t)
    (hdb : (x == ("__debug__" : Str)) = false := by decide) (he : starEach (e :: es) X.env = (false, eval e X.env) :: starEach es X.env := by rfl) (hpl : (backTo pos (starEach es X.env)).any (·.1) = false := by rfl) :
    PE X (.Call (.Name x p) (e :: es) [] pos) (tMake C sp [] E0 t) := by
  obtain ⟨g, fd, h1, h2, h3⟩ := M
  exact pe_make h1 h3 hr hg hm h2 .nil pass0 ha hdb he hpl
/-- a property of the class at C -/
def Pn (P : Program) (w : World) (K : PySem.W.Frag) (mg : Str → Option Value) (base : Heap) (k : Nat) (C : Addr) (f : Str) (sp : Sp) : Prop :=
  ∃ p g fd ps, PropOf K C f p g ∧ Binds K fd ps [] ∧ FnOk P w K mg base CX0 k g fd ps sp
theorem pq {f : Str} {e : Expr} {pos : Pos} {ta : TE} (c : Cls X.K C) (M : Pn X.prog X.w X.K X.mg X.base k C f sp) (hr : Room (k + 1) X.A) (he : PE X e ta) (hab : attributeBase e f X.env (eval e X.env) = eval e X.env := by rfl) :
    PE X (.Attribute e f pos) (tProp C sp [] E0 ta) := by
  obtain ⟨p, g, fd, ps, h1, h2, h3⟩ := M
  exact pe_prop he c h1 h3 hr h2 .nil pass0 hab
theorem inst_of {pins : List (Addr × Obj)} {σ : L2.St} {H : Hp} {s : Shared} {a dx : Addr} {fs : List (Str × V)} (I : Inv X pins σ H s) (e : H a = some (.ins C dx fs)) : ∃ od, PySem.W.InstAt s.heap a (PySem.W.instObj C dx) C (some od) := by
  obtain ⟨mA, O, _⟩ := ins_get I.hok e
  obtain ⟨od, J, _⟩ := O.look
  exact ⟨od, J⟩
/-- v in x, x an instance of the class at C -/
def rOwnIn (C : Addr) (neg : Bool) (sp : Sp) : R2 := fun x y H Q => ∃ a dx fs, y = .ref a ∧ H a = some (.ins C dx fs) ∧ sp [.ref a, x] H (fun v H' => ∃ b, v = .bl b ∧ Q (.bl (if neg then !b else b)) H') E0
theorem op_ownIn (M : Mn X.prog X.w X.K X.mg X.base k C "__contains__" ps sp) (hr : Room k X.A) : OpR X (compareOp .In) (rOwnIn C false sp) := by
  intro pins s σ H x y v u Q I rx ry h
  obtain ⟨a, dx, fs, rfl, ha, q⟩ := h
  obtain rfl : u = Value.ref a := ry
  obtain ⟨g, fd, h1, h2, h3⟩ := M
  obtain ⟨od, J⟩ := inst_of I ha
  obtain ⟨m, hF⟩ := I.fr
  refine PySem.W.in_K hF I.ok.mod.kin J h1.at_ h1.fn ?_
  refine wpAny_mono (run_fn (us := [.ref a, v]) (vs := [.ref a, x]) (dvs := []) h3 hr h2 .nil pass0 I (.cons rfl (.cons rx .nil)) q) (fun w s' z => ?_) fun _ _ x => x
  obtain ⟨z', H', I', rz, b, rfl, qz⟩ := z
  cases rz
  exact wpAny_truthy_bool ⟨.bl b, H', I', rfl, qz⟩
theorem op_ownNotIn (M : Mn X.prog X.w X.K X.mg X.base k C "__contains__" ps sp) (hr : Room k X.A) : OpR X (compareOp .NotIn) (rOwnIn C true sp) := by
  intro pins s σ H x y v u Q I rx ry h
  obtain ⟨a, dx, fs, rfl, ha, q⟩ := h
  obtain rfl : u = Value.ref a := ry
  obtain ⟨g, fd, h1, h2, h3⟩ := M
  obtain ⟨od, J⟩ := inst_of I ha
  obtain ⟨m, hF⟩ := I.fr
  refine PySem.W.notIn_K hF I.ok.mod.kin J h1.at_ h1.fn ?_
  refine wpAny_mono (run_fn (us := [.ref a, v]) (vs := [.ref a, x]) (dvs := []) h3 hr h2 .nil pass0 I (.cons rfl (.cons rx .nil)) q) (fun w s' z => ?_) fun _ _ x => x
  obtain ⟨z', H', I', rz, b, rfl, qz⟩ := z
  cases rz
  exact wpAny_truthy_bool ⟨.bl (!b), H', I', rfl, qz⟩
/-- x op y, both instances of the class at C, a comparison -/
def rOwn2 (C : Addr) (sp : Sp) : R2 := fun x y H Q => ∃ a dx fs b dy gs, x = .ref a ∧ y = .ref b ∧ H a = some (.ins C dx fs) ∧ H b = some (.ins C dy gs) ∧ sp [.ref a, .ref b] H Q E0
theorem op_ownCmp {op : CmpOp} (hop : ∀ a b, compareOp op a b = richCompare op a b) (hn : PySem.W.notFirst X.K C (.ref C) = true) (M : Mn X.prog X.w X.K X.mg X.base k C (cmpInfo op).2.1 ps sp) (hr : Room k X.A) : OpR X (compareOp op) (rOwn2 C sp) := by
  intro pins s σ H x y v u Q I rx ry h
  obtain ⟨a, dx, fs, b, dy, gs, rfl, rfl, ha, hb, q⟩ := h
  obtain rfl : v = Value.ref a := rx
  obtain rfl : u = Value.ref b := ry
  obtain ⟨g, fd, h1, h2, h3⟩ := M
  obtain ⟨od, J⟩ := inst_of I ha
  obtain ⟨od', J'⟩ := inst_of I hb
  obtain ⟨m, hF⟩ := I.fr
  rw [hop]
  refine PySem.W.cmp_K (op := op) (tb := .ref C) hr.units0 hF I.ok.mod.kin J J'.type hn h1.at_ h1.fn ?_
  refine wpAny_mono (run_fn (us := [.ref a, .ref b]) (vs := [.ref a, .ref b]) (dvs := []) h3 hr h2 .nil pass0 I (.cons rfl (.cons rfl .nil)) q) (fun w s' z => ?_) fun _ _ x => x
  obtain ⟨z', H', I', rz, qz⟩ := z
  exact SlX.cmpback rz ⟨z', H', I', rz, qz⟩
theorem op_ownBin {op : Operator} (hc : PySem.W.selfFirst X.K C = true) (M : Mn X.prog X.w X.K X.mg X.base k C (PySem.dunder op.info.2) ps sp) (hr : Room k X.A) : OpR X (binaryOp op) (rOwn2 C sp) := by
  intro pins s σ H x y v u Q I rx ry h
  obtain ⟨a, dx, fs, b, dy, gs, rfl, rfl, ha, hb, q⟩ := h
  obtain rfl : v = Value.ref a := rx
  obtain rfl : u = Value.ref b := ry
  obtain ⟨g, fd, h1, h2, h3⟩ := M
  obtain ⟨od, J⟩ := inst_of I ha
  obtain ⟨od', J'⟩ := inst_of I hb
  obtain ⟨m, hF⟩ := I.fr
  refine PySem.W.binop_K (op := op) hF I.ok.mod.kin J J'.type hc h1.at_ h1.fn ?_
  refine wpAny_mono (run_fn (us := [.ref a, .ref b]) (vs := [.ref a, .ref b]) (dvs := []) h3 hr h2 .nil pass0 I (.cons rfl (.cons rfl .nil)) q) (fun w s' z => ?_) fun _ _ x => x
  obtain ⟨z', H', I', rz, qz⟩ := z
  exact SlX.cmpback rz ⟨z', H', I', rz, qz⟩
end
end Fp

/-! loops and comprehensions over a row of values -/
namespace Fp
open PySem PySem.Spec PyProof.Rows L2
/-- the iterator gives the values xs, one a turn, while S holds of the heap -/
structure JSeq (J : It) (xs : List V) (S : Hp → Prop) : Prop where
  go : ∀ i H, S H → i < xs.length → J.go i H
  yld : ∀ i H x H', S H → i < xs.length → J.yld i H x H' → H' = H ∧ xs[i]? = some x
  stop : ∀ i H, S H → xs.length ≤ i → J.stop i H
  same : ∀ H H', S H → Same H H' → S H'
theorem jseq_list (K : PySem.W.Frag) (a : Addr) (xs : List V) : JSeq (Itl K a) xs (fun H => SqL K H a xs) :=
  ⟨fun i H h hi => ⟨xs, xs[i], h, List.getElem?_eq_getElem hi⟩, fun i H x H' h _ y => ⟨y.1, y.2 xs h⟩, fun i H h hi => ⟨xs, h, hi⟩, fun H H' h e => e.seq h⟩
theorem same_tup {K : PySem.W.Frag} {H H' : Hp} {a : Addr} {xs : List V} (e : Same H H') (h : SqT K H a xs) : SqT K H' a xs := by
  rcases h with (h | ⟨o, h⟩) | h
  · exact .inl (.inl (e _ _ h))
  · exact .inl (.inr ⟨o, e _ _ h⟩)
  · exact .inr h
theorem jseq_tup (K : PySem.W.Frag) (a : Addr) (xs : List V) : JSeq (Itt K a) xs (fun H => SqT K H a xs) :=
  ⟨fun i H h hi => ⟨xs, xs[i], h, List.getElem?_eq_getElem hi⟩, fun i H x H' h _ y => ⟨y.1, y.2 xs h⟩, fun i H h hi => ⟨xs, h, hi⟩, fun H H' h e => same_tup e h⟩
theorem jseq_kk (zs : List Str) : JSeq (ItKK zs) (zs.map V.str) (fun _ => True) :=
  ⟨fun i H h hi => by rw [List.length_map] at hi; exact hi, fun i H x H' h _ y => by
    obtain ⟨e, z, h1, rfl⟩ := y
    exact ⟨e, by rw [List.getElem?_map, h1]; rfl⟩, fun i H h hi => by rw [List.length_map] at hi; exact hi, fun _ _ h _ => h⟩
def rngV (lo : Int) (n : Nat) : List V := (List.range n).map fun (i : Nat) => V.int (lo + i)
theorem rngV_len (lo : Int) (n : Nat) : (rngV lo n).length = n := by
  unfold rngV
  rw [List.length_map, List.length_range]
theorem rngV_at {lo : Int} {n i : Nat} (h : i < n) : (rngV lo n)[i]? = some (.int (lo + i)) := by
  unfold rngV
  rw [List.getElem?_map, List.getElem?_range h]
  rfl
theorem jseq_rng (lo : Int) (n : Nat) : JSeq (Itr lo n) (rngV lo n) (fun _ => True) :=
  ⟨fun i H _ hi => by rw [rngV_len] at hi; exact hi, fun i H x H' _ hi y => by
    obtain ⟨h1, h2⟩ := y
    rw [rngV_len] at hi
    exact ⟨h1, by rw [rngV_at hi, h2]⟩, fun i H _ hi => by rw [rngV_len] at hi; exact hi, fun _ _ h _ => h⟩

/-! ### the walk, once the iterator is there -/
def LcG (J : It) (g : TG) (tt : TT) (te : TE) (vs : List Nat) (σ : L2.St) (H : Hp) (Q : VK) : Prop := tLc (fun _ H R => R J H) g tt te vs σ H Q
def ForG (J : It) (g : TG) (tb : TS) (D : Ends) (σ : L2.St) (H : Hp) : Prop := tFor (fun _ H R => R J H) g tb D σ H
section
variable {K : PySem.W.Frag} {tl : TE} {ta : TA} {g : TG} {tt : TT} {te : TE} {tb : TS} {D : Ends} {vs : List Nat} {σ : L2.St} {H : Hp} {Q : VK}
theorem lc_iL : tLc (iList K tl) g tt te vs σ H Q = tl σ H (fun x H1 => ∃ a, x = .ref a ∧ (∃ xs, SqL K H1 a xs) ∧ LcG (Itl K a) g tt te vs σ H1 Q) := rfl
theorem lc_iT : tLc (iTup K tl) g tt te vs σ H Q = tl σ H (fun x H1 => ∃ a, x = .ref a ∧ (∃ xs, SqT K H1 a xs) ∧ LcG (Itt K a) g tt te vs σ H1 Q) := rfl
theorem lc_iK : tLc (iKK K tl) g tt te vs σ H Q = tl σ H (fun x H1 => ∃ d zs, x = .ref d ∧ KKeys K d zs ∧ LcG (ItKK zs) g tt te vs σ H1 Q) := rfl
theorem lc_iR : tLc (iRng1 ta) g tt te vs σ H Q = ta σ H (fun zs H1 => ∃ j : Int, zs = [.int j] ∧ -(2 ^ 62) ≤ j ∧ j < 2 ^ 62 ∧ LcG (Itr 0 j.toNat) g tt te vs σ H1 Q) := rfl
theorem fr_iL : tFor (iList K tl) g tb D σ H = tl σ H (fun x H1 => ∃ a, x = .ref a ∧ (∃ xs, SqL K H1 a xs) ∧ ForG (Itl K a) g tb D σ H1) := rfl
theorem fr_iT : tFor (iTup K tl) g tb D σ H = tl σ H (fun x H1 => ∃ a, x = .ref a ∧ (∃ xs, SqT K H1 a xs) ∧ ForG (Itt K a) g tb D σ H1) := rfl
theorem fr_iR : tFor (iRng1 ta) g tb D σ H = ta σ H (fun zs H1 => ∃ j : Int, zs = [.int j] ∧ -(2 ^ 62) ≤ j ∧ j < 2 ^ 62 ∧ ForG (Itr 0 j.toNat) g tb D σ H1) := rfl
variable {J : It} {xs : List V} {S : Hp → Prop}
/-- a comprehension by a word P of: the turn, the list so far (it stands at D), the heap -/
theorem lcg_by (hJ : JSeq J xs S) (P : Addr → Nat → List V → Hp → Prop) (h0 : ∀ D, H D = none → P D 0 [] (upd H D (.lst [])))
    (hP : ∀ D i acc H', H D = none → i ≤ xs.length → P D i acc H' → S H')
    (hs : ∀ D i x acc H', H D = none → xs[i]? = some x → P D i acc H' → g x (wipe σ vs) H' fun σ2 H2 => wipe σ2 vs = wipe σ vs ∧ tt σ2 H2 fun b H3 =>
      if b = true then te σ2 H3 fun y H4 => ∃ acc, H4 D = some (.lst acc) ∧ acc.length < sizeLine ∧ (∃ acc', P D (i + 1) acc' (upd H4 D (.lst (acc ++ [y])))) else ∃ acc', P D (i + 1) acc' H3)
    (hd : ∀ D acc H', H D = none → P D xs.length acc H' → Q (.ref D) H') : LcG J g tt te vs σ H Q := by
  intro D hD
  refine ⟨fun i m H' => m = xs.length - i ∧ i ≤ xs.length ∧ ∃ acc, P D i acc H', ⟨xs.length, by simp, Nat.zero_le _, [], h0 D hD⟩, ?_⟩
  rintro i m H' ⟨rfl, hi, acc, p⟩
  have hS := hP D i acc H' hD hi p
  by_cases hlt : i < xs.length
  · refine .inr ⟨hJ.go i H' hS hlt, fun H'' => ∃ acc, P D (i + 1) acc H'', fun H'' ⟨acc', p'⟩ => ⟨xs.length - (i + 1), by omega, rfl, hlt, acc', p'⟩, fun x H'' y => ?_⟩
    obtain ⟨rfl, hx⟩ := hJ.yld i H' x H'' hS hlt y
    exact hs D i x acc _ hD hx p
  · have e : i = xs.length := by omega
    subst e
    exact .inl ⟨hJ.stop _ H' hS (Nat.le_refl _), hd D acc H' hD p⟩
theorem filter_map_take {fb : V → Bool} {fv : V → V} {i : Nat} {x : V} (hx : xs[i]? = some x) :
    ((xs.take (i + 1)).filter fb).map fv = ((xs.take i).filter fb).map fv ++ (if fb x = true then [fv x] else []) := by
  rw [List.take_add_one, hx, List.filter_append, List.map_append]
  cases h : fb x with
  | true => simp [h]
  | false => simp [h]
/-- a comprehension whose tests and items change nothing that stands -/
theorem lcg_pure (hJ : JSeq J xs S) (hS : S H) (hz : xs.length < 100000) (fb : V → Bool) (fv : V → V)
    (hs : ∀ x, x ∈ xs → ∀ H', Same H H' → ∀ (R1 : V → Hp → Prop) (R0 : Hp → Prop), (fb x = true → ∀ H'', Same H' H'' → R1 (fv x) H'') → (fb x = false → ∀ H'', Same H' H'' → R0 H'') →
      g x (wipe σ vs) H' fun σ2 H2 => wipe σ2 vs = wipe σ vs ∧ tt σ2 H2 fun b H3 => if b = true then te σ2 H3 R1 else R0 H3)
    (hd : ∀ D H', H D = none → Same H H' → H' D = some (.lst ((xs.filter fb).map fv)) → Q (.ref D) H') : LcG J g tt te vs σ H Q := by
  refine lcg_by hJ (fun D i acc H' => Same H H' ∧ H' D = some (.lst acc) ∧ acc = ((xs.take i).filter fb).map fv) (fun D hD => ⟨same_new hD, upd_same, rfl⟩)
    (fun D i acc H' _ _ p => hJ.same _ _ hS p.1) (fun D i x acc H' hD hx p => ?_) (fun D acc H' hD p => ?_)
  · obtain ⟨p1, p2, rfl⟩ := p
    have hi : i < xs.length := (List.getElem?_eq_some_iff.mp hx).1
    refine hs x (List.mem_of_getElem? hx) H' p1 _ _ (fun hb H'' e => ?_) (fun hb H'' e => ?_)
    · refine ⟨((xs.take i).filter fb).map fv, e _ _ p2, ?_, _, Same.mut (p1.trans e) hD, upd_same, ?_⟩
      · refine Nat.lt_of_lt_of_le (Nat.lt_of_le_of_lt (?_ : _ ≤ xs.length) hz) (by decide)
        rw [List.length_map]
        exact Nat.le_trans (List.length_filter_le _ _) (by rw [List.length_take]; exact Nat.min_le_right _ _)
      · rw [filter_map_take hx, if_pos hb]
    · refine ⟨_, p1.trans e, e _ _ p2, ?_⟩
      rw [filter_map_take hx, if_neg (by rw [hb]; decide), List.append_nil]
  · obtain ⟨p1, p2, rfl⟩ := p
    rw [List.take_length] at p2
    exact hd D H' hD p1 p2
/-- a for by a word P of: the turn, the slots, the heap -/
theorem forg_by (hJ : JSeq J xs S) (P : Nat → L2.St → Hp → Prop) (h0 : P 0 σ H) (hP : ∀ i σ' H', i ≤ xs.length → P i σ' H' → S H')
    (hs : ∀ i x σ' H', xs[i]? = some x → P i σ' H' → g x σ' H' fun σ2 H2 => tb { D with nx := P (i + 1), ct := P (i + 1), bk := D.nx } σ2 H2) (hd : ∀ σ' H', P xs.length σ' H' → D.nx σ' H') : ForG J g tb D σ H := by
  refine ⟨fun i m σ' H' => m = xs.length - i ∧ i ≤ xs.length ∧ P i σ' H', ⟨xs.length, by simp, Nat.zero_le _, h0⟩, ?_⟩
  rintro i m σ' H' ⟨rfl, hi, p⟩
  have hS := hP i σ' H' hi p
  by_cases hlt : i < xs.length
  · refine .inr ⟨hJ.go i H' hS hlt, P (i + 1), fun σ'' H'' p' => ⟨xs.length - (i + 1), by omega, rfl, hlt, p'⟩, fun x H'' y => ?_⟩
    obtain ⟨rfl, hx⟩ := hJ.yld i H' x H'' hS hlt y
    exact hs i x σ' _ hx p
  · have e : i = xs.length := by omega
    subst e
    exact .inl ⟨hJ.stop _ H' hS (Nat.le_refl _), hd σ' H' p⟩
end
end Fp

/-! data that stands in the heap: lists and tuples of ints, texts, bools, None, nested -/
namespace Fp
open PySem PySem.Spec PyProof.Rows L2
mutual
inductive Dt (H : Hp) : V → PyData → Prop
  | non : Dt H .non .none
  | bl (b : Bool) : Dt H (.bl b) (.bool b)
  | int (i : Int) : Dt H (.int i) (.int i)
  | str (x : Str) : Dt H (.str x) (.str x)
  | lst {a : Addr} {xs : List V} {ds : List PyData} : H a = some (.lst xs) → Dts H xs ds → Dt H (.ref a) (.list ds)
  | tup {a : Addr} {xs : List V} {ds : List PyData} : H a = some (.tup xs) → Dts H xs ds → Dt H (.ref a) (.tuple ds)
inductive Dts (H : Hp) : List V → List PyData → Prop
  | nil : Dts H [] []
  | cons {v : V} {vs : List V} {d : PyData} {ds : List PyData} : Dt H v d → Dts H vs ds → Dts H (v :: vs) (d :: ds)
end
mutual
theorem Dt.same {H H' : Hp} (e : Same H H') : ∀ {d : PyData} {v : V}, Dt H v d → Dt H' v d
  | .none, _, .non => .non
  | .bool _, _, .bl b => .bl b
  | .int _, _, .int i => .int i
  | .str _, _, .str x => .str x
  | .list ds, _, .lst h t => .lst (e _ _ h) (Dts.same e t)
  | .tuple ds, _, .tup h t => .tup (e _ _ h) (Dts.same e t)
theorem Dts.same {H H' : Hp} (e : Same H H') : ∀ {ds : List PyData} {vs : List V}, Dts H vs ds → Dts H' vs ds
  | [], _, .nil => .nil
  | _ :: _, _, .cons h t => .cons (Dt.same e h) (Dts.same e t)
end
mutual
/-- a dict that changes is no part of data -/
theorem Dt.but {H H' : Hp} {p : Addr} {kvs : List (Key × V)} (hp : H p = some (.dK kvs)) (e : But p H H') : ∀ {d : PyData} {v : V}, Dt H v d → Dt H' v d
  | .none, _, .non => .non
  | .bool _, _, .bl b => .bl b
  | .int _, _, .int i => .int i
  | .str _, _, .str x => .str x
  | .list ds, _, .lst h t => .lst (e.1 _ _ h (ne_of h hp (by intro z; cases z))) (Dts.but hp e t)
  | .tuple ds, _, .tup h t => .tup (e.1 _ _ h (ne_of h hp (by intro z; cases z))) (Dts.but hp e t)
theorem Dts.but {H H' : Hp} {p : Addr} {kvs : List (Key × V)} (hp : H p = some (.dK kvs)) (e : But p H H') : ∀ {ds : List PyData} {vs : List V}, Dts H vs ds → Dts H' vs ds
  | [], _, .nil => .nil
  | _ :: _, _, .cons h t => .cons (Dt.but hp e h) (Dts.but hp e t)
end
mutual
theorem Dt.dp {K : PySem.W.Frag} {H : Hp} : ∀ {d : PyData} {v : V}, Dt H v d → Dp K H v d
  | .none, _, .non => .non
  | .bool _, _, .bl b => .bl b
  | .int _, _, .int i => .int i
  | .str _, _, .str x => .str x
  | .list ds, _, .lst h t => .lst (.inl (.inl h)) (Dts.dp t)
  | .tuple ds, _, .tup h t => .tup (.inl (.inl h)) (Dts.dp t)
theorem Dts.dp {K : PySem.W.Frag} {H : Hp} : ∀ {ds : List PyData} {vs : List V}, Dts H vs ds → DpAll K H vs ds
  | [], _, .nil => .nil
  | _ :: _, _, .cons h t => .cons (Dt.dp h) (Dts.dp t)
end
theorem Dts.len {H : Hp} : ∀ {ds : List PyData} {vs : List V}, Dts H vs ds → vs.length = ds.length
  | _, _, .nil => rfl
  | _, _, .cons _ t => by rw [List.length_cons, List.length_cons, Dts.len t]
theorem Dts.app {H : Hp} : ∀ {ds es : List PyData} {vs ws : List V}, Dts H vs ds → Dts H ws es → Dts H (vs ++ ws) (ds ++ es)
  | _, _, _, _, .nil, s => s
  | _, _, _, _, .cons h t, s => .cons h (Dts.app t s)
theorem Dts.get {H : Hp} : ∀ {ds : List PyData} {vs : List V} {i : Nat} {d : PyData}, Dts H vs ds → ds[i]? = some d → ∃ v, vs[i]? = some v ∧ Dt H v d
  | _, _, i, d, .nil, h => by simp at h
  | _, _, 0, d, .cons h t, e => by cases e; exact ⟨_, rfl, h⟩
  | _, _, i + 1, d, .cons h t, e => Dts.get (i := i) t e
theorem Dts.erase {H : Hp} : ∀ {ds : List PyData} {vs : List V} (i : Nat), Dts H vs ds → Dts H (vs.eraseIdx i) (ds.eraseIdx i)
  | _, _, _, .nil => .nil
  | _, _, 0, .cons _ t => t
  | _, _, i + 1, .cons h t => .cons h (Dts.erase i t)
theorem Dts.strs {H : Hp} : ∀ {zs : List Str} {vs : List V}, Dts H vs (zs.map PyData.str) → vs = zs.map V.str
  | [], _, .nil => rfl
  | z :: r, _, .cons (.str _) t => by rw [Dts.strs t]; rfl
theorem Dts.ints {H : Hp} : ∀ {zs : List Int} {vs : List V}, Dts H vs (zs.map PyData.int) → vs = zs.map V.int
  | [], _, .nil => rfl
  | z :: r, _, .cons (.int _) t => by rw [Dts.ints t]; rfl
theorem dts_strs {H : Hp} : ∀ zs : List Str, Dts H (zs.map V.str) (zs.map PyData.str)
  | [] => .nil
  | z :: r => .cons (.str z) (dts_strs r)
theorem dts_ints {H : Hp} : ∀ zs : List Int, Dts H (zs.map V.int) (zs.map PyData.int)
  | [] => .nil
  | z :: r => .cons (.int z) (dts_ints r)

theorem Dt.pair {H : Hp} {v : V} {d e : PyData} (h : Dt H v (.tuple [d, e])) : ∃ a x y, v = .ref a ∧ H a = some (.tup [x, y]) ∧ Dt H x d ∧ Dt H y e := by
  cases h with
  | tup h1 t1 =>
    cases t1 with
    | cons h2 t2 =>
      cases t2 with
      | cons h3 t3 =>
        cases t3
        exact ⟨_, _, _, rfl, h1, h2, h3⟩
theorem Dt.txt {H : Hp} {v : V} {z : Str} (h : Dt H v (.str z)) : v = .str z := by
  cases h
  rfl
theorem Dt.num {H : Hp} {v : V} {z : Int} (h : Dt H v (.int z)) : v = .int z := by
  cases h
  rfl
theorem Dt.list {H : Hp} {v : V} {ds : List PyData} (h : Dt H v (.list ds)) : ∃ a xs, v = .ref a ∧ H a = some (.lst xs) ∧ Dts H xs ds := by
  cases h with
  | lst h1 t1 => exact ⟨_, _, rfl, h1, t1⟩
theorem Dt.tuple {H : Hp} {v : V} {ds : List PyData} (h : Dt H v (.tuple ds)) : ∃ a xs, v = .ref a ∧ H a = some (.tup xs) ∧ Dts H xs ds := by
  cases h with
  | tup h1 t1 => exact ⟨_, _, rfl, h1, t1⟩

/-! ### what evaluates to data, leaving all that stands -/
def EvD (te : TE) (σ : L2.St) (H : Hp) (d : PyData) : Prop := ∀ H1, Same H H1 → ∀ Q : VK, (∀ v H2, Same H1 H2 → Dt H2 v d → Q v H2) → te σ H1 Q
def EvDs (ta : TA) (σ : L2.St) (H : Hp) (ds : List PyData) : Prop := ∀ H1, Same H H1 → ∀ Q : List V → Hp → Prop, (∀ vs H2, Same H1 H2 → Dts H2 vs ds → Q vs H2) → ta σ H1 Q
section
variable {K : PySem.W.Frag} {σ : L2.St} {H H' : Hp} {ta tb te : TE} {tr : TA} {d e : PyData} {ds es : List PyData}
theorem d_str {z : Str} : EvD (tC (.str z)) σ H (.str z) := fun H1 _ Q q => q _ H1 (Same.refl _) (.str z)
theorem d_int {z : Int} : EvD (tC (.int z)) σ H (.int z) := fun H1 _ Q q => q _ H1 (Same.refl _) (.int z)
theorem d_non : EvD (tC .non) σ H .none := fun H1 _ Q q => q _ H1 (Same.refl _) .non
theorem d_var {i : Nat} {v : V} (h : σ[i]? = some (some v)) (hd : Dt H v d) : EvD (tVar i) σ H d := fun H1 e Q q => ⟨v, h, q _ H1 (Same.refl _) (hd.same e)⟩
theorem d_nil : EvDs tNil σ H [] := fun H1 _ Q q => q _ H1 (Same.refl _) .nil
theorem d_cons (h : EvD ta σ H d) (t : EvDs tr σ H ds) : EvDs (tCons ta tr) σ H (d :: ds) := fun H1 e1 Q q =>
  h H1 e1 _ fun v H2 e2 hv => t H2 (e1.trans e2) _ fun vs H3 e3 hvs => q _ H3 (e2.trans e3) (.cons (hv.same e3) hvs)
theorem d_tup (t : EvDs tr σ H ds) (hl : ds.length ≤ 1000) : EvD (tTup tr) σ H (.tuple ds) := fun H1 e1 Q q =>
  t H1 e1 _ fun vs H2 e2 hvs => ⟨Nat.le_of_lt (small1000 (by rw [hvs.len]; exact hl)), fun p hp => q _ _ (Same.new e2 hp) (.tup upd_same (hvs.same (same_new hp)))⟩
theorem d_lst (t : EvDs tr σ H ds) (hl : ds.length ≤ 1000) : EvD (tLst tr) σ H (.list ds) := fun H1 e1 Q q =>
  t H1 e1 _ fun vs H2 e2 hvs => ⟨Nat.le_of_lt (small1000 (by rw [hvs.len]; exact hl)), fun p hp => q _ _ (Same.new e2 hp) (.lst upd_same (hvs.same (same_new hp)))⟩
theorem d_cat (ha : EvD ta σ H (.list ds)) (hb : EvD tb σ H (.list es)) (hl : ds.length + es.length ≤ 1000) : EvD (tOp rCat ta tb) σ H (.list (ds ++ es)) := fun H1 e1 Q q =>
  ha H1 e1 _ fun v H2 e2 hv => hb H2 (e1.trans e2) _ fun w H3 e3 hw => by
    cases hv with
    | lst h1 t1 =>
      cases hw with
      | lst h2 t2 =>
        exact ⟨_, _, _, _, rfl, rfl, e3 _ _ h1, h2, Nat.le_of_lt (small1000 (by rw [t1.len, t2.len]; exact hl)), fun p hp => q _ _ (Same.new (e2.trans e3) hp) (.lst upd_same (((t1.same e3).app t2).same (same_new hp)))⟩
theorem EvD.mono (h : EvD te σ H d) (e : Same H H') : EvD te σ H' d := fun H1 e1 Q q => h H1 (e.trans e1) Q q
theorem EvD.go {Q : VK} (h : EvD te σ H d) (q : ∀ v H2, Same H H2 → Dt H2 v d → Q v H2) : te σ H Q := h H (Same.refl _) Q q
/-- a call of a def that gives data -/
theorem d_call {sp : Sp} (h : EvDs tr σ H ds) (hs : ∀ vs H1, Same H H1 → Dts H1 vs ds → ∀ Q : VK, (∀ v H2, Same H1 H2 → Dt H2 v d → Q v H2) → sp vs H1 Q E0) : EvD (tCall sp [] E0 tr) σ H d := fun H1 e1 Q q =>
  h H1 e1 _ fun vs H2 e2 hvs => by
    rw [List.append_nil]
    exact hs vs H2 (e1.trans e2) hvs Q fun v H3 e3 hv => q v H3 (e2.trans e3) hv
end
section
variable {σ : L2.St} {H : Hp} {D : Ends} {te : TE} {d : PyData} {u : TS} {i : Nat}
theorem s_asgD (h : EvD te σ H d) (k : ∀ v H1, Same H H1 → Dt H1 v d → D.nx (σ.set i (some v)) H1) : tAsg te (gName i) D σ H := h.go fun v H1 e hv => k v H1 e hv
theorem q_asgD (h : EvD te σ H d) (k : ∀ v H1, Same H H1 → Dt H1 v d → u D (σ.set i (some v)) H1) : tSeq (tAsg te (gName i)) u D σ H := h.go fun v H1 e hv => k v H1 e hv
theorem s_retD (h : EvD te σ H d) (k : ∀ v H1, Same H H1 → Dt H1 v d → D.rt v H1) : tRet te D σ H := h.go fun v H1 e hv => k v H1 e hv
end
theorem eq_nilD {K : PySem.W.Frag} {H : Hp} {v : V} {q : Addr} {ds : List PyData} {Q : VK} (h : Dt H v (.list ds)) (hs : SeqAt.shaped (.list ds) = true) (hq : H q = some (.lst [])) (k : Q (.bl ds.isEmpty) H) : rEqD K v (.ref q) H Q := by
  obtain ⟨a, xs, rfl, ha, ht⟩ := h.list
  refine eq_nil (.inl (.inl ha)) ht.dp hs hq ?_
  have hl := ht.len
  cases ds with
  | nil => rw [List.length_eq_zero_iff.mp hl]; exact k
  | cons d r =>
    cases xs with
    | nil => cases hl
    | cons x y => exact k
theorem ne_nilD {K : PySem.W.Frag} {H : Hp} {v : V} {q : Addr} {ds : List PyData} {Q : VK} (h : Dt H v (.list ds)) (hs : SeqAt.shaped (.list ds) = true) (hq : H q = some (.lst [])) (k : Q (.bl (!ds.isEmpty)) H) : rNeD K v (.ref q) H Q := by
  obtain ⟨a, xs, rfl, ha, ht⟩ := h.list
  refine ne_nil (.inl (.inl ha)) ht.dp hs hq ?_
  have hl := ht.len
  cases ds with
  | nil => rw [List.length_eq_zero_iff.mp hl]; exact k
  | cons d r =>
    cases xs with
    | nil => cases hl
    | cons x y => exact k
/-! ### texts in lists -/
theorem flat_strs (zs : List Str) : (zs.map V.str).all flatV = true := by
  rw [List.all_map]
  exact List.all_eq_true.mpr fun z _ => rfl
theorem inV_strs (z : Str) (zs : List Str) : inV (.str z) (zs.map V.str) = decide (z ∈ zs) := by
  unfold inV
  rw [List.any_map]
  induction zs with
  | nil => rfl
  | cons y r ih =>
    rw [List.any_cons, ih]
    by_cases h : z = y
    · subst h
      simp [eqV]
    · simp [eqV, h]
      intro e
      exact absurd e.symm h
/-! ### comprehensions over data, whose items stood before -/
section
variable {K : PySem.W.Frag} {g : TG} {tt : TT} {te : TE} {vs : List Nat} {σ : L2.St} {H : Hp} {Q : VK} {J : It} {xs : List V} {S : Hp → Prop} {α : Type}
theorem lcg_old (hJ : JSeq J xs S) (hS : S H) (as : List α) (dat : α → PyData) (hxs : Dts H xs (as.map dat)) (hz : as.length < 100000) (fb : α → Bool) (fv : α → PyData)
    (hs : ∀ x a, a ∈ as → Dt H x (dat a) → ∀ H', Same H H' → ∀ (R1 : V → Hp → Prop) (R0 : Hp → Prop), (fb a = true → ∀ v H'', Same H' H'' → Dt H v (fv a) → R1 v H'') → (fb a = false → ∀ H'', Same H' H'' → R0 H'') →
      g x (wipe σ vs) H' fun σ2 H2 => wipe σ2 vs = wipe σ vs ∧ tt σ2 H2 fun b H3 => if b = true then te σ2 H3 R1 else R0 H3)
    (hd : ∀ D H', H D = none → Same H H' → Dt H' (.ref D) (.list ((as.filter fb).map fv)) → Q (.ref D) H') : LcG J g tt te vs σ H Q := by
  have hlen : xs.length = as.length := by rw [hxs.len, List.length_map]
  refine lcg_by hJ (fun D i acc H' => Same H H' ∧ H' D = some (.lst acc) ∧ Dts H acc (((as.take i).filter fb).map fv)) (fun D hD => ⟨same_new hD, upd_same, .nil⟩)
    (fun D i acc H' _ _ p => hJ.same _ _ hS p.1) (fun D i x acc H' hD hx p => ?_) (fun D acc H' hD p => ?_)
  · obtain ⟨p1, p2, p3⟩ := p
    have hi : i < as.length := hlen ▸ (List.getElem?_eq_some_iff.mp hx).1
    have ha : as[i]? = some as[i] := List.getElem?_eq_getElem hi
    obtain ⟨x', hx', hdx⟩ := hxs.get (i := i) (d := dat as[i]) (by rw [List.getElem?_map, ha]; rfl)
    rw [hx] at hx'
    cases hx'
    have tk : (((as.take (i + 1)).filter fb).map fv) = ((as.take i).filter fb).map fv ++ (if fb as[i] = true then [fv as[i]] else []) := by
      rw [List.take_add_one, ha, List.filter_append, List.map_append]
      cases h : fb as[i] with
      | true => simp [h]
      | false => simp [h]
    refine hs x as[i] (List.getElem_mem hi) hdx H' p1 _ _ (fun hb v H'' e hv => ?_) (fun hb H'' e => ?_)
    · refine ⟨acc, e _ _ p2, ?_, acc ++ [v], Same.mut (p1.trans e) hD, upd_same, ?_⟩
      · refine Nat.lt_of_lt_of_le (Nat.lt_of_le_of_lt (?_ : _ ≤ as.length) hz) (by decide)
        rw [p3.len, List.length_map]
        exact Nat.le_trans (List.length_filter_le _ _) (by rw [List.length_take]; exact Nat.min_le_right _ _)
      · rw [tk, if_pos hb]
        exact p3.app (.cons hv .nil)
    · refine ⟨acc, p1.trans e, e _ _ p2, ?_⟩
      rw [tk, if_neg (by rw [hb]; decide), List.append_nil]
      exact p3
  · obtain ⟨p1, p2, p3⟩ := p
    rw [hlen, List.take_length] at p3
    exact hd D H' hD p1 (.lst p2 (p3.same p1))
end
/-- a promise: from data to data -/
def spD (F : List PyData → Option PyData) : Sp := fun vs H Q _ => ∃ ds d, Dts H vs ds ∧ F ds = some d ∧ ∀ v H', Same H H' → Dt H' v d → Q v H'
theorem d_callF {σ : L2.St} {H : Hp} {tr : TA} {ds : List PyData} {d : PyData} {F : List PyData → Option PyData} (h : EvDs tr σ H ds) (hF : F ds = some d) : EvD (tCall (spD F) [] E0 tr) σ H d :=
  d_call h fun vs H1 e1 hvs Q q => ⟨ds, d, hvs, hF, q⟩
end Fp

/-! the rules with the written part told by name -/
namespace Fp
open PySem PySem.Spec PyProof.Rows L2
section
variable {X : Cx} (K : PySem.W.Frag)
theorem op_inK (hK : X.K = K := by rfl) : OpR X (compareOp .In) (rIn K false) := hK ▸ op_in_seq
theorem op_notInK (hK : X.K = K := by rfl) : OpR X (compareOp .NotIn) (rIn K true) := hK ▸ op_notIn_seq
theorem op_eqDK (hu : X.A.units + 64 < cLine) (hK : X.K = K := by rfl) : OpR X (compareOp .Eq) (rEqD K) := hK ▸ op_eqD hu
theorem op_neDK (hu : X.A.units + 64 < cLine) (hK : X.K = K := by rfl) : OpR X (compareOp .NotEq) (rNeD K) := hK ▸ op_neD hu
theorem call_lenK (hK : X.K = K := by rfl) : CallR X (.builtin "len") (rLenL K) := hK ▸ call_lenL
theorem call_listK (hK : X.K = K := by rfl) : CallR X (.type "list") (rListL K) := hK ▸ call_listL
theorem call_listTK (hK : X.K = K := by rfl) : CallR X (.type "list") (rListT K) := hK ▸ call_listT
def rTupL (K : PySem.W.Frag) : List V → Hp → VK → Prop := fun xs H Q => ∃ p ys, xs = [.ref p] ∧ SqL K H p ys ∧ ∀ l, H l = none → Q (.ref l) (upd H l (.tup ys))
theorem call_tupleK (hK : X.K = K := by rfl) : CallR X (.type "tuple") (rTupL K) := by
  subst hK
  intro pins s σ H xs us Q I r h
  obtain ⟨p, ys, e, h1, q⟩ := h
  exact call_tuple_of pins s σ H xs us Q I r ⟨p, ys, e, .inl ⟨h1, q⟩⟩
theorem call_allK (hc : X.calm = true) (hK : X.K = K := by rfl) : CallR X (.builtin "all") (rAll K) := hK ▸ cr_all hc
theorem ix_listK (hK : X.K = K := by rfl) : IxR X (rIxL K) := hK ▸ ix_list
theorem ix_tupK (hK : X.K = K := by rfl) : IxR X (rIxT K) := hK ▸ ix_tup
theorem ix_kdK (w : World) (hK : X.K = K := by rfl) (hw : X.w = w := by rfl) : IxR X (rIxD K w) := by
  subst hK hw
  exact ix_kdict
theorem sl_listK (hK : X.K = K := by rfl) : SlR X (rSlL K) := hK ▸ sl_list
variable {tg e o : Expr} {td : TE} {t : TA}
theorem pi_listK (he : PE X e td) (hK : X.K = K := by rfl) : PI X tg e (iList K td) := hK ▸ pi_list he
theorem pi_tupK (he : PE X e td) (hK : X.K = K := by rfl) : PI X tg e (iTup K td) := hK ▸ pi_tup he
theorem pi_kkK (he : PE X e td) (hK : X.K = K := by rfl) : PI X tg e (iKK K td) := hK ▸ pi_kk he
theorem pe_fldK {f : Str} {pos : Pos} (ho : PE X o td) (hb : attributeBase o f X.env (eval o X.env) = eval o X.env) (hK : X.K = K := by rfl) : PE X (.Attribute o f pos) (tFld K td f) := hK ▸ pe_fld ho hb
theorem ps_fldK {f : Str} {pos pos' : Pos} {v : Expr} {tv : TE} (ho : PE X o td) (hv : PE X v tv) (hs : swapsWith v (some (.Attribute o f pos')) pos.line X.env = pure false) (hK : X.K = K := by rfl) : PS X (.Assign [.Attribute o f pos'] v pos) (sFld K td tv f) := hK ▸ ps_fld ho hv hs
theorem pg_tupK {es : List Expr} {k n : Nat} {pos : Pos} {u : List V → L2.St → Hp → (L2.St → Hp → Prop) → Prop} (h : PG X (.Tuple es k pos) (gTup X.K n u)) (hK : X.K = K := by rfl) : PG X (.Tuple es k pos) (gTup K n u) := hK ▸ h
section
variable {T : String} {name : Str} {id : String} {to : TE} {r : V → List V → Hp → VK → Prop} {apos cpos : Pos} {es : List Expr}
theorem pe_bmK (hK : X.K = K := by rfl) (h : PE X (.Call (.Attribute o name apos) es [] cpos) (tBM X.K T r to t)) : PE X (.Call (.Attribute o name apos) es [] cpos) (tBM K T r to t) := hK ▸ h
theorem pe_bm0K (hK : X.K = K := by rfl) (h : PE X (.Call (.Attribute o name apos) es [] cpos) (tBM0 X.K T r to)) : PE X (.Call (.Attribute o name apos) es [] cpos) (tBM0 K T r to) := hK ▸ h
end
end
end Fp

/-! x != y where the class has an own __eq__ and no own __ne__ -/
namespace Fp
open PySem PySem.Spec PyProof.Rows L2
section
variable {X : Cx} {k : Nat} {C : Addr} {ps : List Str} {sp : Sp}
def rOwnNe (C : Addr) (sp : Sp) : R2 := fun x y H Q => ∃ a dx fs b dy gs, x = .ref a ∧ y = .ref b ∧ H a = some (.ins C dx fs) ∧ H b = some (.ins C dy gs) ∧ sp [.ref a, .ref b] H (fun v H' => ∃ r, v = .bl r ∧ Q (.bl (!r)) H') E0
theorem op_ownNe (hne : PySem.W.findIn X.K (.ref C) "__ne__" = some (some (.builtin "object.__ne__"))) (hm : PySem.W.mroIn X.K C (.type "object") = some true)
    (M : Mn X.prog X.w X.K X.mg X.base k C "__eq__" ps sp) (hr : Room (k + 1) X.A) : OpR X (compareOp .NotEq) (rOwnNe C sp) := by
  intro pins s σ H x y v u Q I rx ry h
  obtain ⟨a, dx, fs, b, dy, gs, rfl, rfl, ha, hb, q⟩ := h
  obtain rfl : v = Value.ref a := rx
  obtain rfl : u = Value.ref b := ry
  obtain ⟨g, fd, h1, h2, h3⟩ := M
  obtain ⟨od, J⟩ := inst_of I ha
  obtain ⟨od', J'⟩ := inst_of I hb
  have XK := I.kIn
  have SN := PySem.F.cmp_object.ne
  -- the def's own run, one deeper
  have run : codeAny (model X.prog X.w) X.A.in1 (.call (.ref g) ⟨[.ref a, .ref b], []⟩) (CR (fun _ _ _ _ _ _ => False) X.stack X.prog X.w H s (fun v H' => ∃ r, v = .bl r ∧ Q (.bl (!r)) H') E0) s := by
    have r2 : Vals [V.ref a, V.ref b] [Value.ref a, Value.ref b] := .cons rfl (.cons rfl .nil)
    have hl := h3.len _ _ _ _ q
    exact h3.run X.A.in1 X.stack s H ⟨[.ref a, .ref b], []⟩ [.ref a, .ref b] [.ref a, .ref b] _ E0 hr.in1 I.env0.in1 (h2 s [.ref a, .ref b] I.kIn hl) r2 q
  have body : wpAny (model X.prog X.w) X.A (call (.builtin "object.__ne__") [.ref a, .ref b]) (fun r s' => ∃ t, r = Value.bool t ∧ EP X pins σ Q (.bool t) s') X.xe s := by
    have sub : PySem.W.Looks (model X.prog X.w) s.heap (isInstance (.ref a) (.type "object")) true := J.type.andThen (PySem.W.looks_mroIn XK hm)
    refine wpAny_call (codeAny_call_builtin SN.plain PySem.F.cmpEntry_ne (@PySem.W.check_slot (model X.prog X.w) _ _ s "object.__ne__" "object" "__ne__" (.ref a) [.ref b] [] _ PySem.F.cmpKind_ne PySem.F.cmpSplit_ne sub (PySem.F.cmpArgs_ne _ _) ?_))
    unfold Builtin.«object.__ne__»
    refine wpAny_bind (wpAny_pure ?_)
    have hu : X.A.in1.units < cLine := hr.in1.units0
    refine wpAny_bind (wpAny_cRoomFor hu ?_)
    refine wpAny_bind (PySem.W.ifBound_K (od := some od) XK J h1.at_ h1.fn (wpAny_call (codeAny_mono run fun r s' hq => ?_)))
    cases r with
    | error e => exact hq.elim
    | ok fl =>
      cases fl with
      | ret u =>
        obtain ⟨v', H', I', rz, t, rfl, qz⟩ := I.after hq
        cases rz
        refine wpAny_bind (wpAny_truthy_bool ?_)
        exact wpAny_pure ⟨!t, rfl, .bl (!t), H', I', rfl, qz⟩
      | next => exact False.elim hq
      | brk => exact False.elim hq
      | cont => exact False.elim hq
  have one : wpAny (model X.prog X.w) X.A (tryCompare (.ref a) "__ne__" (.ref b)) (fun r s' => ∃ v, r = some v ∧ EP X pins σ Q v s') X.xe s := by
    unfold tryCompare
    refine wpAny_bind ?_
    simp only [callSpecialIfBound?, bindSpecialIfBound?]
    refine wpAny_holding (wpAny_bind (wpAny_bind (wpAny_bind (J.type.here ((PySem.W.looks_findIn XK hne).here ?_)))))
    have fin : wpAny (model X.prog X.w) X.A (call (.builtin "object.__ne__") ([.ref a] ++ [.ref b]) >>= fun v => pure (some v)) (fun r s' => wpAny (model X.prog X.w) X.A (match r with | some .notImplemented | none => pure none | some v => pure (some v)) (fun r s' => ∃ v, r = some v ∧ EP X pins σ Q v s') X.xe s') X.xe s :=
      wpAny_bind (wpAny_mono body (fun r s' hr' => by obtain ⟨t, rfl, e⟩ := hr'; exact wpAny_pure (wpAny_pure ⟨_, rfl, e⟩)) fun _ _ z => z)
    refine wpAny_bind (wpAny_askSetting (wpAny_ite ?_))
    split
    · rw [SN.bind]
      exact wpAny_bind (wpAny_pure (wpAny_pure fin))
    · rw [SN.bind]
      exact wpAny_tryCatch (wpAny_bind (wpAny_pure (wpAny_pure fin)))
  show wpAny _ _ (richCompare .NotEq _ _) _ _ _
  unfold richCompare
  simp only [PySem.oneThing_ref]
  have e0 : ((Value.ref C != Value.ref C) = true) = False := by simp
  refine wpAny_holding (wpAny_bind (wpAny_cRoomFor hr.units0 (wpAny_bind (J.type.here (wpAny_bind (J'.type.here ?_))))))
  simp only [e0, if_false]
  refine wpAny_bind (wpAny_pure ?_)
  simp only [Bool.false_eq_true, if_false]
  refine wpAny_bind (wpAny_mono one (fun r s' z => ?_) fun _ _ e => e)
  obtain ⟨v, rfl, hq⟩ := z
  exact wpAny_pure hq
end
end Fp

namespace Fp
open PySem PySem.Spec PyProof.Rows L2
local macro_rules | `(tactic| walk_at "rd") => `(tactic| simp only [cxK, cxKn, tRet, tRetN, rIntI, rIntB, rLenL, rListL, rListT, rAbs, tDisp, tPairs, tC, tCB, tCons, tNil, tSl, tVar, tNoPart, tPart, rSlL, tOp, tAsg, gName, tIfS, tDrop, tTest, tAnd, tOr, Evl.tCut, tNot, tB, rI0, rI, rIxL, rIxT, rIxD, tDGet, sDPut, tLst, tTup, tBM, tBM0, tPar, rAppend, rPopAt, rPop, rExtend, rTupL, tCall, tNext, rAll, rOwnIn, rOwn2, rCat, lc_iL, lc_iT, lc_iK, lc_iR, fr_iL, fr_iT, fr_iR, tYes, rIn, rEq, rNe, gTup, gCons, gNil, wipe, tMeth, tFld, sFld, tMake, tProp, tIf, tAndV, tOrV, tNotV, if_true, if_false, Bool.false_eq_true, List.map_cons, List.map_nil, List.nil_append, List.append_nil, List.cons_append, List.getElem?_cons_zero, List.getElem?_cons_succ, Option.some.injEq, exists_and_left, exists_eq_left', exists_eq_left, List.cons.injEq, and_true, true_and, V.ref.injEq, V.int.injEq, V.str.injEq, V.bl.injEq, List.set_cons_zero, List.set_cons_succ])
theorem seqi {t u : TS} {D : Ends} {σ : L2.St} {H : Hp} (h : ∀ k : L2.St → Hp → Prop, k = u D → t { D with nx := k } σ H) : tSeq t u D σ H := h _ rfl
theorem tSeq_eq {t u : TS} {D : Ends} {σ : L2.St} {H : Hp} : tSeq t u D σ H = t { D with nx := u D } σ H := rfl
section
variable {K : PySem.W.Frag} {P : Program} {w : World} {base : Heap} {mg : Str → Option Value}
theorem cxK {CX : CXT} {N : List Str} {qual : Str} {sc : Scope} {f : Addr} {cdv : Value} {A : Around} {outer : List Env} {s : Shared} {H : Hp} {E : XK} : (cxOf CX P w K mg base N qual sc f cdv A outer s H E).K = K := rfl
theorem cxKn {CX : CXT} {N : List Str} {qual : Str} {sc : Scope} {f : Addr} {cdv : Value} {A : Around} {outer : List Env} {s : Shared} {H : Hp} {E : XK} : (cxOf CX P w K mg base N qual sc f cdv A outer s H E).nox.K = K := rfl
end
section
variable {K : PySem.W.Frag} {P : Program} {w : World} {base : Heap} {mg : Str → Option Value}
end

/-! ### the mathematics: rules by number -/
def rn (i : Nat) : Str := (["grouping", "order", "middle", "first", "last", "ends", "keep", "take", "vanish"] : List Str).getD i ""
def kn (i : Nat) : Str := (["trees", "pairs", "words", "bags", "parity", "middles", "heads", "tails", "sets", "outer", "lefts", "rights", "one"] : List Str).getD i ""
def KR (i : Nat) : List Nat := [[], [1], [0], [0, 1], [0, 1, 8], [0, 2], [0, 2, 3], [0, 2, 4], [0, 1, 2, 3, 4], [0, 2, 5], [0, 2, 3, 5, 6], [0, 2, 4, 5, 7], [0, 1, 2, 3, 4, 5, 6, 7, 8]].getD i []
abbrev R9 : List Nat := [0, 1, 2, 3, 4, 5, 6, 7, 8]
abbrev K13 : List Nat := [0, 1, 2, 3, 4, 5, 6, 7, 8, 9, 10, 11, 12]
def ruD (l : List Nat) : PyData := .list (l.map fun i => .str (rn i))
def kiD (i : Nat) : PyData := .tuple [.str (kn i), ruD (KR i)]
def thD : PyData := .list (K13.map kiD)
section
variable {K : PySem.W.Frag} {P : Program} {w : World} {base : Heap} {mg : Str → Option Value}
def spNine : Sp := fun vs H Q _ => vs = [] ∧ ∀ v H', Same H H' → Dt H' v (ruD R9) → Q v H'
def spThir : Sp := fun vs H Q _ => vs = [] ∧ ∀ v H', Same H H' → Dt H' v thD → Q v H'
end

/-! ### more mathematics -/
def hasB (k : Nat) (ns : List Nat) : Bool := ns.all fun n => decide (n ∈ KR k)
def clos (ns : List Nat) : List Nat := R9.filter fun r => ((K13.filter fun k => hasB k ns).filter fun k => !decide (r ∈ KR k)).isEmpty
theorem rn_inj : ∀ i ∈ R9, ∀ j ∈ R9, rn i = rn j → i = j := by decide
def rS (l : List Nat) : List Str := l.map rn
theorem mem_rS {i : Nat} {l : List Nat} (hi : i ∈ R9) (hl : ∀ j ∈ l, j ∈ R9) : (rn i ∈ rS l) = (i ∈ l) := propext ⟨fun h => by
  obtain ⟨j, hj, e⟩ := List.mem_map.mp h
  rw [← rn_inj j (hl j hj) i hi e]
  exact hj, fun h => List.mem_map_of_mem h⟩
theorem KR_in : ∀ k ∈ K13, ∀ j ∈ KR k, j ∈ R9 := by decide
theorem ruD_eq (l : List Nat) : ruD l = .list ((rS l).map PyData.str) := by
  unfold ruD rS
  rw [List.map_map]
  rfl
theorem shp_rn : ∀ i ∈ R9, (PyData.str (rn i)).canLay0 = true ∧ (PyData.str (rn i)).depth ≤ 0 := by decide +kernel
theorem shp_ru {l : List Nat} (h : ∀ j ∈ l, j ∈ R9) : Shp 1 (ruD l) := shp_lst fun d hd => by
  obtain ⟨i, hi, rfl⟩ := List.mem_map.mp hd
  exact shp_rn i (h i hi)
theorem filter_empty {α : Type} (p : α → Bool) : ∀ l : List α, (l.filter fun x => !p x).isEmpty = l.all p
  | [] => rfl
  | x :: r => by
    rw [List.filter_cons, List.all_cons, ← filter_empty p r]
    cases p x with
    | true => rfl
    | false => rfl
theorem map_empty {α β : Type} (f : α → β) (l : List α) : (l.map f).isEmpty = l.isEmpty := by cases l <;> rfl
theorem dts_rS {H : Hp} : ∀ l : List Nat, Dts H ((rS l).map V.str) (l.map fun n => PyData.str (rn n))
  | [] => .nil
  | n :: r => .cons (.str _) (dts_rS r)
theorem Dt.rules {H : Hp} {v : V} {l : List Nat} (h : Dt H v (ruD l)) : ∃ a, v = .ref a ∧ H a = some (.lst ((rS l).map V.str)) := by
  rw [ruD_eq] at h
  cases h with
  | lst h1 t => exact ⟨_, rfl, by rw [h1, Dts.strs t]⟩
section
variable {K : PySem.W.Frag} {P : Program} {w : World} {base : Heap} {mg : Str → Option Value}
/-- names: rules by number -/
def spClos : Sp := fun vs H Q _ => ∃ v ns, vs = [v] ∧ Dt H v (ruD ns) ∧ (∀ n ∈ ns, n ∈ R9) ∧ ns.length ≤ 9 ∧ ∀ v H', Same H H' → Dt H' v (ruD (clos ns)) → Q v H'
end

theorem perm_erase {α : Type} : ∀ (l : List α) (i : Nat) (x : α), l[i]? = some x → (x :: l.eraseIdx i).Perm l
  | [], _, _, h => by simp at h
  | y :: r, 0, x, h => by
    cases h
    exact List.Perm.refl _
  | y :: r, i + 1, x, h => by
    have ih := perm_erase r i x h
    exact (List.Perm.swap y x _).trans (ih.cons y)
section
variable {K : PySem.W.Frag} {P : Program} {w : World} {base : Heap} {mg : Str → Option Value}
def spShuf : Sp := fun vs H Q _ => ∃ p c v t ds n, vs = [.ref p, v] ∧ PenOk H p c t ∧ Dt H v (.list ds) ∧ (∀ d ∈ ds, Shp n d) ∧ n ≤ 60 ∧ ds.length ≤ 900 ∧ t ≤ 900000000 ∧
  ∀ a H' es, es.Perm ds → PenOk H' p c (t + ds.length) → But p H H' → Dt H' (.ref a) (.list es) → Q (.ref a) H'
end
/-! ### the mathematics of closing -/
def sub (b : Nat) : List Nat := R9.filter fun i => b.testBit i
def weak (ns : List Nat) : Nat := (K13.filter fun k => hasB k ns).headD 0
def allOk (b : Nat) : Bool :=
  decide (KR (weak (sub b)) = clos (sub b)) && decide ((K13.filter fun k => decide (KR k = clos (sub b))) = [weak (sub b)])
theorem all_ok : (List.range 512).all allOk = true := by decide +kernel
theorem sub_ok {b : Nat} (h : b < 512) : KR (weak (sub b)) = clos (sub b) ∧ (K13.filter fun k => decide (KR k = clos (sub b))) = [weak (sub b)] := by
  have h1 := List.all_eq_true.mp all_ok b (List.mem_range.mpr h)
  unfold allOk at h1
  rw [Bool.and_eq_true, decide_eq_true_eq, decide_eq_true_eq] at h1
  exact h1
theorem sub_in {b i : Nat} (h : i ∈ sub b) : i ∈ R9 := (List.mem_filter.mp h).1
theorem sub_len (b : Nat) : (sub b).length ≤ 9 := List.length_filter_le _ _
theorem clos_in {ns : List Nat} {i : Nat} (h : i ∈ clos ns) : i ∈ R9 := (List.mem_filter.mp h).1
theorem has_one {ns : List Nat} (h : ∀ n ∈ ns, n ∈ R9) : hasB 12 ns = true := List.all_eq_true.mpr fun n hn => decide_eq_true (h n hn)
theorem weak_head {ns : List Nat} (h : ∀ n ∈ ns, n ∈ R9) : (K13.filter fun k => hasB k ns)[0]? = some (weak ns) ∧ weak ns ∈ K13 := by
  have hm : 12 ∈ K13.filter fun k => hasB k ns := List.mem_filter.mpr ⟨by decide, has_one h⟩
  unfold weak
  cases e : (K13.filter fun k => hasB k ns) with
  | nil => rw [e] at hm; cases hm
  | cons k r => exact ⟨rfl, (List.mem_filter.mp (show k ∈ K13.filter fun k => hasB k ns by rw [e]; exact List.mem_cons_self)).1⟩
theorem kinds_ok : K13.all (fun k => decide (weak (KR k) = k)) = true := by decide +kernel
theorem weak_KR {k : Nat} (h : k ∈ K13) : weak (KR k) = k := of_decide_eq_true (List.all_eq_true.mp kinds_ok k h)
theorem KR_sorted : K13.all (fun k => decide (R9.filter (fun i => decide (i ∈ KR k)) = KR k)) = true := by decide +kernel
theorem KR_filter {k : Nat} (h : k ∈ K13) : R9.filter (fun i => decide (i ∈ KR k)) = KR k := of_decide_eq_true (List.all_eq_true.mp KR_sorted k h)
theorem sub_filter (b : Nat) : R9.filter (fun i => decide (i ∈ sub b)) = sub b := by
  unfold sub
  refine List.filter_congr fun i hi => ?_
  cases h : b.testBit i with
  | true => exact decide_eq_true (List.mem_filter.mpr ⟨hi, h⟩)
  | false => exact decide_eq_false fun z => absurd (List.mem_filter.mp z).2 (by rw [h]; decide)
theorem kn_rn : K13.all (fun k => R9.all fun i => !decide (kn k = rn i)) = true := by decide +kernel
theorem eqv_strs : ∀ a b : List Str, PyData.eqvAll (a.map PyData.str) (b.map PyData.str) = decide (a = b)
  | [], [] => rfl
  | [], _ :: _ => rfl
  | _ :: _, [] => rfl
  | x :: a, y :: b => by
    show ((x == y) && PyData.eqvAll (a.map PyData.str) (b.map PyData.str)) = _
    rw [eqv_strs a b]
    by_cases h : x = y
    · subst h
      simp
    · simp [h]
theorem rS_inj : ∀ {a b : List Nat}, (∀ n ∈ a, n ∈ R9) → (∀ n ∈ b, n ∈ R9) → (rS a = rS b) = (a = b)
  | [], [], _, _ => by simp
  | [], _ :: _, _, _ => by simp [rS]
  | _ :: _, [], _, _ => by simp [rS]
  | x :: a, y :: b, ha, hb => by
    have ih := rS_inj (a := a) (b := b) (fun n hn => ha n (List.mem_cons_of_mem _ hn)) (fun n hn => hb n (List.mem_cons_of_mem _ hn))
    have hx := ha x List.mem_cons_self
    have hy := hb y List.mem_cons_self
    have e1 : (rn x = rn y) = (x = y) := propext ⟨fun e => rn_inj x hx y hy e, fun e => by rw [e]⟩
    show (rn x :: rS a = rn y :: rS b) = _
    simp only [List.cons.injEq]
    rw [e1, ih]
theorem eqv_ru {a b : List Nat} (ha : ∀ n ∈ a, n ∈ R9) (hb : ∀ n ∈ b, n ∈ R9) : PyData.eqv (ruD a) (ruD b) = decide (a = b) := by
  rw [ruD_eq, ruD_eq]
  show PyData.eqvAll _ _ = _
  rw [eqv_strs, decide_eq_decide.mpr (iff_of_eq (rS_inj ha hb))]

/-! ### what the top has written of rules -/
def kS : List Str := K13.map kn
structure TxR (K : PySem.W.Frag) (w : World) (mg : Str → Option Value) (aR aD C : Addr) (T : Nat → Addr) : Prop where
  mR : mg "_RULES" = some (.ref aR)
  mD : mg "_RULES_OF" = some (.ref aD)
  mC : mg "Rules" = some (.ref C)
  sR : ∀ H, SqT K H aR ((rS R9).map V.str)
  kk : KKeys K aD kS
  dD : ∃ es n, KDict K w aD es n
  dI : ∀ k ∈ K13, KDct K w aD (kn k) (.ref (T k))
  sT : ∀ k ∈ K13, ∀ H, SqT K H (T k) ((rS (KR k)).map V.str)
  cl : Cls K C
  nN : NoAttr K C "_names"
  nK : NoAttr K C "_kind"
  m_list : mg "list" = none
  m_all : mg "all" = none
  m_tuple : mg "tuple" = none
  m_isi : mg "isinstance" = none
section
variable {K : PySem.W.Frag} {P : Program} {w : World} {base : Heap} {mg : Str → Option Value} {aR aD C : Addr} {T : Nat → Addr}
def spRulesOf : Sp := fun vs H Q _ => ∃ k ∈ K13, vs = [.str (kn k)] ∧ ∀ v H', Same H H' → Dt H' v (ruD (KR k)) → Q v H'
def spHas (K : PySem.W.Frag) : Sp := fun vs H Q _ => ∃ a b k ns, vs = [.ref a, .ref b] ∧ k ∈ K13 ∧ (∀ n ∈ ns, n ∈ R9) ∧ ns.length ≤ 9 ∧ SqT K H a ((rS (KR k)).map V.str) ∧ SqT K H b ((rS ns).map V.str) ∧
  ∀ H', Same H H' → Q (.bl (hasB k ns)) H'
def spWeak (K : PySem.W.Frag) : Sp := fun vs H Q _ => ∃ b ns, vs = [.ref b] ∧ (∀ n ∈ ns, n ∈ R9) ∧ ns.length ≤ 9 ∧ SqT K H b ((rS ns).map V.str) ∧ ∀ H', Same H H' → Q (.str (kn (weak ns))) H'
theorem dts_bools {H : Hp} : ∀ {bs : List Bool} {vs : List V}, Dts H vs (bs.map PyData.bool) → vs = bs.map V.bl
  | [], _, .nil => rfl
  | z :: r, _, .cons (.bl _) t => by rw [dts_bools t]; rfl
end

def rFl (t : Addr) (k : Str) : List (Str × V) := putF "_kind" (.str k) (putF "_names" (.ref t) [])
theorem s_nk : ¬ (("_names" : Str) = "_kind") := by decide +kernel
theorem rFl_names (t : Addr) (k : Str) : (rFl t k).lookup ("_names" : Str) = some (.ref t) := by
  unfold rFl
  rw [lookup_putF, if_neg s_nk, lookup_putF, if_pos rfl]
theorem rFl_kind (t : Addr) (k : Str) : (rFl t k).lookup ("_kind" : Str) = some (.str k) := by
  unfold rFl
  rw [lookup_putF, if_pos rfl]
theorem rFl_no (t : Addr) (k m : Str) (h1 : ¬ m = "_kind") (h2 : ¬ m = "_names") : (rFl t k).lookup m = none := by
  unfold rFl
  rw [lookup_putF, if_neg h1, lookup_putF, if_neg h2]
  rfl
/-- a set of rules stands at p -/
def RuAt (H : Hp) (C p : Addr) (s : List Nat) : Prop := ∃ dx t, H p = some (.ins C dx (rFl t (kn (weak s)))) ∧ H t = some (.tup ((rS s).map V.str))
theorem RuAt.same {H H' : Hp} {C p : Addr} {s : List Nat} (h : RuAt H C p s) (e : Same H H') : RuAt H' C p s := by
  obtain ⟨dx, t, h1, h2⟩ := h
  exact ⟨dx, t, e _ _ h1, e _ _ h2⟩
section
variable {K : PySem.W.Frag} {P : Program} {w : World} {base : Heap} {mg : Str → Option Value} {aR aD C : Addr} {T : Nat → Addr}
def spInit (C : Addr) : Sp := fun vs H Q _ => ∃ p dx v ns, vs = [.ref p, v] ∧ H p = some (.ins C dx []) ∧ Dt H v (ruD ns) ∧ (∀ n ∈ ns, n ∈ R9) ∧ ns.length ≤ 9 ∧
  ∀ H', (∀ b o, H b = some o → b ≠ p → H' b = some o) → RuAt H' C p (R9.filter fun i => decide (i ∈ ns)) → Q .non H'
end

theorem Same.but {p : Addr} {H H' : Hp} (e : Same H H') : But p H H' := But.of e
section
variable {K : PySem.W.Frag} {P : Program} {w : World} {base : Heap} {mg : Str → Option Value} {aR aD C : Addr} {T : Nat → Addr}
def spListed (C : Addr) : Sp := fun vs H Q _ => ∃ p s, vs = [.ref p] ∧ RuAt H C p s ∧ ∀ v H', Same H H' → Dt H' v (ruD s) → Q v H'
def spKind (C : Addr) : Sp := fun vs H Q _ => ∃ p s, vs = [.ref p] ∧ RuAt H C p s ∧ ∀ H', Same H H' → Q (.str (kn (weak s))) H'
def spClosed (C : Addr) : Sp := fun vs H Q _ => ∃ p s, vs = [.ref p] ∧ RuAt H C p s ∧ weak s ∈ K13 ∧ ∀ p' H', Same H H' → RuAt H' C p' (KR (weak s)) → Q (.ref p') H'
def spCont (C : Addr) : Sp := fun vs H Q _ => ∃ p s z, vs = [.ref p, .str z] ∧ RuAt H C p s ∧ weak s ∈ K13 ∧ ∀ H', Same H H' → Q (.bl (decide (z ∈ rS (KR (weak s))))) H'
def spEq (C : Addr) : Sp := fun vs H Q _ => ∃ p s p' s', vs = [.ref p, .ref p'] ∧ RuAt H C p s ∧ RuAt H C p' s' ∧ (∀ n ∈ s, n ∈ R9) ∧ (∀ n ∈ s', n ∈ R9) ∧ ∀ H', Same H H' → Q (.bl (decide (s = s'))) H'
/-- the kind whose rules are closed under names -/
def spKW : Sp := fun vs H Q _ => ∃ v b, vs = [v] ∧ b < 512 ∧ Dt H v (ruD (sub b)) ∧ ∀ H', Same H H' → Q (.str (kn (weak (sub b)))) H'
end

/-! ### which rules are drawn -/
theorem mk_rules {C : Addr} {H : Hp} {v : V} {l : List Nat} {Q : VK} (hv : Dt H v (ruD l)) (hl : ∀ n ∈ l, n ∈ R9) (hn : l.length ≤ 9) (q : ∀ p H', Same H H' → RuAt H' C p (R9.filter fun i => decide (i ∈ l)) → Q (.ref p) H') :
    ∀ x dx, H x = none → H dx = none → dx ≠ x → spInit C [.ref x, v] (upd (upd H dx (.own x)) x (.ins C dx [])) (fun v H2 => v = .non ∧ Q (.ref x) H2) E0 := by
  intro x dx nx ndx ne
  have e2 : Same H (upd (upd H dx (.own x)) x (.ins C dx [])) := fun b o hb => by
    rw [upd_ne (ne_of_none hb nx), upd_ne (ne_of_none hb ndx)]
    exact hb
  exact ⟨x, dx, v, l, rfl, upd_same, hv.same e2, hl, hn, fun H2 k2 r2 => ⟨rfl, q _ _ (fun b o hb => k2 b o (e2 _ _ hb) (ne_of_none hb nx)) r2⟩⟩
def pick : List Bool → List Nat → List Nat
  | b :: bs, x :: xs => if b = true then x :: pick bs xs else pick bs xs
  | _, _ => []
theorem pick_snoc : ∀ (bs : List Bool) (xs : List Nat) (b : Bool) (x : Nat), xs[bs.length]? = some x → pick (bs ++ [b]) xs = pick bs xs ++ (if b = true then [x] else [])
  | [], [], _, _, h => by simp at h
  | [], y :: r, b, x, h => by
    cases h
    cases b <;> rfl
  | c :: bs, [], _, _, h => by simp at h
  | c :: bs, y :: r, b, x, h => by
    have ih := pick_snoc bs r b x h
    cases c with
    | true =>
      show y :: pick (bs ++ [b]) r = y :: pick bs r ++ _
      rw [ih]
      rfl
    | false => exact ih
def bitsOf : List Bool → Nat
  | [] => 0
  | b :: r => (if b = true then 1 else 0) + 2 * bitsOf r
theorem pick9 : ∀ b0 b1 b2 b3 b4 b5 b6 b7 b8 : Bool, pick [b0, b1, b2, b3, b4, b5, b6, b7, b8] R9 = sub (bitsOf [b0, b1, b2, b3, b4, b5, b6, b7, b8]) ∧ bitsOf [b0, b1, b2, b3, b4, b5, b6, b7, b8] < 512 := by decide +kernel
theorem pick_sub {bs : List Bool} (h : bs.length = 9) : ∃ b, b < 512 ∧ pick bs R9 = sub b := by
  match bs, h with
  | [b0, b1, b2, b3, b4, b5, b6, b7, b8], _ => exact ⟨_, (pick9 b0 b1 b2 b3 b4 b5 b6 b7 b8).2, (pick9 b0 b1 b2 b3 b4 b5 b6 b7 b8).1⟩
theorem pick_len : ∀ (bs : List Bool) (xs : List Nat), (pick bs xs).length ≤ bs.length
  | [], _ => Nat.le_of_eq (by cases ‹List Nat› <;> rfl)
  | _ :: _, [] => Nat.zero_le _
  | b :: bs, x :: xs => by
    have ih := pick_len bs xs
    cases b with
    | true => exact Nat.succ_le_succ ih
    | false => exact Nat.le_succ_of_le ih
theorem perm_map_inv {α β : Type} {f : α → β} {es m : List β} (h : es.Perm m) : ∀ l : List α, m = l.map f → ∃ l' : List α, l'.Perm l ∧ es = l'.map f := by
  induction h with
  | nil => exact fun l e => ⟨l, List.Perm.refl _, e⟩
  | cons x _ ih =>
    intro l e
    cases l with
    | nil => cases e
    | cons a r =>
      injection e with e1 e2
      obtain ⟨r', p, e3⟩ := ih r e2
      exact ⟨a :: r', p.cons a, by rw [e1, e3]; rfl⟩
  | swap x y l0 =>
    intro l e
    match l, e with
    | a :: b :: r, e =>
      injection e with e1 e2
      injection e2 with e2 e3
      exact ⟨b :: a :: r, List.Perm.swap a b r, by rw [e1, e2, e3]; rfl⟩
  | trans _ _ ih1 ih2 =>
    intro l e
    obtain ⟨l2, p2, e2⟩ := ih2 l e
    obtain ⟨l1, p1, e1⟩ := ih1 l2 e2
    exact ⟨l1, p1.trans p2, e1⟩
theorem filter_perm {a b : List Nat} (h : a.Perm b) : R9.filter (fun i => decide (i ∈ a)) = R9.filter fun i => decide (i ∈ b) :=
  List.filter_congr fun i _ => decide_eq_decide.mpr h.mem_iff
def kS2 : List Str := kS ++ [("" : Str), ("q" : Str)]
theorem kS2_no : K13.all (fun k => kS2.all fun z => !decide (z ∈ rS (KR k))) = true := by decide +kernel
theorem weak_in (b : Nat) : weak (sub b) ∈ K13 := (weak_head fun n hn => sub_in hn).2
theorem shp_kS2 : ∀ z ∈ kS2, Shp 0 (.str z) := by
  have h : kS2.all (fun z => (PyData.str z).canLay0) = true := by decide +kernel
  exact fun z hz => ⟨List.all_eq_true.mp h z hz, Nat.le_refl _⟩
theorem RuAt.but {p : Addr} {kvs : List (Key × V)} {H H' : Hp} {C q : Addr} {s : List Nat} (hp : H p = some (.dK kvs)) (h : RuAt H C q s) (e : But p H H') : RuAt H' C q s := by
  obtain ⟨dx, t, h1, h2⟩ := h
  exact ⟨dx, t, e.1 _ _ h1 (ne_of h1 hp (by intro z; cases z)), e.1 _ _ h2 (ne_of h2 hp (by intro z; cases z))⟩
section
variable {K : PySem.W.Frag} {P : Program} {w : World} {base : Heap} {mg : Str → Option Value} {aR aD C : Addr} {T : Nat → Addr}
def spLaw (K : PySem.W.Frag) : Sp := fun vs H Q _ => ∃ (a : Addr) (ns : List Int), vs = [.ref a] ∧ SqL K H a (ns.map V.int) ∧ ns.length ≤ 63 ∧ ∀ H', Q (.bl true) H'
end

end Fp

namespace Fp
open PySem PySem.Spec PyProof.Rows L2
local macro_rules | `(tactic| walk_at "rd") => `(tactic| simp only [cxK, cxKn, tRet, tRetN, rIntI, rIntB, rLenL, rListL, rListT, rAbs, tDisp, tPairs, tC, tCB, tCons, tNil, tSl, tVar, tNoPart, tPart, rSlL, tOp, tAsg, gName, tIfS, tDrop, tTest, tAnd, tOr, Evl.tCut, tNot, tB, rI0, rI, rIxL, rIxT, rIxD, tDGet, sDPut, tLst, tTup, tBM, tBM0, tPar, rAppend, rPopAt, rPop, rExtend, rTupL, tCall, tNext, rAll, rOwnIn, rOwn2, rCat, lc_iL, lc_iT, lc_iK, lc_iR, fr_iL, fr_iT, fr_iR, tYes, rIn, rEq, rNe, gTup, gCons, gNil, wipe, tMeth, tFld, sFld, tMake, tProp, tIf, tAndV, tOrV, tNotV, if_true, if_false, Bool.false_eq_true, List.map_cons, List.map_nil, List.nil_append, List.append_nil, List.cons_append, List.getElem?_cons_zero, List.getElem?_cons_succ, Option.some.injEq, exists_and_left, exists_eq_left', exists_eq_left, List.cons.injEq, and_true, true_and, V.ref.injEq, V.int.injEq, V.str.injEq, V.bl.injEq, List.set_cons_zero, List.set_cons_succ])
def topS (i : Nat) : Stmt := PySem.Challenge.pw_foldplans_k03_rule_operators.main.body.getD i (.Pass ⟨0, 0, 0, 0⟩)
section
variable {K : PySem.W.Frag} {P : Program} {w : World} {base : Heap} {mg : Str → Option Value} {aR aD C : Addr} {T : Nat → Addr}
abbrev s__law_pen : Stmt := topS 11
theorem sc__law_pen : FnScope ["script"] ["script"] (defScope s__law_pen) := ⟨rfl, rfl, rfl, by decide +kernel, rfl, by decide +kernel, by decide +kernel⟩
theorem ok_pen {f : Addr} {fd : FuncData} (F : Fun K "_law_pen" "_law_pen" s__law_pen f fd) (m_list : mg "list" = none) : FnOk P w K mg base CX0 1 f fd ["script"] (spPen K) := by
  refine F.ok sc__law_pen (fun vs H Q E h => ?_) (fun cdv A outer s H vs Q E hr h => ?_)
  · obtain ⟨a, ns, rfl, _⟩ := h
    rfl
  · obtain ⟨a, ns, rfl, hS, hlen, q⟩ := h
    refine ⟨_, (pss_one (ps_ret (pe_disp (pps_cons pe_str (pe_callTy call_listL (by rfl) m_list (by decide +kernel) (pa_cons (pe_slice sl_list (pv 0) po_none (po_some pe_int)) pa_nil)) (pps_cons pe_str pe_int (pps_cons pe_str pe_int pps_nil))) rfl rfl (by simp) (by decide)))), ?_⟩
    show tRet _ _ [some (.ref a)] H
    walk_at "rd"
    intro p hp
    refine ⟨_, (same_new hp).seq hS, fun c hc => ⟨_, .inl (.inl upd_same), fun l hl => ⟨?_, penK l 0 0, rfl, (show 3 ≤ 15 by decide), ?_⟩⟩⟩
    · have h1 : p ≠ l := ne_of_none (show upd (upd H p (.dK [])) c _ p = some _ by rw [upd_ne (ne_of_none upd_same hc), upd_same]) hl
      rw [upd_ne h1, upd_ne (ne_of_none upd_same hc), upd_same]
    · refine q _ p l hp ?_ ⟨ns.take 63, 0, 0, upd_same, ?_, ?_, by decide, by decide⟩
      · exact Same.mut (Same.new (Same.new (same_new hp) hc) hl) hp
      · have h1 : p ≠ l := ne_of_none (show upd (upd H p (.dK [])) c _ p = some _ by rw [upd_ne (ne_of_none upd_same hc), upd_same]) hl
        rw [upd_ne h1.symm, upd_same, show (63 : Int) = ((63 : Nat) : Int) from rfl, cut_to, List.map_take]
      · rw [List.length_take]; omega
abbrev s__law_draw : Stmt := topS 12
theorem sc__law_draw : FnScope ["pen", "span", "digit", "turn", "cell", "mixed"] ["pen", "span"] (defScope s__law_draw) := ⟨rfl, rfl, rfl, by decide +kernel, rfl, by decide +kernel, by decide +kernel⟩
theorem ok_draw {f : Addr} {fd : FuncData} (F : Fun K "_law_draw" "_law_draw" s__law_draw f fd) (m_int : mg "int" = none) (m_len : mg "len" = none) (m_abs : mg "abs" = none) : FnOk P w K mg base CX0 1 f fd ["pen", "span"] spDraw := by
  refine F.ok sc__law_draw (fun vs H Q E h => ?_) (fun cdv A outer s H vs Q E hr h => ?_)
  · obtain ⟨p, c, span, t, rfl, _⟩ := h
    rfl
  · obtain ⟨p, c, span, t, rfl, hP, ht, hs0, hs1, q⟩ := h
    have hu := hu_of hr
    have hu64 := hr.units
    refine ⟨_, (pss_cons (ps_if (pt_cmpR op_gt (pe_dget hu (pv 0) pe_str (fun _ _ => rfl)) pe_int (nomark _))
      (pss_cons (ps_set (i := 2) sc__law_draw.nd rfl (.inl rfl) (pe_op op_mod (pe_callTy call_intI (by rfl) m_int (by decide +kernel) (pa_cons (pe_dget hu (pv 0) pe_str (fun _ _ => rfl)) pa_nil)) (pv 1)))
        (pss_cons (ps_dput hu (pv 0) pe_str (pe_op op_fdivW (pe_dget hu (pv 0) pe_str (fun _ _ => rfl)) (pv 1)) rfl)
        (pss_one (ps_ret (pv 2)))))
      pss_nil)
    (pss_cons (ps_set (i := 3) sc__law_draw.nd rfl (.inl rfl) (pe_dget hu (pv 0) pe_str (fun _ _ => rfl)))
    (pss_cons (ps_dput hu (pv 0) pe_str (pe_op op_add (pv 3) pe_int) rfl)
    (pss_cons (ps_set (i := 4) sc__law_draw.nd rfl (.inl rfl) (pe_op op_add (pe_op op_mul pe_int (pv 3)) pe_int))
    (Evl.pss_cut (ps_if (pt_cmpR (op_neD hu64) (pe_dget hu (pv 0) pe_str (fun _ _ => rfl)) (pe_lst pa_nil) (nomark _))
      (pss_one (ps_set (i := 4) sc__law_draw.nd rfl (.inl rfl) (pe_ix ix_list (pe_dget hu (pv 0) pe_str (fun _ _ => rfl)) (pe_op op_mod (pe_callTy call_intI (by rfl) m_int (by decide +kernel) (pa_cons (pv 3) pa_nil)) (pe_callB call_lenL (by rfl) m_len PySem.boot_len (pa_cons (pe_dget hu (pv 0) pe_str (fun _ _ => rfl)) pa_nil))) (fun _ _ => rfl))))
      pss_nil)
    (pss_cons (ps_if (PW.pt (pw_and (pt_cmpR op_lt (pv 3) (pe_callB call_lenL (by rfl) m_len PySem.boot_len (pa_cons (pe_dget hu (pv 0) pe_str (fun _ _ => rfl)) pa_nil)) (nomark _)) (pw_and1 (pt_cmpR op_ge (pe_callB call_absI (by rfl) m_abs (by decide +kernel) (pa_cons (pv 4) pa_nil)) (pe_op op_pow pe_int pe_int) (nomark _)))))
      (pss_cons (ps_dput hu (pv 0) pe_str (pe_op op_fdivW (pe_op op_sub (pe_callB call_absI (by rfl) m_abs (by decide +kernel) (pa_cons (pv 4) pa_nil)) (pe_op op_pow pe_int pe_int)) (pv 1)) rfl)
        (pss_one (ps_ret (pe_op op_mod (pe_callTy call_intI (by rfl) m_int (by decide +kernel) (pa_cons (pe_op op_sub (pe_callB call_absI (by rfl) m_abs (by decide +kernel) (pa_cons (pv 4) pa_nil)) (pe_op op_pow pe_int pe_int)) pa_nil)) (pv 1)))))
      pss_nil)
    (pss_cons (ps_set (i := 5) sc__law_draw.nd rfl (.inl rfl) (pe_op op_mul (pe_op op_mod (pe_callTy call_intI (by rfl) m_int (by decide +kernel) (pa_cons (pv 4) pa_nil)) pe_int) pe_int))
    (pss_cons (ps_set (i := 5) sc__law_draw.nd rfl (.inl rfl) (pe_op op_mod (pe_callTy call_intI (by rfl) m_int (by decide +kernel) (pa_cons (pe_op op_add (pe_op op_add (pv 5) (pe_op op_mul (pv 3) (pe_op op_add (pe_op op_mul (pv 3) pe_int) pe_int))) pe_int) pa_nil)) pe_int))
    (pss_cons (ps_set (i := 5) sc__law_draw.nd rfl (.inl rfl) (pe_op op_mod (pe_callTy call_intI (by rfl) m_int (by decide +kernel) (pa_cons (pe_op op_mul (pv 5) (pe_op op_add (pv 5) pe_int)) pa_nil)) pe_int))
    (pss_cons (ps_set (i := 5) sc__law_draw.nd rfl (.inl rfl) (pe_op op_mod (pe_callTy call_intI (by rfl) m_int (by decide +kernel) (pa_cons (pe_op op_add (pe_op op_add (pe_op op_mul (pv 5) (pv 5)) (pe_op op_mul pe_int (pv 5))) (pe_op op_mul pe_int (pv 3))) pa_nil)) pe_int))
    (pss_one (ps_ret (pe_op op_mod (pe_callTy call_intI (by rfl) m_int (by decide +kernel) (pa_cons (pe_op op_fdivW (pe_op op_mod (pe_callTy call_intI (by rfl) m_int (by decide +kernel) (pa_cons (pe_op op_mul (pv 5) (pe_op op_add (pv 5) pe_int)) pa_nil)) pe_int) pe_int) pa_nil)) (pv 1)))))))))))))), ?_⟩
    show tSeq _ _ _ [some (.ref p), some (.int span), none, none, none, none] H
    obtain ⟨cells, turn, left, h1, h2, h3, h4, h5⟩ := hP.ex
    have hmul : ∀ x : Int, 0 ≤ x → x < 4294967296 → ∀ y, CMul x y := fun x h0 h1 y => .inl ⟨by omega, by omega⟩
    refine seqi fun k hk => ?_
    walk_at "rd"
    refine dg_s h1 (pen_left _ _ _) ⟨_, rfl, ite2 (fun hl => ?_) (fun hl => ?_)⟩
    · refine seqi fun k hk => ?_
      walk_at "rd"
      refine dg_s h1 (pen_left _ _ _) ⟨_, rfl, hs0, ?_⟩
      subst hk
      refine seqi fun k hk => ?_
      walk_at "rd"
      refine dg_s h1 (pen_left _ _ _) ⟨_, rfl, ⟨hs0, hs1⟩, ?_⟩
      refine dp_s h1 (pen_len _ _ _) ?_
      rw [pen_putL]
      subst hk
      walk_at "rd"
      refine q _ _ (Int.emod_nonneg _ (by omega)) (Int.emod_lt_of_pos _ hs0) ⟨cells, turn, _, upd_same, ?_, h3, h4, by omega⟩ ⟨fun b o hb n => by rw [upd_ne n]; exact hb, fun _ => by rw [upd_same]; intro z; cases z⟩
      rw [upd_ne (ne_of h2 h1 (by intro z; cases z))]
      exact h2
    · subst hk
      refine seqi fun k hk => ?_
      walk_at "rd"
      refine dg_s h1 (pen_turn _ _ _) ?_
      subst hk
      refine seqi fun k hk => ?_
      walk_at "rd"
      refine dp_s h1 (pen_len _ _ _) ?_
      rw [pen_putT]
      have b1 : But p H (upd H p (.dK (penK c (turn + 1) left))) := ⟨fun b o hb n => by rw [upd_ne n]; exact hb, fun _ => by rw [upd_same]; intro z; cases z⟩
      have h1' : (upd H p (.dK (penK c (turn + 1) left))) p = some (.dK (penK c (turn + 1) left)) := upd_same
      have h2' : (upd H p (.dK (penK c (turn + 1) left))) c = some (.lst (cells.map V.int)) := by
        rw [upd_ne (ne_of h2 h1 (by intro z; cases z))]
        exact h2
      revert h1' h2' b1
      generalize (upd H p (.dK (penK c (turn + 1) left))) = H1
      intro b1 h1' h2'
      subst hk
      refine seqi fun k hk => ?_
      walk_at "rd"
      subst hk
      refine ⟨.inl ⟨by decide, by decide⟩, fun σ' H' => ∃ cell : Int, σ' = [some (.ref p), some (.int span), none, some (.int turn), some (.int cell), none] ∧ Same H1 H', ?_, ?_⟩
      · walk_at "rd"
        refine dg_s h1' (pen_cells _ _ _) ⟨Nat.zero_le _, fun d hd => ?_⟩
        have s2 : Same H1 (upd H1 d (.lst [])) := same_new hd
        have hc : SqL K (upd H1 d (.lst [])) c (cells.map V.int) := .inl (.inl (s2 _ _ h2'))
        refine ne_nil hc (dp_ints _ _ _) (shaped_ints _) upd_same ⟨_, rfl, ite2 (fun hn => ?_) (fun hn => ?_)⟩
        · have h0 : cells ≠ [] := fun z => by
            subst z
            exact absurd hn (by decide)
          obtain ⟨v, hv⟩ := ix_mod (ns := cells) (t := turn) h0
          have hl0 : (0 : Int) < ((cells.map V.int).length : Nat) := by
            rw [List.length_map]
            cases cells with
            | nil => exact absurd rfl h0
            | cons x r => show (0 : Int) < ((r.length + 1 : Nat) : Int); omega
          exact dg_s (s2 _ _ h1') (pen_cells _ _ _) (dg_s (s2 _ _ h1') (pen_cells _ _ _) ⟨_, rfl, _, hc, hl0, _, rfl, _, hc, _, hv, _, rfl, s2⟩)
        · exact s2
      · rintro σ' H2 ⟨cell, rfl, s2⟩
        have h1'' := s2 _ _ h1'
        have h2'' := s2 _ _ h2'
        have b2 : But p H H2 := b1.trans (But.of s2)
        refine seqi fun k hk => ?_
        have go : k [some (V.ref p), some (V.int span), none, some (V.int turn), some (V.int cell), none] H2 := by
          subst hk
          refine seqi fun k hk => ?_
          walk_at "rd"
          refine ⟨by decide, .inr ⟨by decide, by decide⟩, ?_⟩
          subst hk
          refine seqi fun k hk => ?_
          walk_at "rd"
          refine ⟨.inr ⟨by decide, by decide⟩, .inl ⟨by omega, by omega⟩, by decide, ?_⟩
          generalize hm : (_ : Int) % 4294967029 = m
          have m0 : 0 ≤ m := by rw [← hm]; exact Int.emod_nonneg _ (by decide)
          have m1 : m < 4294967296 := by have := Int.emod_lt_of_pos (cell % 4294967087 * 48611 + turn * (turn * 27919 + 10601) + 41) (show (0 : Int) < 4294967029 by decide); omega
          clear hm
          subst hk
          refine seqi fun k hk => ?_
          walk_at "rd"
          refine ⟨hmul _ m0 m1 _, by decide, ?_⟩
          obtain ⟨m2, hm2⟩ : ∃ m2, m * (m + 75013) % 4294966997 = m2 := ⟨_, rfl⟩
          have m3 : 0 ≤ m2 := by rw [← hm2]; exact Int.emod_nonneg _ (by decide)
          have m4 : m2 < 4294967296 := by have := Int.emod_lt_of_pos (m * (m + 75013)) (show (0 : Int) < 4294966997 by decide); omega
          rw [hm2]
          subst hk
          refine seqi fun k hk => ?_
          walk_at "rd"
          refine ⟨hmul _ m3 m4 _, .inl ⟨by decide, by decide⟩, .inl ⟨by decide, by decide⟩, by decide, ?_⟩
          obtain ⟨m5, hm5⟩ : ∃ m5, (m2 * m2 + 30427 * m2 + 19 * turn) % 4294966981 = m5 := ⟨_, rfl⟩
          have m6 : 0 ≤ m5 := by rw [← hm5]; exact Int.emod_nonneg _ (by decide)
          have m7 : m5 < 4294967296 := by have := Int.emod_lt_of_pos (m2 * m2 + 30427 * m2 + 19 * turn) (show (0 : Int) < 4294966981 by decide); omega
          rw [hm5]
          subst hk
          walk_at "rd"
          refine ⟨hmul _ m6 m7 _, by decide, ⟨by decide, by decide⟩, hs0, ?_⟩
          exact q _ _ (Int.emod_nonneg _ (by omega)) (Int.emod_lt_of_pos _ hs0) ⟨cells, turn + 1, left, h1'', h2'', h3, by omega, by omega⟩ b2
        walk_at "rd"
        refine dg_s h1'' (pen_cells _ _ _) ⟨_, rfl, _, .inl (.inl h2''), ite2 (fun ht => ?_) (fun ht => go)⟩
        refine ⟨⟨by decide, by decide, by decide⟩, ite2 (fun hge => ?_) (fun hge => go)⟩
        clear go
        refine seqi fun k2 hk2 => ?_
        walk_at "rd"
        refine ⟨⟨by decide, by decide, by decide⟩, ⟨hs0, hs1⟩, dp_s h1'' (pen_len _ _ _) ?_⟩
        rw [pen_putL]
        subst hk2
        walk_at "rd"
        refine ⟨⟨by decide, by decide, by decide⟩, hs0, ?_⟩
        refine q _ _ (Int.emod_nonneg _ (by omega)) (Int.emod_lt_of_pos _ hs0) ⟨cells, turn + 1, _, upd_same, ?_, h3, by omega, by omega⟩ (b2.trans ⟨fun b o hb n => by rw [upd_ne n]; exact hb, fun _ => by rw [upd_same]; intro z; cases z⟩)
        rw [upd_ne (ne_of h2'' h1'' (by intro z; cases z))]
        exact h2''
abbrev s__law_nine : Stmt := topS 15
theorem sc__law_nine : FnScope [] [] (defScope s__law_nine) := ⟨rfl, rfl, rfl, by decide +kernel, rfl, by decide +kernel, by decide +kernel⟩
theorem ok_nine {f : Addr} {fd : FuncData} (F : Fun K "_law_nine" "_law_nine" s__law_nine f fd) : FnOk P w K mg base CX0 1 f fd [] spNine := by
  refine F.ok sc__law_nine (fun vs H Q E h => ?_) (fun cdv A outer s H vs Q E hr h => ?_)
  · obtain ⟨rfl, _⟩ := h
    rfl
  · obtain ⟨rfl, q⟩ := h
    refine ⟨_, (pss_one (ps_ret (pe_lst (pa_cons pe_str (pa_cons pe_str (pa_cons pe_str (pa_cons pe_str (pa_cons pe_str (pa_cons pe_str (pa_cons pe_str (pa_cons pe_str (pa_cons pe_str pa_nil)))))))))))), ?_⟩
    refine (d_lst (ds := R9.map fun i => PyData.str (rn i)) ?_ (by decide)).go q
    repeat (first | exact d_nil | refine d_cons d_str ?_)
abbrev s__law_thirteen : Stmt := topS 16
theorem sc__law_thirteen : FnScope ["high", "found"] [] (defScope s__law_thirteen) := ⟨rfl, rfl, rfl, by decide +kernel, rfl, by decide +kernel, by decide +kernel⟩
theorem ok_thirteen {f : Addr} {fd : FuncData} (F : Fun K "_law_thirteen" "_law_thirteen" s__law_thirteen f fd) (D_law_nine : Dn P w K mg base 1 "_law_nine" [] spNine) : FnOk P w K mg base CX0 2 f fd [] spThir := by
  refine F.ok sc__law_thirteen (fun vs H Q E h => ?_) (fun cdv A outer s H vs Q E hr h => ?_)
  · obtain ⟨rfl, _⟩ := h
    rfl
  · obtain ⟨rfl, q⟩ := h
    refine ⟨_, (pss_cons (ps_set (i := 0) sc__law_thirteen.nd rfl (.inl rfl) (pe_lst (pa_cons pe_str (pa_cons pe_str pa_nil))))
    (pss_cons (ps_set (i := 1) sc__law_thirteen.nd rfl (.inl rfl) (pe_lst (pa_cons (pe_tup (pa_cons pe_str (pa_cons (pe_lst pa_nil) pa_nil))) (pa_cons (pe_tup (pa_cons pe_str (pa_cons (pe_lst (pa_cons pe_str pa_nil)) pa_nil))) (pa_cons (pe_tup (pa_cons pe_str (pa_cons (pe_lst (pa_cons pe_str pa_nil)) pa_nil))) (pa_cons (pe_tup (pa_cons pe_str (pa_cons (pe_lst (pa_cons pe_str (pa_cons pe_str pa_nil))) pa_nil))) pa_nil))))))
    (pss_cons (ps_set (i := 1) sc__law_thirteen.nd rfl (.inl rfl) (pe_op op_cat (pv 1) (pe_lst (pa_cons (pe_tup (pa_cons pe_str (pa_cons (pe_lst (pa_cons pe_str (pa_cons pe_str (pa_cons pe_str pa_nil)))) pa_nil))) (pa_cons (pe_tup (pa_cons pe_str (pa_cons (pv 0) pa_nil))) (pa_cons (pe_tup (pa_cons pe_str (pa_cons (pe_op op_cat (pv 0) (pe_lst (pa_cons pe_str pa_nil))) pa_nil))) pa_nil))))))
    (pss_cons (ps_set (i := 1) sc__law_thirteen.nd rfl (.inl rfl) (pe_op op_cat (pv 1) (pe_lst (pa_cons (pe_tup (pa_cons pe_str (pa_cons (pe_op op_cat (pv 0) (pe_lst (pa_cons pe_str pa_nil))) pa_nil))) (pa_cons (pe_tup (pa_cons pe_str (pa_cons (pe_lst (pa_cons pe_str (pa_cons pe_str (pa_cons pe_str (pa_cons pe_str (pa_cons pe_str pa_nil)))))) pa_nil))) pa_nil)))))
    (pss_cons (ps_set (i := 1) sc__law_thirteen.nd rfl (.inl rfl) (pe_op op_cat (pv 1) (pe_lst (pa_cons (pe_tup (pa_cons pe_str (pa_cons (pe_op op_cat (pv 0) (pe_lst (pa_cons pe_str pa_nil))) pa_nil))) (pa_cons (pe_tup (pa_cons pe_str (pa_cons (pe_op op_cat (pv 0) (pe_lst (pa_cons pe_str (pa_cons pe_str (pa_cons pe_str pa_nil))))) pa_nil))) pa_nil)))))
    (pss_one (ps_ret (pe_op op_cat (pv 1) (pe_lst (pa_cons (pe_tup (pa_cons pe_str (pa_cons (pe_op op_cat (pv 0) (pe_lst (pa_cons pe_str (pa_cons pe_str (pa_cons pe_str pa_nil))))) pa_nil))) (pa_cons (pe_tup (pa_cons pe_str (pa_cons (pd0 D_law_nine (hr.mono (by decide)) (by rfl)) pa_nil))) pa_nil))))))))))), ?_⟩
    have hc : ∀ {σ : L2.St} {H : Hp}, EvD (tCall spNine [] E0 tNil) σ H (ruD R9) := d_call d_nil fun vs H1 e1 hvs Q q => by
      cases hvs
      exact ⟨rfl, fun v H' e h => q v H' e h⟩
    refine q_asgD (d := ruD [0, 2]) ?_ fun v0 H1 e1 h0 => ?_
    · refine d_lst (ds := [.str (rn 0), .str (rn 2)]) ?_ (by decide)
      repeat (first | exact d_nil | refine d_cons d_str ?_)
    refine q_asgD (d := .list ([0, 1, 2, 3].map kiD)) ?_ fun v1 H2 e2 h1 => ?_
    · refine d_lst (ds := [0, 1, 2, 3].map kiD) ?_ (by decide)
      repeat' (first | exact d_nil | exact d_str | exact hc | exact d_var rfl h0 | refine d_cons ?_ ?_ | refine d_tup (ds := [_, _]) ?_ (show (2 : Nat) ≤ 1000 by decide) | refine d_cat (ds := List.map _ [0, 2]) (d_var rfl h0) ?_ (by decide) | refine d_lst ?_ (by decide))
    have h0 := h0.same e2
    refine q_asgD (d := .list ([0, 1, 2, 3, 4, 5, 6].map kiD)) ?_ fun v2 H3 e3 h2 => ?_
    · refine d_cat (ds := [0, 1, 2, 3].map kiD) (es := [4, 5, 6].map kiD) (d_var rfl h1) (d_lst ?_ (by decide)) (by decide)
      repeat' (first | exact d_nil | exact d_str | exact hc | exact d_var rfl h0 | refine d_cons ?_ ?_ | refine d_tup (ds := [_, _]) ?_ (show (2 : Nat) ≤ 1000 by decide) | refine d_cat (ds := List.map _ [0, 2]) (d_var rfl h0) ?_ (by decide) | refine d_lst ?_ (by decide))
    have h0 := h0.same e3
    refine q_asgD (d := .list ([0, 1, 2, 3, 4, 5, 6, 7, 8].map kiD)) ?_ fun v3 H4 e4 h3 => ?_
    · refine d_cat (ds := [0, 1, 2, 3, 4, 5, 6].map kiD) (es := [7, 8].map kiD) (d_var rfl h2) (d_lst ?_ (by decide)) (by decide)
      repeat' (first | exact d_nil | exact d_str | exact hc | exact d_var rfl h0 | refine d_cons ?_ ?_ | refine d_tup (ds := [_, _]) ?_ (show (2 : Nat) ≤ 1000 by decide) | refine d_cat (ds := List.map _ [0, 2]) (d_var rfl h0) ?_ (by decide) | refine d_lst ?_ (by decide))
    have h0 := h0.same e4
    refine q_asgD (d := .list ([0, 1, 2, 3, 4, 5, 6, 7, 8, 9, 10].map kiD)) ?_ fun v4 H5 e5 h4 => ?_
    · refine d_cat (ds := [0, 1, 2, 3, 4, 5, 6, 7, 8].map kiD) (es := [9, 10].map kiD) (d_var rfl h3) (d_lst ?_ (by decide)) (by decide)
      repeat' (first | exact d_nil | exact d_str | exact hc | exact d_var rfl h0 | refine d_cons ?_ ?_ | refine d_tup (ds := [_, _]) ?_ (show (2 : Nat) ≤ 1000 by decide) | refine d_cat (ds := List.map _ [0, 2]) (d_var rfl h0) ?_ (by decide) | refine d_lst ?_ (by decide))
    have h0 := h0.same e5
    refine s_retD (d := thD) ?_ fun v H6 e6 h => q v H6 (((((e1.trans e2).trans e3).trans e4).trans e5).trans e6) h
    refine d_cat (ds := [0, 1, 2, 3, 4, 5, 6, 7, 8, 9, 10].map kiD) (es := [11, 12].map kiD) (d_var rfl h4) (d_lst ?_ (by decide)) (by decide)
    repeat' (first | exact d_nil | exact d_str | exact hc | exact d_var rfl h0 | refine d_cons ?_ ?_ | refine d_tup (ds := [_, _]) ?_ (show (2 : Nat) ≤ 1000 by decide) | refine d_cat (ds := List.map _ [0, 2]) (d_var rfl h0) ?_ (by decide) | refine d_lst ?_ (by decide))
abbrev s__law_closure : Stmt := topS 17
theorem sc__law_closure : FnScope ["names", "kinds", "kind", "rules", "rule", "name"] ["names"] (defScope s__law_closure) := ⟨rfl, rfl, rfl, by decide +kernel, rfl, by decide +kernel, by decide +kernel⟩
theorem ok_closure {f : Addr} {fd : FuncData} (F : Fun K "_law_closure" "_law_closure" s__law_closure f fd) (D_law_nine : Dn P w K mg base 1 "_law_nine" [] spNine) (D_law_thirteen : Dn P w K mg base 2 "_law_thirteen" [] spThir) : FnOk P w K mg base CX0 3 f fd ["names"] spClos := by
  refine F.ok sc__law_closure (fun vs H Q E h => ?_) (fun cdv A outer s H vs Q E hr h => ?_)
  · obtain ⟨v, ns, rfl, _⟩ := h
    rfl
  · obtain ⟨v, ns, rfl, hv, hns, hlen, q⟩ := h
    have hu64 := hr.units
    refine ⟨_, (pss_cons (ps_set (i := 1) sc__law_closure.nd rfl (.inr rfl) (pe_lc (own := [("kind", 2), ("rules", 3)]) rfl sc__law_closure.nd (pi_listK K (pd0 D_law_thirteen (hr.mono (by decide)) (by rfl))) (blkOk_by (by kernel_rfl)) (fun _ _ _ _ _ => (pg_tupK K (pg_tup (n := 2) rfl (pgs_cons (pg_name (i := 2) sc__law_closure.nd rfl (.inl rfl)) (pgs_cons (pg_name (i := 3) sc__law_closure.nd rfl (.inr rfl)) pgs_nil))))) (fun _ _ _ _ _ => pts_one (pt_cmpR (op_eqDK K hu64) (pe_lc (own := [("name", 5)]) rfl sc__law_closure.nd (pi_listK K (pv 0)) (blkOk_by (by kernel_rfl)) (fun _ _ _ _ _ => (pg_name (i := 5) sc__law_closure.nd rfl (.inl rfl))) (fun _ _ _ _ _ => pts_one (pt_cmpR (op_notInK K) (pv 5) (pv 3) rfl)) (fun _ _ _ _ _ => (pv 5))) (pe_lst pa_nil) (nomark _))) (fun _ _ _ _ _ => (pv 3))))
    (pss_one (ps_ret (pe_lc (own := [("rule", 4)]) rfl sc__law_closure.nd (pi_listK K (pd0 D_law_nine (hr.mono (by decide)) (by rfl))) (blkOk_by (by kernel_rfl)) (fun _ _ _ _ _ => (pg_name (i := 4) sc__law_closure.nd rfl (.inr rfl))) (fun _ _ _ _ _ => pts_one (pt_cmpR (op_eqDK K hu64) (pe_lc (own := [("rules", 3)]) rfl sc__law_closure.nd (pi_listK K (pv 1)) (blkOk_by (by kernel_rfl)) (fun _ _ _ _ _ => (pg_name (i := 3) sc__law_closure.nd rfl (.inl rfl))) (fun _ _ _ _ _ => pts_one (pt_cmpR (op_notInK K) (pv 4) (pv 3) rfl)) (fun _ _ _ _ _ => (pv 3))) (pe_lst pa_nil) (nomark _))) (fun _ _ _ _ _ => (pv 4)))))), ?_⟩
    obtain ⟨av, rfl, hav⟩ := hv.rules
    show tSeq _ _ _ [some (.ref av), none, none, none, none, none] H
    refine seqi fun k hk => ?_
    walk_at "rd"
    refine ⟨rfl, fun v1 H1 e1 h1 => ?_⟩
    obtain ⟨a1, xs1, rfl, ha1, ht1⟩ := h1.list
    refine ⟨_, rfl, ⟨_, .inl (.inl ha1)⟩, lcg_old (jseq_list K _ _) (.inl (.inl ha1)) K13 kiD ht1 (by decide) (fun k => hasB k ns) (fun k => ruD (KR k)) (fun x kd hkd hx H2 e2 R1 R0 r1 r0 => ?_) (fun D2 H2 hD2 e2 hD => ?_)⟩
    · obtain ⟨xa, y1, y2, rfl, hxa, hy1, hy2⟩ := hx.pair
      obtain ⟨ya, rfl, hya⟩ := hy2.rules
      walk_at "rd"
      refine ⟨_, .inl (.inl (e2 _ _ hxa)), rfl, _, _, rfl, _, _, rfl, rfl, ⟨_, .inl (.inl ((e1.trans e2) _ _ hav))⟩, ?_⟩
      refine lcg_old (jseq_list K _ _) (.inl (.inl ((e1.trans e2) _ _ hav))) ns (fun n => .str (rn n)) (dts_rS ns) (by omega) (fun n => !decide (n ∈ KR kd)) (fun n => .str (rn n)) (fun z n hn hz H3 e3 S1 S0 s1 s0 => ?_) (fun D3 H3 hD3 e3 hD3d => ?_)
      · obtain rfl := hz.txt
        walk_at "rd"
        refine ⟨_, .inl (.inl (.inl ((e2.trans e3) _ _ hya))), rfl, flat_strs _, ?_⟩
        rw [inV_strs, decide_eq_decide.mpr (iff_of_eq (mem_rS (hns n hn) (KR_in kd hkd)))]
        exact ite2 (fun hb => s1 hb _ _ (Same.refl _) (.str _)) (fun hb => s0 (Bool.eq_false_iff.mpr hb) _ (Same.refl _))
      · refine ⟨Nat.zero_le _, fun p hp => ?_⟩
        refine eq_nilD (hD3d.same (same_new hp)) ((shp_ru (l := ns.filter fun n => !decide (n ∈ KR kd)) fun j hj => hns j (List.mem_filter.mp hj).1).ok (by decide)) upd_same ⟨_, rfl, ?_⟩
        rw [map_empty, filter_empty]
        exact ite2 (fun hb => r1 hb _ _ (e3.trans (same_new hp)) hy2) (fun hb => r0 (Bool.eq_false_iff.mpr hb) _ (e3.trans (same_new hp)))
    · subst hk
      walk_at "rd"
      refine ⟨rfl, fun v3 H3 e3 h3 => ?_⟩
      obtain ⟨a3, rfl, ha3⟩ := h3.rules
      obtain ⟨a3', xs3, e, ha3', ht3⟩ := h3.list
      cases e
      refine ⟨_, rfl, ⟨_, .inl (.inl ha3')⟩, ?_⟩
      obtain ⟨dD, xsD, e, hdD, htD⟩ := (hD.same e3).list
      cases e
      refine lcg_old (jseq_list K _ _) (.inl (.inl ha3')) R9 (fun n => .str (rn n)) ht3 (by decide) (fun r => ((K13.filter fun k => hasB k ns).filter fun k => !decide (r ∈ KR k)).isEmpty) (fun n => .str (rn n)) (fun z n hn hz H4 e4 S1 S0 s1 s0 => ?_) (fun D4 H4 hD4 e4 hD4d => ?_)
      · obtain rfl := hz.txt
        walk_at "rd"
        refine ⟨⟨_, .inl (.inl (e4 _ _ hdD))⟩, ?_⟩
        refine lcg_old (jseq_list K _ _) (.inl (.inl (e4 _ _ hdD))) (K13.filter fun k => hasB k ns) (fun k => ruD (KR k)) (htD.same e4) (Nat.lt_of_le_of_lt (List.length_filter_le _ _) (by decide)) (fun k => !decide (n ∈ KR k)) (fun k => ruD (KR k)) (fun z k hk hz H5 e5 T1 T0 t1 t0 => ?_) (fun D5 H5 hD5 e5 hD5d => ?_)
        · obtain ⟨az, rfl, haz⟩ := hz.rules
          walk_at "rd"
          refine ⟨_, .inl (.inl (.inl (e5 _ _ haz))), rfl, flat_strs _, ?_⟩
          rw [inV_strs, decide_eq_decide.mpr (iff_of_eq (mem_rS hn (KR_in k (List.mem_filter.mp hk).1)))]
          exact ite2 (fun hb => t1 hb _ _ (Same.refl _) hz) (fun hb => t0 (Bool.eq_false_iff.mpr hb) _ (Same.refl _))
        · refine ⟨Nat.zero_le _, fun p hp => ?_⟩
          refine eq_nilD (hD5d.same (same_new hp)) ((shp_lst (n := 1) fun d hd => ?_).ok (by decide)) upd_same ⟨_, rfl, ?_⟩
          · obtain ⟨i, hi, rfl⟩ := List.mem_map.mp hd
            exact shp_ru (KR_in i (List.mem_filter.mp (List.mem_filter.mp hi).1).1)
          · rw [map_empty]
            exact ite2 (fun hb => s1 hb _ _ (e5.trans (same_new hp)) (.str _)) (fun hb => s0 (Bool.eq_false_iff.mpr hb) _ (e5.trans (same_new hp)))
      · exact q _ _ (((e1.trans e2).trans e3).trans e4) hD4d
abbrev s__law_shuffled : Stmt := topS 14
theorem sc__law_shuffled : FnScope ["pen", "items", "left", "found"] ["pen", "items"] (defScope s__law_shuffled) := ⟨rfl, rfl, rfl, by decide +kernel, rfl, by decide +kernel, by decide +kernel⟩
theorem ok_shuffled {f : Addr} {fd : FuncData} (F : Fun K "_law_shuffled" "_law_shuffled" s__law_shuffled f fd) (D_law_draw : Dn P w K mg base 1 "_law_draw" ["pen", "span"] spDraw) (m_len : mg "len" = none) (m_list : mg "list" = none) : FnOk P w K mg base CX0 2 f fd ["pen", "items"] spShuf := by
  refine F.ok sc__law_shuffled (fun vs H Q E h => ?_) (fun cdv A outer s H vs Q E hr h => ?_)
  · obtain ⟨p, c, v, t, ds, n, rfl, _⟩ := h
    rfl
  · obtain ⟨p, c, v, t, ds, n, rfl, hP, hv, hsh, hn, hl, ht, q⟩ := h
    have hu64 := hr.units
    refine ⟨_, (pss_cons (ps_par (i := 2) (j := 3) rfl sc__law_shuffled.nd rfl rfl (by decide) rfl rfl (pa_cons (pe_callTy (call_listK K) (by rfl) m_list (by decide +kernel) (pa_cons (pv 1) pa_nil)) (pa_cons (pe_lst pa_nil) pa_nil)) rfl)
    (pss_cons (ps_while PassesOwn.never (pt_cmpR (op_neDK K hu64) (pv 2) (pe_lst pa_nil) (nomark _))
      (pss_one (ps_expr (pe_bmK K (by rfl) (pe_bm PySem.F.plainAttrs_list PySem.F.slot_list_append PySem.F.type_list_append mt_append (pv 3) (pa_cons (pe_bmK K (by rfl) (pe_bm PySem.F.plainAttrs_list PySem.F.slot_list_pop PySem.F.type_list_pop mt_popAt (pv 2) (pa_cons (pd D_law_draw (hr.mono (by decide)) (by rfl) (pa_cons (pv 0) (pa_cons (pe_callB (call_lenK K) (by rfl) m_len PySem.boot_len (pa_cons (pv 2) pa_nil)) pa_nil))) pa_nil))) pa_nil))))))
    (pss_one (ps_ret (pv 3))))), ?_⟩
    show tSeq _ _ _ [some (.ref p), some v, none, none] H
    obtain ⟨av, xs, rfl, hav, hxs⟩ := hv.list
    obtain ⟨kvs, hpk⟩ := hP.dict
    refine seqi fun k hk => ?_
    walk_at "rd"
    refine ⟨_, .inl (.inl hav), fun l hl0 => ⟨Nat.zero_le _, fun f1 hf0 => ⟨_, _, ⟨rfl, rfl⟩, ?_⟩⟩⟩
    subst hk
    have hf : H f1 = none := (same_new hl0).free hf0
    have nlf : l ≠ f1 := ne_of_none upd_same hf0
    have npl : l ≠ p := (ne_of_none hpk hl0).symm
    obtain ⟨cxs, hcx⟩ := hP.cells
    have nlc : l ≠ c := (ne_of_none hcx hl0).symm
    have nfc : f1 ≠ c := (ne_of_none hcx hf).symm
    have npf : f1 ≠ p := (ne_of_none hpk hf).symm
    have lx := hxs.len
    refine seqi fun k hk => ?_
    refine ⟨fun m σ H' => ∃ (L F : List V) (dl df : List PyData), σ = [some (.ref p), some (.ref av), some (.ref l), some (.ref f1)] ∧ m = L.length ∧ H' l = some (.lst L) ∧ H' f1 = some (.lst F) ∧ Dts H L dl ∧ Dts H F df ∧ (df ++ dl).Perm ds ∧ PenOk H' p c (t + df.length) ∧ But p H H',
      ⟨xs.length, xs, [], ds, [], rfl, rfl, ?_, ?_, hxs, .nil, List.Perm.refl _, ?_, ?_⟩, ?_⟩
    · rw [upd_ne nlf, upd_same]
    · rw [upd_same]
    · exact hP.same (Same.new (same_new hl0) hf0)
    · exact But.of (Same.new (same_new hl0) hf0)
    · rintro m σ H1 ⟨L, F, dl, df, rfl, rfl, h1, h2, d1, d2, pm, hP1, b1⟩
      have lens : df.length + dl.length = ds.length := by rw [← List.length_append]; exact pm.length_eq
      have ll := d1.len
      walk_at "rd"
      refine ⟨Nat.zero_le _, fun q1 hq1 => ?_⟩
      have hdl : ∀ d ∈ dl, Shp n d := fun d hd => hsh d (pm.mem_iff.mp (List.mem_append_right _ hd))
      have s2 : Same H1 (upd H1 q1 (.lst [])) := same_new hq1
      refine ne_nilD (ds := dl) (.lst (s2 _ _ h1) (((d1.but hpk b1)).same s2)) ((shp_lst hdl).ok (by omega)) upd_same ⟨_, rfl, ?_⟩
      cases dl with
      | nil =>
        have e0 : L = [] := List.length_eq_zero_iff.mp ll
        subst e0
        show k _ _
        subst hk
        walk_at "rd"
        rw [List.append_nil] at pm
        have e2 : df.length = ds.length := pm.length_eq
        rw [e2] at hP1
        exact q f1 _ df pm (hP1.same s2) (b1.trans (But.of s2)) (.lst (s2 _ _ h2) ((d2.but hpk b1).same s2))
      | cons d0 dr =>
        show ∃ N, _
        refine ⟨fun σ2 H2 => ∃ (L' F' : List V) (dl' df' : List PyData), σ2 = [some (.ref p), some (.ref av), some (.ref l), some (.ref f1)] ∧ L'.length + 1 = L.length ∧ H2 l = some (.lst L') ∧ H2 f1 = some (.lst F') ∧
          Dts H L' dl' ∧ Dts H F' df' ∧ (df' ++ dl').Perm ds ∧ PenOk H2 p c (t + df'.length) ∧ But p H H2, ?_, .inl ⟨rfl, _, .inl (.inl (s2 _ _ h2))⟩, .inl ⟨rfl, _, .inl (.inl (s2 _ _ h1))⟩, L, .inl (.inl (s2 _ _ h1)), ?_⟩
        · rintro σ2 H2 ⟨L', F', dl', df', e1, e2, e3, e4, e5, e6, e7, e8, e9⟩
          exact ⟨L'.length, by omega, e1, L', rfl, e3, F', e4, dl', e5, df', e6, e7, e8, e9⟩
        · have lpos : 0 < L.length := by rw [ll]; exact Nat.succ_pos _
          have ls : L.length ≤ 900 := by omega
          refine ⟨p, c, _, t + df.length, rfl, hP1.same s2, by omega, by omega, lg_small (by omega), fun r H2 r0 r1 P2 b2 => ?_⟩
          have h1' : H2 l = some (.lst L) := b2.1 _ _ (s2 _ _ h1) npl
          have h2' : H2 f1 = some (.lst F) := b2.1 _ _ (s2 _ _ h2) npf
          obtain ⟨j, rfl⟩ : ∃ j : Nat, r = j := ⟨r.toNat, by omega⟩
          have hj : j < L.length := by omega
          have hix : seqIndex? (j : Int) L.length = some j := by
            unfold seqIndex?
            have h1 : ¬ ((j : Int) < 0) := by omega
            simp only [if_neg h1]
            rw [if_pos (by simp; omega)]
            rfl
          refine ⟨L, _, rfl, h1', by omega, by omega, j, hix, _, List.getElem?_eq_getElem hj, F, ?_, ?_, ?_⟩
          · rw [upd_ne nlf.symm]
            exact h2'
          · rw [d2.len]
            exact small1000 (by omega)
          · have hdj : j < (d0 :: dr).length := by rw [← ll]; exact hj
            obtain ⟨v', hv', hdv⟩ := d1.get (i := j) (List.getElem?_eq_getElem hdj)
            rw [List.getElem?_eq_getElem hj] at hv'
            cases hv'
            refine ⟨L.eraseIdx j, F ++ [L[j]], (d0 :: dr).eraseIdx j, df ++ [(d0 :: dr)[j]], rfl, ?_, ?_, upd_same, d1.erase j, d2.app (.cons hdv .nil), ?_, ?_, ?_⟩
            · rw [List.length_eraseIdx_of_lt hj]
              omega
            · rw [upd_ne nlf, upd_same]
            · rw [List.append_assoc]
              exact ((perm_erase (d0 :: dr) j _ (List.getElem?_eq_getElem hdj)).append_left df).trans pm
            · rw [List.length_append, List.length_singleton, ← Nat.add_assoc]
              exact (P2.mut npl nlc).mut npf nfc
            · exact ((b1.trans (But.of s2)).trans b2).mut hl0 |>.mut hf
abbrev s__has_all : Stmt := topS 7
theorem sc__has_all : FnScope ["rules", "names", "name"] ["rules", "names"] (defScope s__has_all) := ⟨rfl, rfl, rfl, by decide +kernel, rfl, by decide +kernel, by decide +kernel⟩
theorem ok_has_all {f : Addr} {fd : FuncData} (F : Fun K "_has_all" "_has_all" s__has_all f fd) (X : TxR K w mg aR aD C T) : FnOk P w K mg base CX0 1 f fd ["rules", "names"] (spHas K) := by
  refine F.ok sc__has_all (fun vs H Q E h => ?_) (fun cdv A outer s H vs Q E hr h => ?_)
  · obtain ⟨a, b, k, ns, rfl, _⟩ := h
    rfl
  · obtain ⟨a, b, k, ns, rfl, hk, hns, hl, ha, hb, q⟩ := h
    have m_all := X.m_all
    refine ⟨_, (pss_one (ps_ret (pe_callB (call_allK K rfl) (by rfl) m_all (by decide +kernel) (pa_cons (pe_lc (own := [("name", 2)]) rfl sc__has_all.nd (pi_tupK K (pv 1)) (blkOk_by (by kernel_rfl)) (fun _ _ _ _ _ => (pg_name (i := 2) sc__has_all.nd rfl (.inl rfl))) (fun _ _ _ _ _ => pts_nil) (fun _ _ _ _ _ => (pe_cmpR (op_inK K) (pv 2) (pv 0) rfl))) pa_nil)))), ?_⟩
    show tRet _ _ [some (.ref a), some (.ref b), none] H
    walk_at "rd"
    refine ⟨⟨_, hb⟩, ?_⟩
    refine lcg_old (jseq_tup K _ _) hb ns (fun n => .str (rn n)) (dts_rS ns) (by omega) (fun _ => true) (fun n => .bool (decide (n ∈ KR k))) (fun z n hn hz H3 e3 S1 S0 s1 s0 => ?_) (fun D3 H3 hD3 e3 hD3d => ?_)
    · obtain rfl := hz.txt
      walk_at "rd"
      refine ⟨_, .inr (same_tup e3 ha), rfl, flat_strs _, ?_⟩
      rw [inV_strs, decide_eq_decide.mpr (iff_of_eq (mem_rS (hns n hn) (KR_in k hk)))]
      exact s1 rfl _ _ (Same.refl _) (.bl _)
    · obtain ⟨a3, xs3, e, ha3, hx3⟩ := hD3d.list
      cases e
      have e4 : ((ns.filter fun _ => true).map fun n => PyData.bool (decide (n ∈ KR k))) = (ns.map fun n => decide (n ∈ KR k)).map PyData.bool := by
        rw [List.filter_eq_self.mpr (fun _ _ => rfl), List.map_map]
        rfl
      rw [e4] at hx3
      refine ⟨_, rfl, _, .inl (.inl (by rw [ha3, dts_bools hx3])), ?_⟩
      rw [List.all_map]
      exact q _ e3
abbrev s__weakest_kind : Stmt := topS 8
theorem sc__weakest_kind : FnScope ["names", "fitting", "kind"] ["names"] (defScope s__weakest_kind) := ⟨rfl, rfl, rfl, by decide +kernel, rfl, by decide +kernel, by decide +kernel⟩
theorem ok_weakest {f : Addr} {fd : FuncData} (F : Fun K "_weakest_kind" "_weakest_kind" s__weakest_kind f fd) (X : TxR K w mg aR aD C T) (D_has_all : Dn P w K mg base 1 "_has_all" ["rules", "names"] (spHas K)) : FnOk P w K mg base CX0 2 f fd ["names"] (spWeak K) := by
  refine F.ok sc__weakest_kind (fun vs H Q E h => ?_) (fun cdv A outer s H vs Q E hr h => ?_)
  · obtain ⟨b, ns, rfl, _⟩ := h
    rfl
  · obtain ⟨b, ns, rfl, hns, hl, hb, q⟩ := h
    have m__RULES_OF := X.mD
    refine ⟨_, (pss_cons (ps_setLc (i := 1) (own := [("kind", 2)]) rfl sc__weakest_kind.nd rfl rfl (sw_true rfl rfl rfl (by decide +kernel)) (pi_kkK K (pe_glob rfl m__RULES_OF (v := .ref aD) rfl)) (blkOk_by (by kernel_rfl)) (fun _ _ _ _ _ => (pg_name (i := 2) sc__weakest_kind.nd rfl (.inl rfl))) (fun _ _ _ _ _ => pts_one (pt_val (pd D_has_all (hr.mono (by decide)) (by rfl) (pa_cons (pe_ix (ix_kdK K w) (pe_glob rfl m__RULES_OF (v := .ref aD) rfl) (pv 2) (fun _ _ => rfl)) (pa_cons (pv 0) pa_nil))))) (fun _ _ _ _ _ => (pv 2)))
    (pss_one (ps_ret (pe_ix (ix_listK K) (pv 1) pe_int (fun _ _ => rfl))))), ?_⟩
    show tSeq _ _ _ [some (.ref b), none, none] H
    refine seqi fun k0 hk0 => ?_
    walk_at "rd"
    refine ⟨_, X.kk, ?_⟩
    have ek : kS.map V.str = (K13.map fun k => V.str (kn k)) := rfl
    have dk : Dts H (kS.map V.str) (K13.map fun k => PyData.str (kn k)) := dts_strs kS
    refine lcg_old (jseq_kk kS) trivial K13 (fun k => .str (kn k)) dk (by decide) (fun k => hasB k ns) (fun k => .str (kn k)) (fun z k hk hz H3 e3 S1 S0 s1 s0 => ?_) (fun D3 H3 hD3 e3 hD3d => ?_)
    · obtain rfl := hz.txt
      walk_at "rd"
      refine ⟨_, X.dI k hk, T k, b, k, ns, rfl, hk, hns, hl, X.sT k hk _, same_tup e3 hb, fun H4 e4 => ⟨_, rfl, ?_⟩⟩
      exact ite2 (fun h => s1 h _ _ e4 (.str _)) (fun h => s0 (Bool.eq_false_iff.mpr h) _ e4)
    · subst hk0
      walk_at "rd"
      obtain ⟨a3, xs3, e, ha3, hx3⟩ := hD3d.list
      cases e
      obtain ⟨v0, hv0, hd0⟩ := hx3.get (i := 0) (d := .str (kn (weak ns))) (by rw [List.getElem?_map, (weak_head hns).1]; rfl)
      obtain rfl := hd0.txt
      exact ⟨_, .inl (.inl ha3), _, atI_nat (j := 0) hv0, q _ e3⟩
abbrev s_Rules___init__ : Stmt := inClass (topS 9) 0
theorem sc_Rules___init__ : FnScope ["self", "names", "name", "rule"] ["self", "names"] (defScope s_Rules___init__) := ⟨rfl, rfl, rfl, by decide +kernel, rfl, by decide +kernel, by decide +kernel⟩
theorem ok_init {f : Addr} {fd : FuncData} {dvs : List V} (F : FunD K "__init__" "Rules.__init__" (defArgs s_Rules___init__) (defBody s_Rules___init__) (defScope s_Rules___init__) dvs [] f fd) (X : TxR K w mg aR aD C T)
    (D_weakest_kind : Dn P w K mg base 2 "_weakest_kind" ["names"] (spWeak K)) : FnOk P w K mg base CX0 3 f fd ["self", "names"] (spInit C) := by
  refine F.ok sc_Rules___init__ (fun vs H Q E h => ?_) (fun cdv A outer s H vs Q E hr h => ?_)
  · obtain ⟨p, dx, v, ns, rfl, _⟩ := h
    rfl
  · obtain ⟨p, dx, v, ns, rfl, hp, hv, hns, hl, q⟩ := h
    have m__RULES := X.mR
    have m_tuple := X.m_tuple
    refine ⟨_, PSs.nox (pss_cons (ps_for PassesOwn.never rfl (pi_listK K (pv 1)) (pg_name (i := 2) sc_Rules___init__.nd rfl (.inl rfl))
      (pss_one (ps_if (pt_cmpR (op_notInK K) (pv 2) (pe_glob rfl m__RULES (v := .ref aR) rfl) rfl)
      (pss_one ps_never)
      pss_nil)))
    (pss_cons (ps_fldK K (pv 0) (pe_callTy (call_tupleK K) (by rfl) m_tuple (by decide +kernel) (pa_cons (pe_lc (own := [("rule", 3)]) rfl sc_Rules___init__.nd (pi_tupK K (pe_glob rfl m__RULES (v := .ref aR) rfl)) (blkOk_by (by kernel_rfl)) (fun _ _ _ _ _ => (pg_name (i := 3) sc_Rules___init__.nd rfl (.inl rfl))) (fun _ _ _ _ _ => pts_one (pt_cmpR (op_inK K) (pv 3) (pv 1) rfl)) (fun _ _ _ _ _ => (pv 3))) pa_nil)) rfl)
    (pss_one (ps_fldK K (pv 0) (pd D_weakest_kind (hr.mono (by decide)) (by rfl) (pa_cons (pe_fldK K (pv 0) rfl) pa_nil)) rfl)))), ?_⟩
    show tSeq _ _ _ [some (.ref p), some v, none, none] H
    obtain ⟨av, rfl, hav⟩ := hv.rules
    have npa : p ≠ av := ne_of hp hav (by intro z; cases z)
    refine seqi fun k0 hk0 => ?_
    walk_at "rd"
    refine ⟨⟨_, .inl (.inl hav)⟩, ?_⟩
    refine forg_by (jseq_list K _ _) (fun i σ' H' => ∃ y, σ' = [some (.ref p), some (.ref av), y, none] ∧ H' = H) ⟨none, rfl, rfl⟩ (fun i σ' H' _ h => by obtain ⟨y, _, rfl⟩ := h; exact .inl (.inl hav)) (fun i x σ' H' hx h => ?_) (fun σ' H' h => ?_)
    · obtain ⟨y, rfl, rfl⟩ := h
      obtain ⟨z, hz, rfl⟩ : ∃ n, n ∈ ns ∧ x = .str (rn n) := by
        have := List.mem_of_getElem? hx
        rw [List.mem_map] at this
        obtain ⟨z, hz, rfl⟩ := this
        obtain ⟨n, hn, rfl⟩ := List.mem_map.mp hz
        exact ⟨n, hn, rfl⟩
      walk_at "rd"
      refine ⟨_, .inr (X.sR _), rfl, flat_strs _, ?_⟩
      rw [inV_strs, decide_eq_true (show rn z ∈ rS R9 from List.mem_map_of_mem (hns z hz))]
      exact iteF ⟨_, rfl⟩
    · obtain ⟨y, rfl, rfl⟩ := h
      subst hk0
      dsimp only
      refine seqi fun k0 hk0 => ?_
      walk_at "rd"
      refine ⟨⟨_, X.sR _⟩, ?_⟩
      refine lcg_old (jseq_tup K _ _) (X.sR _) R9 (fun n => .str (rn n)) (dts_rS R9) (by decide) (fun n => decide (n ∈ ns)) (fun n => .str (rn n)) (fun z n hn hz H3 e3 S1 S0 s1 s0 => ?_) (fun D3 H3 hD3 e3 hD3d => ?_)
      · obtain rfl := hz.txt
        walk_at "rd"
        refine ⟨_, .inl (.inl (.inl (e3 _ _ hav))), rfl, flat_strs _, ?_⟩
        rw [inV_strs, decide_eq_decide.mpr (iff_of_eq (mem_rS hn hns))]
        exact ite2 (fun h => s1 h _ _ (Same.refl _) (.str _)) (fun h => s0 (Bool.eq_false_iff.mpr h) _ (Same.refl _))
      · obtain ⟨a3, e, ha3⟩ := Dt.rules (l := R9.filter fun n => decide (n ∈ ns)) hD3d
        cases e
        have hp3 := e3 _ _ hp
        refine ⟨_, rfl, _, .inl (.inl ha3), fun l hl => ?_⟩
        have npl : p ≠ l := ne_of_none hp3 hl
        refine ⟨C, dx, [], (by rw [upd_ne npl]; exact hp3), X.cl, X.nN, (by decide), ?_⟩
        generalize hH4 : upd (upd H3 l (HO.tup ((rS (R9.filter fun n => decide (n ∈ ns))).map V.str))) p (.ins C dx (putF ("_names" : Str) (.ref l) [])) = H4
        have h4p : H4 p = some (.ins C dx (putF ("_names" : Str) (.ref l) [])) := by rw [← hH4, upd_same]
        have h4l : H4 l = some (.tup ((rS (R9.filter fun n => decide (n ∈ ns))).map V.str)) := by rw [← hH4, upd_ne npl.symm, upd_same]
        have h4b : ∀ b o, H' b = some o → b ≠ p → H4 b = some o := fun b o hb n => by
          rw [← hH4, upd_ne n, upd_ne (ne_of_none (e3 _ _ hb) hl)]
          exact e3 _ _ hb
        subst hk0
        walk_at "rd"
        refine ⟨C, dx, _, h4p, X.cl, X.nN, _, (by rw [lookup_putF, if_pos rfl]), ?_⟩
        refine ⟨l, _, rfl, fun n hn => (List.mem_filter.mp hn).1, List.length_filter_le _ _, .inl (.inl h4l), fun H5 e5 => ?_⟩
        refine ⟨C, dx, _, e5 _ _ h4p, X.cl, X.nK, (show 1 < 1000 by decide), ?_⟩
        refine q _ (fun b o hb n => ?_) ⟨dx, l, upd_same, ?_⟩
        · rw [upd_ne n]
          exact e5 _ _ (h4b b o hb n)
        · rw [upd_ne npl.symm]
          exact e5 _ _ h4l
abbrev s_Rules_listed : Stmt := inClass (topS 9) 3
theorem sc_Rules_listed : FnScope ["self"] ["self"] (defScope s_Rules_listed) := ⟨rfl, rfl, rfl, by decide +kernel, rfl, by decide +kernel, by decide +kernel⟩
theorem ok_listed {f : Addr} {fd : FuncData} (F : Fun K "listed" "Rules.listed" s_Rules_listed f fd) (X : TxR K w mg aR aD C T) : FnOk P w K mg base CX0 1 f fd ["self"] (spListed C) := by
  refine F.ok sc_Rules_listed (fun vs H Q E h => ?_) (fun cdv A outer s H vs Q E hr h => ?_)
  · obtain ⟨p, s, rfl, _⟩ := h
    rfl
  · obtain ⟨p, s, rfl, ⟨dx, t, h1, h2⟩, q⟩ := h
    have m_list := X.m_list
    refine ⟨_, (pss_one (ps_ret (pe_callTy (call_listTK K) (by rfl) m_list (by decide +kernel) (pa_cons (pe_fldK K (pv 0) rfl) pa_nil)))), ?_⟩
    show tRet _ _ [some (.ref p)] H
    walk_at "rd"
    refine ⟨C, dx, _, h1, X.cl, X.nN, _, rFl_names _ _, t, rfl, _, .inl (.inl h2), fun l hl => q _ _ (same_new hl) ?_⟩
    rw [ruD_eq]
    exact .lst upd_same (dts_strs _)
abbrev s_Rules___eq__ : Stmt := inClass (topS 9) 13
theorem sc_Rules___eq__ : FnScope ["self", "other"] ["self", "other"] (defScope s_Rules___eq__) := ⟨rfl, rfl, rfl, by decide +kernel, rfl, by decide +kernel, by decide +kernel⟩
theorem ok_eq {f : Addr} {fd : FuncData} (F : Fun K "__eq__" "Rules.__eq__" s_Rules___eq__ f fd) (X : TxR K w mg aR aD C T) (IC : C8.InsC K C) : FnOk P w K mg base CX0 1 f fd ["self", "other"] (spEq C) := by
  refine F.ok sc_Rules___eq__ (fun vs H Q E h => ?_) (fun cdv A outer s H vs Q E hr h => ?_)
  · obtain ⟨p, s, p', s', rfl, _⟩ := h
    rfl
  · obtain ⟨p, s, p', s', rfl, ⟨dx, t, h1, h2⟩, ⟨dx', t', h1', h2'⟩, hs, hs', q⟩ := h
    have hu64 := hr.units
    have m_Rules := X.mC
    have m_isinstance := X.m_isi
    refine ⟨_, (pss_one (ps_ret (pe_and (pe_callB (C8.call_isC IC) (by rfl) m_isinstance (by decide +kernel) (pa_cons (pv 1) (pa_cons (pe_glob rfl m_Rules (v := .ref C) rfl) pa_nil))) (pe_one (pe_cmpR (op_eqDK K hu64) (pe_fldK K (pv 0) rfl) (pe_fldK K (pv 1) rfl) (nomark _)))))), ?_⟩
    show tRet _ _ [some (.ref p), some (.ref p')] H
    walk_at "rd"
    refine ⟨dx', _, h1', C, dx, _, h1, X.cl, X.nN, _, rFl_names _ _, C, dx', _, h1', X.cl, X.nN, _, rFl_names _ _, ?_⟩
    have sh : ∀ l : List Nat, (∀ n ∈ l, n ∈ R9) → Shp 1 (.tuple ((rS l).map PyData.str)) := fun l hl => shp_tup fun d hd => by
      obtain ⟨z, hz, rfl⟩ := List.mem_map.mp hd
      obtain ⟨n, hn, rfl⟩ := List.mem_map.mp hz
      exact shp_rn n (hl n hn)
    refine ⟨.tuple ((rS s).map PyData.str), .tuple ((rS s').map PyData.str), Dt.dp (.tup h2 (dts_strs _)), Dt.dp (.tup h2' (dts_strs _)), (sh s hs).ok (by decide), (sh s' hs').ok (by decide), ?_⟩
    have e : PyData.eqv (.tuple ((rS s).map PyData.str)) (.tuple ((rS s').map PyData.str)) = decide (s = s') := by
      show PyData.eqvAll _ _ = _
      rw [eqv_strs, decide_eq_decide.mpr (iff_of_eq (rS_inj hs hs'))]
    rw [e]
    exact q _ (Same.refl _)
end
end Fp

namespace Fp
open PySem PySem.Spec PyProof.Rows L2
local macro_rules | `(tactic| walk_at "rd") => `(tactic| simp only [cxK, cxKn, tRet, tRetN, rIntI, rIntB, rLenL, rListL, rListT, rAbs, tDisp, tPairs, tC, tCB, tCons, tNil, tSl, tVar, tNoPart, tPart, rSlL, tOp, tAsg, gName, tIfS, tDrop, tTest, tAnd, tOr, Evl.tCut, tNot, tB, rI0, rI, rIxL, rIxT, rIxD, tDGet, sDPut, tLst, tTup, tBM, tBM0, tPar, rAppend, rPopAt, rPop, rExtend, rTupL, tCall, tNext, rAll, rOwnIn, rOwn2, rCat, lc_iL, lc_iT, lc_iK, lc_iR, fr_iL, fr_iT, fr_iR, tYes, rIn, rEq, rNe, gTup, gCons, gNil, wipe, tMeth, tFld, sFld, tMake, tProp, tIf, tAndV, tOrV, tNotV, if_true, if_false, Bool.false_eq_true, List.map_cons, List.map_nil, List.nil_append, List.append_nil, List.cons_append, List.getElem?_cons_zero, List.getElem?_cons_succ, Option.some.injEq, exists_and_left, exists_eq_left', exists_eq_left, List.cons.injEq, and_true, true_and, V.ref.injEq, V.int.injEq, V.str.injEq, V.bl.injEq, List.set_cons_zero, List.set_cons_succ])
theorem filter_in {p : Nat → Bool} : R9.filter (fun i => decide (i ∈ R9.filter p)) = R9.filter p :=
  List.filter_congr fun i hi => by
    cases h : p i with
    | true => exact decide_eq_true (List.mem_filter.mpr ⟨hi, h⟩)
    | false => exact decide_eq_false fun z => absurd (List.mem_filter.mp z).2 (by rw [h]; decide)
section
variable {K : PySem.W.Frag} {P : Program} {w : World} {base : Heap} {mg : Str → Option Value} {aR aD C : Addr} {T : Nat → Addr}
/-- a new set by a test of the rules -/
def spOp (C : Addr) (f : List Nat → List Nat → Nat → Bool) : Sp := fun vs H Q _ => ∃ p s p' s', vs = [.ref p, .ref p'] ∧ RuAt H C p s ∧ RuAt H C p' s' ∧ (∀ n ∈ s, n ∈ R9) ∧ (∀ n ∈ s', n ∈ R9) ∧ s.length ≤ 9 ∧ ∀ p2 H', Same H H' → RuAt H' C p2 (R9.filter (f s s')) → Q (.ref p2) H'
def fOr (s s' : List Nat) (i : Nat) : Bool := decide (i ∈ s) || decide (i ∈ s')
def fAnd (s s' : List Nat) (i : Nat) : Bool := decide (i ∈ s) && decide (i ∈ s')
def fSub (s s' : List Nat) (i : Nat) : Bool := decide (i ∈ s) && !decide (i ∈ s')
def fXor (s s' : List Nat) (i : Nat) : Bool := !decide (decide (i ∈ s) = decide (i ∈ s'))
abbrev s_Rules___or__ : Stmt := inClass (topS 9) 9
theorem sc_Rules___or__ : FnScope ["self", "other", "rule"] ["self", "other"] (defScope s_Rules___or__) := ⟨rfl, rfl, rfl, by decide +kernel, rfl, by decide +kernel, by decide +kernel⟩
theorem ok_or {f : Addr} {fd : FuncData} (F : Fun K "__or__" "Rules.__or__" s_Rules___or__ f fd) (X : TxR K w mg aR aD C T) (N : Kn P w K mg base 3 C ["self", "names"] (spInit C)) : FnOk P w K mg base CX0 5 f fd ["self", "other"] (spOp C fOr) := by
  refine F.ok sc_Rules___or__ (fun vs H Q E h => ?_) (fun cdv A outer s H vs Q E hr h => ?_)
  · obtain ⟨p, s, p', s', rfl, _⟩ := h
    rfl
  · obtain ⟨p, s, p', s', rfl, ⟨dx, t, h1, h2⟩, ⟨dx', t', h1', h2'⟩, hs, hs', hl, q⟩ := h
    have m_Rules := X.mC
    have m__RULES := X.mR
    refine ⟨_, (pss_one (ps_ret (pk N (hr.mono (by decide)) (by rfl) m_Rules (pa_cons (pe_lc (own := [("rule", 2)]) rfl sc_Rules___or__.nd (pi_tupK K (pe_glob rfl m__RULES (v := .ref aR) rfl)) (blkOk_by (by kernel_rfl)) (fun _ _ _ _ _ => (pg_name (i := 2) sc_Rules___or__.nd rfl (.inl rfl))) (fun _ _ _ _ _ => pts_one (PW.pt (pw_or (pt_cmpR (op_inK K) (pv 2) (pe_fldK K (pv 0) rfl) rfl) (pw_or1 (pt_cmpR (op_inK K) (pv 2) (pe_fldK K (pv 1) rfl) rfl))))) (fun _ _ _ _ _ => (pv 2))) pa_nil)))), ?_⟩
    show tRet _ _ [some (.ref p), some (.ref p'), none] H
    walk_at "rd"
    refine ⟨⟨_, X.sR _⟩, ?_⟩
    refine lcg_old (jseq_tup K aR ((rS R9).map V.str)) (X.sR _) R9 (fun n => .str (rn n)) (dts_rS R9) (by decide) (fOr s s') (fun n => .str (rn n)) (fun z n hn hz H3 e3 S1 S0 s1 s0 => ?_) (fun D3 H3 hD3 e3 hD3d => ?_)
    · obtain rfl := hz.txt
      walk_at "rd"
      refine ⟨_, _, _, e3 _ _ h1, X.cl, X.nN, _, rFl_names _ _, t, rfl, _, .inr (.inl (.inl (e3 _ _ h2))), rfl, flat_strs _, ?_⟩
      rw [inV_strs, decide_eq_decide.mpr (iff_of_eq (mem_rS hn hs))]
      refine ite2 (fun h => s1 (by unfold fOr; rw [h]; rfl) _ _ (Same.refl _) (.str _)) (fun h => ?_)
      refine ⟨_, _, _, e3 _ _ h1', X.cl, X.nN, _, rFl_names _ _, t', rfl, _, .inr (.inl (.inl (e3 _ _ h2'))), rfl, flat_strs _, ?_⟩
      rw [inV_strs, decide_eq_decide.mpr (iff_of_eq (mem_rS hn hs'))]
      exact ite2 (fun h' => s1 (by unfold fOr; rw [h', Bool.or_true]) _ _ (Same.refl _) (.str _)) (fun h' => s0 (by unfold fOr; rw [Bool.eq_false_iff.mpr h, Bool.eq_false_iff.mpr h']; rfl) _ (Same.refl _))
    · exact mk_rules (l := R9.filter (fOr s s')) hD3d (fun n hn => (List.mem_filter.mp hn).1) (List.length_filter_le _ _) (fun p2 H' e' r' => q p2 H' (e3.trans e') (by rw [filter_in] at r'; exact r'))
abbrev s_Rules___and__ : Stmt := inClass (topS 9) 10
theorem sc_Rules___and__ : FnScope ["self", "other", "rule"] ["self", "other"] (defScope s_Rules___and__) := ⟨rfl, rfl, rfl, by decide +kernel, rfl, by decide +kernel, by decide +kernel⟩
theorem ok_and {f : Addr} {fd : FuncData} (F : Fun K "__and__" "Rules.__and__" s_Rules___and__ f fd) (X : TxR K w mg aR aD C T) (N : Kn P w K mg base 3 C ["self", "names"] (spInit C)) : FnOk P w K mg base CX0 5 f fd ["self", "other"] (spOp C fAnd) := by
  refine F.ok sc_Rules___and__ (fun vs H Q E h => ?_) (fun cdv A outer s H vs Q E hr h => ?_)
  · obtain ⟨p, s, p', s', rfl, _⟩ := h
    rfl
  · obtain ⟨p, s, p', s', rfl, ⟨dx, t, h1, h2⟩, ⟨dx', t', h1', h2'⟩, hs, hs', hl, q⟩ := h
    have m_Rules := X.mC
    refine ⟨_, (pss_one (ps_ret (pk N (hr.mono (by decide)) (by rfl) m_Rules (pa_cons (pe_lc (own := [("rule", 2)]) rfl sc_Rules___and__.nd (pi_tupK K (pe_fldK K (pv 0) rfl)) (blkOk_by (by kernel_rfl)) (fun _ _ _ _ _ => (pg_name (i := 2) sc_Rules___and__.nd rfl (.inl rfl))) (fun _ _ _ _ _ => pts_one (pt_cmpR (op_inK K) (pv 2) (pe_fldK K (pv 1) rfl) rfl)) (fun _ _ _ _ _ => (pv 2))) pa_nil)))), ?_⟩
    show tRet _ _ [some (.ref p), some (.ref p'), none] H
    walk_at "rd"
    refine ⟨_, _, _, h1, X.cl, X.nN, _, rFl_names _ _, t, rfl, ⟨_, .inl (.inl h2)⟩, ?_⟩
    refine lcg_old (jseq_tup K t ((rS s).map V.str)) (.inl (.inl h2)) s (fun n => .str (rn n)) (dts_rS s) (by omega) (fun n => decide (n ∈ s')) (fun n => .str (rn n)) (fun z n hn hz H3 e3 S1 S0 s1 s0 => ?_) (fun D3 H3 hD3 e3 hD3d => ?_)
    · obtain rfl := hz.txt
      walk_at "rd"
      refine ⟨_, _, _, e3 _ _ h1', X.cl, X.nN, _, rFl_names _ _, t', rfl, _, .inr (.inl (.inl (e3 _ _ h2'))), rfl, flat_strs _, ?_⟩
      rw [inV_strs, decide_eq_decide.mpr (iff_of_eq (mem_rS (hs n hn) hs'))]
      exact ite2 (fun h' => s1 h' _ _ (Same.refl _) (.str _)) (fun h' => s0 (Bool.eq_false_iff.mpr h') _ (Same.refl _))
    · refine mk_rules (l := s.filter fun n => decide (n ∈ s')) hD3d (fun n hn => hs n (List.mem_filter.mp hn).1) (Nat.le_trans (List.length_filter_le _ _) hl) (fun p2 H' e' r' => q p2 H' (e3.trans e') ?_)
      have e : (R9.filter fun i => decide (i ∈ s.filter fun n => decide (n ∈ s'))) = R9.filter (fAnd s s') := List.filter_congr fun i _ => by
        unfold fAnd
        rw [← Bool.decide_and]
        exact decide_eq_decide.mpr (by rw [List.mem_filter, decide_eq_true_eq])
      rw [e] at r'
      exact r'
abbrev s_Rules___sub__ : Stmt := inClass (topS 9) 11
theorem sc_Rules___sub__ : FnScope ["self", "other", "rule"] ["self", "other"] (defScope s_Rules___sub__) := ⟨rfl, rfl, rfl, by decide +kernel, rfl, by decide +kernel, by decide +kernel⟩
theorem ok_sub {f : Addr} {fd : FuncData} (F : Fun K "__sub__" "Rules.__sub__" s_Rules___sub__ f fd) (X : TxR K w mg aR aD C T) (N : Kn P w K mg base 3 C ["self", "names"] (spInit C)) : FnOk P w K mg base CX0 5 f fd ["self", "other"] (spOp C fSub) := by
  refine F.ok sc_Rules___sub__ (fun vs H Q E h => ?_) (fun cdv A outer s H vs Q E hr h => ?_)
  · obtain ⟨p, s, p', s', rfl, _⟩ := h
    rfl
  · obtain ⟨p, s, p', s', rfl, ⟨dx, t, h1, h2⟩, ⟨dx', t', h1', h2'⟩, hs, hs', hl, q⟩ := h
    have m_Rules := X.mC
    refine ⟨_, (pss_one (ps_ret (pk N (hr.mono (by decide)) (by rfl) m_Rules (pa_cons (pe_lc (own := [("rule", 2)]) rfl sc_Rules___sub__.nd (pi_tupK K (pe_fldK K (pv 0) rfl)) (blkOk_by (by kernel_rfl)) (fun _ _ _ _ _ => (pg_name (i := 2) sc_Rules___sub__.nd rfl (.inl rfl))) (fun _ _ _ _ _ => pts_one (pt_cmpR (op_notInK K) (pv 2) (pe_fldK K (pv 1) rfl) rfl)) (fun _ _ _ _ _ => (pv 2))) pa_nil)))), ?_⟩
    show tRet _ _ [some (.ref p), some (.ref p'), none] H
    walk_at "rd"
    refine ⟨_, _, _, h1, X.cl, X.nN, _, rFl_names _ _, t, rfl, ⟨_, .inl (.inl h2)⟩, ?_⟩
    refine lcg_old (jseq_tup K t ((rS s).map V.str)) (.inl (.inl h2)) s (fun n => .str (rn n)) (dts_rS s) (by omega) (fun n => !decide (n ∈ s')) (fun n => .str (rn n)) (fun z n hn hz H3 e3 S1 S0 s1 s0 => ?_) (fun D3 H3 hD3 e3 hD3d => ?_)
    · obtain rfl := hz.txt
      walk_at "rd"
      refine ⟨_, _, _, e3 _ _ h1', X.cl, X.nN, _, rFl_names _ _, t', rfl, _, .inr (.inl (.inl (e3 _ _ h2'))), rfl, flat_strs _, ?_⟩
      rw [inV_strs, decide_eq_decide.mpr (iff_of_eq (mem_rS (hs n hn) hs'))]
      exact ite2 (fun h' => s1 h' _ _ (Same.refl _) (.str _)) (fun h' => s0 (Bool.eq_false_iff.mpr h') _ (Same.refl _))
    · refine mk_rules (l := s.filter fun n => !decide (n ∈ s')) hD3d (fun n hn => hs n (List.mem_filter.mp hn).1) (Nat.le_trans (List.length_filter_le _ _) hl) (fun p2 H' e' r' => q p2 H' (e3.trans e') ?_)
      have e : (R9.filter fun i => decide (i ∈ s.filter fun n => !decide (n ∈ s'))) = R9.filter (fSub s s') := List.filter_congr fun i _ => by
        unfold fSub
        rw [← decide_not, ← Bool.decide_and]
        exact decide_eq_decide.mpr (by rw [List.mem_filter]; simp)
      rw [e] at r'
      exact r'
abbrev s_Rules___xor__ : Stmt := inClass (topS 9) 12
theorem sc_Rules___xor__ : FnScope ["self", "other", "rule"] ["self", "other"] (defScope s_Rules___xor__) := ⟨rfl, rfl, rfl, by decide +kernel, rfl, by decide +kernel, by decide +kernel⟩
theorem ok_xor {f : Addr} {fd : FuncData} (F : Fun K "__xor__" "Rules.__xor__" s_Rules___xor__ f fd) (X : TxR K w mg aR aD C T) (N : Kn P w K mg base 3 C ["self", "names"] (spInit C)) : FnOk P w K mg base CX0 5 f fd ["self", "other"] (spOp C fXor) := by
  refine F.ok sc_Rules___xor__ (fun vs H Q E h => ?_) (fun cdv A outer s H vs Q E hr h => ?_)
  · obtain ⟨p, s, p', s', rfl, _⟩ := h
    rfl
  · obtain ⟨p, s, p', s', rfl, ⟨dx, t, h1, h2⟩, ⟨dx', t', h1', h2'⟩, hs, hs', hl, q⟩ := h
    have m_Rules := X.mC
    have m__RULES := X.mR
    refine ⟨_, (pss_one (ps_ret (pk N (hr.mono (by decide)) (by rfl) m_Rules (pa_cons (pe_lc (own := [("rule", 2)]) rfl sc_Rules___xor__.nd (pi_tupK K (pe_glob rfl m__RULES (v := .ref aR) rfl)) (blkOk_by (by kernel_rfl)) (fun _ _ _ _ _ => (pg_name (i := 2) sc_Rules___xor__.nd rfl (.inl rfl))) (fun _ _ _ _ _ => pts_one (pt_cmpR op_ne (pe_cmpR (op_inK K) (pv 2) (pe_fldK K (pv 0) rfl) rfl) (pe_cmpR (op_inK K) (pv 2) (pe_fldK K (pv 1) rfl) rfl) (nomark _))) (fun _ _ _ _ _ => (pv 2))) pa_nil)))), ?_⟩
    show tRet _ _ [some (.ref p), some (.ref p'), none] H
    walk_at "rd"
    refine ⟨⟨_, X.sR _⟩, ?_⟩
    refine lcg_old (jseq_tup K aR ((rS R9).map V.str)) (X.sR _) R9 (fun n => .str (rn n)) (dts_rS R9) (by decide) (fXor s s') (fun n => .str (rn n)) (fun z n hn hz H3 e3 S1 S0 s1 s0 => ?_) (fun D3 H3 hD3 e3 hD3d => ?_)
    · obtain rfl := hz.txt
      walk_at "rd"
      refine ⟨_, _, _, e3 _ _ h1, X.cl, X.nN, _, rFl_names _ _, t, rfl, _, .inr (.inl (.inl (e3 _ _ h2))), rfl, flat_strs _, ?_⟩
      refine ⟨_, _, _, e3 _ _ h1', X.cl, X.nN, _, rFl_names _ _, t', rfl, _, .inr (.inl (.inl (e3 _ _ h2'))), rfl, flat_strs _, ?_⟩
      rw [inV_strs, inV_strs, decide_eq_decide.mpr (iff_of_eq (mem_rS hn hs)), decide_eq_decide.mpr (iff_of_eq (mem_rS hn hs'))]
      refine ⟨rfl, ?_⟩
      exact ite2 (fun h => s1 h _ _ (Same.refl _) (.str _)) (fun h => s0 (Bool.eq_false_iff.mpr h) _ (Same.refl _))
    · exact mk_rules (l := R9.filter (fXor s s')) hD3d (fun n hn => (List.mem_filter.mp hn).1) (List.length_filter_le _ _) (fun p2 H' e' r' => q p2 H' (e3.trans e') (by rw [filter_in] at r'; exact r'))
def le2 (s s' : List Nat) : Bool := hasB (weak s') s
def spCmp (C : Addr) (f : List Nat → List Nat → Bool) : Sp := fun vs H Q _ => ∃ p s p' s', vs = [.ref p, .ref p'] ∧ RuAt H C p s ∧ RuAt H C p' s' ∧ (∀ n ∈ s, n ∈ R9) ∧ (∀ n ∈ s', n ∈ R9) ∧ s.length ≤ 9 ∧ s'.length ≤ 9 ∧ weak s ∈ K13 ∧ weak s' ∈ K13 ∧ ∀ H', Same H H' → Q (.bl (f s s')) H'
abbrev s_Rules___le__ : Stmt := inClass (topS 9) 14
theorem sc_Rules___le__ : FnScope ["self", "other"] ["self", "other"] (defScope s_Rules___le__) := ⟨rfl, rfl, rfl, by decide +kernel, rfl, by decide +kernel, by decide +kernel⟩
theorem ok_le {f : Addr} {fd : FuncData} (F : Fun K "__le__" "Rules.__le__" s_Rules___le__ f fd) (X : TxR K w mg aR aD C T) (IC : C8.InsC K C) (D_has_all : Dn P w K mg base 1 "_has_all" ["rules", "names"] (spHas K)) : FnOk P w K mg base CX0 2 f fd ["self", "other"] (spCmp C le2) := by
  refine F.ok sc_Rules___le__ (fun vs H Q E h => ?_) (fun cdv A outer s H vs Q E hr h => ?_)
  · obtain ⟨p, s, p', s', rfl, _⟩ := h
    rfl
  · obtain ⟨p, s, p', s', rfl, ⟨dx, t, h1, h2⟩, ⟨dx', t', h1', h2'⟩, hs, hs', hl, hl', hk, hk', q⟩ := h
    have m_Rules := X.mC
    have m_isinstance := X.m_isi
    have m__RULES_OF := X.mD
    refine ⟨_, (pss_cons (ps_if (pt_not (pt_val (pe_callB (C8.call_isC IC) (by rfl) m_isinstance (by decide +kernel) (pa_cons (pv 1) (pa_cons (pe_glob rfl m_Rules (v := .ref C) rfl) pa_nil)))))
      (pss_one ps_never)
      pss_nil)
    (pss_one (ps_ret (pd D_has_all (hr.mono (by decide)) (by rfl) (pa_cons (pe_ix (ix_kdK K w) (pe_glob rfl m__RULES_OF (v := .ref aD) rfl) (pe_fldK K (pv 1) rfl) (fun _ _ => rfl)) (pa_cons (pe_fldK K (pv 0) rfl) pa_nil)))))), ?_⟩
    show tSeq _ _ _ [some (.ref p), some (.ref p')] H
    refine seqi fun k0 hk0 => ?_
    walk_at "rd"
    refine ⟨_, _, h1', iteF ?_⟩
    subst hk0
    walk_at "rd"
    refine ⟨_, _, _, h1', X.cl, X.nK, _, rFl_kind _ _, _, rfl, _, X.dI _ hk', _, _, _, h1, X.cl, X.nN, _, rFl_names _ _, ?_⟩
    exact ⟨_, t, weak s', s, rfl, hk', hs, hl, X.sT _ hk' _, .inl (.inl h2), fun H' e => q H' e⟩
abbrev s_Rules___lt__ : Stmt := inClass (topS 9) 15
theorem sc_Rules___lt__ : FnScope ["self", "other"] ["self", "other"] (defScope s_Rules___lt__) := ⟨rfl, rfl, rfl, by decide +kernel, rfl, by decide +kernel, by decide +kernel⟩
theorem ok_lt {f : Addr} {fd : FuncData} (F : Fun K "__lt__" "Rules.__lt__" s_Rules___lt__ f fd) (X : TxR K w mg aR aD C T) (IC : C8.InsC K C) (H_nf : PySem.W.notFirst K C (.ref C) = true) (M_le : Mn P w K mg base 2 C "__le__" ["self", "other"] (spCmp C le2)) : FnOk P w K mg base CX0 3 f fd ["self", "other"] (spCmp C fun s s' => le2 s s' && !le2 s' s) := by
  refine F.ok sc_Rules___lt__ (fun vs H Q E h => ?_) (fun cdv A outer s H vs Q E hr h => ?_)
  · obtain ⟨p, s, p', s', rfl, _⟩ := h
    rfl
  · obtain ⟨p, s, p', s', rfl, r1, r2, hs, hs', hl, hl', hk, hk', q⟩ := h
    obtain ⟨dx, t, h1, h2⟩ := id r1
    obtain ⟨dx', t', h1', h2'⟩ := id r2
    have m_Rules := X.mC
    have m_isinstance := X.m_isi
    refine ⟨_, (pss_cons (ps_if (pt_not (pt_val (pe_callB (C8.call_isC IC) (by rfl) m_isinstance (by decide +kernel) (pa_cons (pv 1) (pa_cons (pe_glob rfl m_Rules (v := .ref C) rfl) pa_nil)))))
      (pss_one ps_never)
      pss_nil)
    (pss_one (ps_ret (pe_and (pe_cmpR (op_ownCmp (op := .LtE) (fun _ _ => rfl) H_nf M_le (hr.mono (by decide))) (pv 0) (pv 1) (nomark _)) (pe_one (pe_not (pe_cmpR (op_ownCmp (op := .LtE) (fun _ _ => rfl) H_nf M_le (hr.mono (by decide))) (pv 1) (pv 0) (nomark _)))))))), ?_⟩
    show tSeq _ _ _ [some (.ref p), some (.ref p')] H
    refine seqi fun k0 hk0 => ?_
    walk_at "rd"
    refine ⟨_, _, h1', iteF ?_⟩
    subst hk0
    walk_at "rd"
    refine ⟨_, _, h1, _, _, h1', p, s, p', s', rfl, r1, r2, hs, hs', hl, hl', hk, hk', fun H1 e1 => ?_⟩
    refine ⟨_, rfl, ite2 (fun h => ?_) (fun h => ?_)⟩
    · refine ⟨_, _, e1 _ _ h1', _, _, e1 _ _ h1, p', s', p, s, rfl, r2.same e1, r1.same e1, hs', hs, hl', hl, hk', hk, fun H2 e2 => ⟨_, rfl, ?_⟩⟩
      have e : (le2 s s' && !le2 s' s) = !le2 s' s := by rw [h, Bool.true_and]
      have z := q H2 (e1.trans e2)
      dsimp only at z
      rw [e] at z
      exact z
    · have e : (le2 s s' && !le2 s' s) = false := by rw [Bool.eq_false_iff.mpr h, Bool.false_and]
      have z := q H1 e1
      dsimp only at z
      rw [e] at z
      exact z
abbrev s_Rules___ge__ : Stmt := inClass (topS 9) 16
theorem sc_Rules___ge__ : FnScope ["self", "other"] ["self", "other"] (defScope s_Rules___ge__) := ⟨rfl, rfl, rfl, by decide +kernel, rfl, by decide +kernel, by decide +kernel⟩
theorem ok_ge {f : Addr} {fd : FuncData} (F : Fun K "__ge__" "Rules.__ge__" s_Rules___ge__ f fd) (X : TxR K w mg aR aD C T) (IC : C8.InsC K C) (H_nf : PySem.W.notFirst K C (.ref C) = true) (M_le : Mn P w K mg base 2 C "__le__" ["self", "other"] (spCmp C le2)) : FnOk P w K mg base CX0 3 f fd ["self", "other"] (spCmp C fun s s' => le2 s' s) := by
  refine F.ok sc_Rules___ge__ (fun vs H Q E h => ?_) (fun cdv A outer s H vs Q E hr h => ?_)
  · obtain ⟨p, s, p', s', rfl, _⟩ := h
    rfl
  · obtain ⟨p, s, p', s', rfl, r1, r2, hs, hs', hl, hl', hk, hk', q⟩ := h
    obtain ⟨dx, t, h1, h2⟩ := id r1
    obtain ⟨dx', t', h1', h2'⟩ := id r2
    have m_Rules := X.mC
    have m_isinstance := X.m_isi
    refine ⟨_, (pss_cons (ps_if (pt_not (pt_val (pe_callB (C8.call_isC IC) (by rfl) m_isinstance (by decide +kernel) (pa_cons (pv 1) (pa_cons (pe_glob rfl m_Rules (v := .ref C) rfl) pa_nil)))))
      (pss_one ps_never)
      pss_nil)
    (pss_one (ps_ret (pe_cmpR (op_ownCmp (op := .LtE) (fun _ _ => rfl) H_nf M_le (hr.mono (by decide))) (pv 1) (pv 0) (nomark _))))), ?_⟩
    show tSeq _ _ _ [some (.ref p), some (.ref p')] H
    refine seqi fun k0 hk0 => ?_
    walk_at "rd"
    refine ⟨_, _, h1', iteF ?_⟩
    subst hk0
    walk_at "rd"
    exact ⟨_, _, h1', _, _, h1, p', s', p, s, rfl, r2, r1, hs', hs, hl', hl, hk', hk, q⟩
abbrev s_Rules___gt__ : Stmt := inClass (topS 9) 17
theorem sc_Rules___gt__ : FnScope ["self", "other"] ["self", "other"] (defScope s_Rules___gt__) := ⟨rfl, rfl, rfl, by decide +kernel, rfl, by decide +kernel, by decide +kernel⟩
theorem ok_gt {f : Addr} {fd : FuncData} (F : Fun K "__gt__" "Rules.__gt__" s_Rules___gt__ f fd) (X : TxR K w mg aR aD C T) (IC : C8.InsC K C) (H_nf : PySem.W.notFirst K C (.ref C) = true) (M_lt : Mn P w K mg base 3 C "__lt__" ["self", "other"] (spCmp C fun s s' => le2 s s' && !le2 s' s)) : FnOk P w K mg base CX0 4 f fd ["self", "other"] (spCmp C fun s s' => le2 s' s && !le2 s s') := by
  refine F.ok sc_Rules___gt__ (fun vs H Q E h => ?_) (fun cdv A outer s H vs Q E hr h => ?_)
  · obtain ⟨p, s, p', s', rfl, _⟩ := h
    rfl
  · obtain ⟨p, s, p', s', rfl, r1, r2, hs, hs', hl, hl', hk, hk', q⟩ := h
    obtain ⟨dx, t, h1, h2⟩ := id r1
    obtain ⟨dx', t', h1', h2'⟩ := id r2
    have m_Rules := X.mC
    have m_isinstance := X.m_isi
    refine ⟨_, (pss_cons (ps_if (pt_not (pt_val (pe_callB (C8.call_isC IC) (by rfl) m_isinstance (by decide +kernel) (pa_cons (pv 1) (pa_cons (pe_glob rfl m_Rules (v := .ref C) rfl) pa_nil)))))
      (pss_one ps_never)
      pss_nil)
    (pss_one (ps_ret (pe_cmpR (op_ownCmp (op := .Lt) (fun _ _ => rfl) H_nf M_lt (hr.mono (by decide))) (pv 1) (pv 0) (nomark _))))), ?_⟩
    show tSeq _ _ _ [some (.ref p), some (.ref p')] H
    refine seqi fun k0 hk0 => ?_
    walk_at "rd"
    refine ⟨_, _, h1', iteF ?_⟩
    subst hk0
    walk_at "rd"
    exact ⟨_, _, h1', _, _, h1, p', s', p, s, rfl, r2, r1, hs', hs, hl', hl, hk', hk, q⟩
end
end Fp

namespace Fp
open PySem PySem.Spec PyProof.Rows L2
local macro_rules | `(tactic| walk_at "rd") => `(tactic| simp only [cxK, cxKn, tRet, tRetN, rIntI, rIntB, rLenL, rListL, rListT, rAbs, tDisp, tPairs, tC, tCB, tCons, tNil, tSl, tVar, tNoPart, tPart, rSlL, tOp, tAsg, gName, tIfS, tDrop, tTest, tAnd, tOr, Evl.tCut, tNot, tB, rI0, rI, rIxL, rIxT, rIxD, tDGet, sDPut, tLst, tTup, tBM, tBM0, tPar, rAppend, rPopAt, rPop, rExtend, rTupL, tCall, tNext, rAll, rOwnIn, rOwn2, rCat, lc_iL, lc_iT, lc_iK, lc_iR, fr_iL, fr_iT, fr_iR, tYes, rIn, rEq, rNe, gTup, gCons, gNil, wipe, tMeth, tFld, sFld, tMake, tProp, tIf, tAndV, tOrV, tNotV, if_true, if_false, Bool.false_eq_true, List.map_cons, List.map_nil, List.nil_append, List.append_nil, List.cons_append, List.getElem?_cons_zero, List.getElem?_cons_succ, Option.some.injEq, exists_and_left, exists_eq_left', exists_eq_left, List.cons.injEq, and_true, true_and, V.ref.injEq, V.int.injEq, V.str.injEq, V.bl.injEq, List.set_cons_zero, List.set_cons_succ])
section
variable {K : PySem.W.Frag} {P : Program} {w : World} {base : Heap} {mg : Str → Option Value} {aR aD C : Addr} {T : Nat → Addr}
def spPick : Sp := fun vs H Q _ => ∃ p c o t ds, vs = [.ref p, o] ∧ PenOk H p c t ∧ t ≤ 900000000 ∧ Dt H o (.list ds) ∧ 0 < ds.length ∧ ds.length ≤ 900 ∧ ∀ v H' d, d ∈ ds → Dt H' v d → PenOk H' p c (t + 1) → But p H H' → Q v H'
abbrev s__law_pick : Stmt := topS 13
theorem sc__law_pick : FnScope ["pen", "options"] ["pen", "options"] (defScope s__law_pick) := ⟨rfl, rfl, rfl, by decide +kernel, rfl, by decide +kernel, by decide +kernel⟩
theorem ok_pick {f : Addr} {fd : FuncData} (F : Fun K "_law_pick" "_law_pick" s__law_pick f fd) (D_law_draw : Dn P w K mg base 1 "_law_draw" ["pen", "span"] spDraw) (m_len : mg "len" = none) : FnOk P w K mg base CX0 2 f fd ["pen", "options"] spPick := by
  refine F.ok sc__law_pick (fun vs H Q E h => ?_) (fun cdv A outer s H vs Q E hr h => ?_)
  · obtain ⟨p, c, o, t, ds, rfl, _⟩ := h
    rfl
  · obtain ⟨p, c, o, t, ds, rfl, hP, ht, ho, h0, hl, q⟩ := h
    obtain ⟨ao, xs, rfl, hao, hxs⟩ := ho.list
    obtain ⟨kvs, hpk⟩ := hP.dict
    refine ⟨_, (pss_one (ps_ret (pe_ix (ix_listK K) (pv 1) (pd D_law_draw (hr.mono (by decide)) (by rfl) (pa_cons (pv 0) (pa_cons (pe_callB (call_lenK K) (by rfl) m_len PySem.boot_len (pa_cons (pv 1) pa_nil)) pa_nil))) (fun _ _ => rfl)))), ?_⟩
    show tRet _ _ [some (.ref p), some (.ref ao)] H
    have lx := hxs.len
    walk_at "rd"
    refine ⟨_, .inl (.inl hao), p, c, _, t, rfl, hP, by omega, by omega, lg_small (by omega), fun r H2 r0 r1 P2 b2 => ?_⟩
    obtain ⟨j, rfl⟩ : ∃ j : Nat, r = j := ⟨r.toNat, by omega⟩
    have hj : j < ds.length := by omega
    obtain ⟨v, hv, hd⟩ := hxs.get (List.getElem?_eq_getElem hj)
    exact ⟨_, _, rfl, .inl (.inl (b2.1 _ _ hao (ne_of hao hpk (by intro z; cases z)))), _, atI_nat (j := j) hv, q _ _ _ (List.getElem_mem hj) (hd.but hpk b2) P2 b2⟩
def spFew : Sp := fun vs H Q _ => ∃ p c v m t ds, vs = [.ref p, v, .int m] ∧ PenOk H p c t ∧ Dt H v (.list ds) ∧ 0 ≤ m ∧ m ≤ 1000 ∧ ds.length ≤ 900 ∧ t ≤ 900000000 ∧
  ∀ a H' es rest, (es ++ rest).Perm ds → PenOk H' p c (t + ds.length) → But p H H' → Dt H' (.ref a) (.list es) → Q (.ref a) H'
abbrev s__law_few : Stmt := topS 18
theorem sc__law_few : FnScope ["pen", "items", "span", "left", "found", "k"] ["pen", "items", "span"] (defScope s__law_few) := ⟨rfl, rfl, rfl, by decide +kernel, rfl, by decide +kernel, by decide +kernel⟩
theorem ok_few {f : Addr} {fd : FuncData} (F : Fun K "_law_few" "_law_few" s__law_few f fd) (D_law_draw : Dn P w K mg base 1 "_law_draw" ["pen", "span"] spDraw) (m_len : mg "len" = none) (m_list : mg "list" = none) (m_int : mg "int" = none) (m_min : mg "min" = none) (m_range : mg "range" = none) : FnOk P w K mg base CX0 2 f fd ["pen", "items", "span"] spFew := by
  refine F.ok sc__law_few (fun vs H Q E h => ?_) (fun cdv A outer s H vs Q E hr h => ?_)
  · obtain ⟨p, c, v, m, t, ds, rfl, _⟩ := h
    rfl
  · obtain ⟨p, c, v, m, t, ds, rfl, hP, hv, hm0, hm1, hl, ht, q⟩ := h
    refine ⟨_, (pss_cons (ps_par (i := 3) (j := 4) rfl sc__law_few.nd rfl rfl (by decide) rfl rfl (pa_cons (pe_callTy (call_listK K) (by rfl) m_list (by decide +kernel) (pa_cons (pv 1) pa_nil)) (pa_cons (pe_lst pa_nil) pa_nil)) rfl)
    (pss_cons (ps_for PassesOwn.never rfl (pi_range1 rfl m_range (pa_cons (pe_callB (call_min2 rfl) (by rfl) m_min (by decide +kernel) (pa_cons (pe_callTy call_intI (by rfl) m_int (by decide +kernel) (pa_cons (pv 2) pa_nil)) (pa_cons (pe_callB (call_lenK K) (by rfl) m_len PySem.boot_len (pa_cons (pv 3) pa_nil)) pa_nil))) pa_nil)) (pg_name (i := 5) sc__law_few.nd rfl (.inl rfl))
      (pss_one (ps_expr (pe_bmK K (by rfl) (pe_bm PySem.F.plainAttrs_list PySem.F.slot_list_append PySem.F.type_list_append mt_append (pv 4) (pa_cons (pe_bmK K (by rfl) (pe_bm PySem.F.plainAttrs_list PySem.F.slot_list_pop PySem.F.type_list_pop mt_popAt (pv 3) (pa_cons (pd D_law_draw (hr.mono (by decide)) (by rfl) (pa_cons (pv 0) (pa_cons (pe_callB (call_lenK K) (by rfl) m_len PySem.boot_len (pa_cons (pv 3) pa_nil)) pa_nil))) pa_nil))) pa_nil))))))
    (pss_one (ps_ret (pv 4))))), ?_⟩
    show tSeq _ _ _ [some (.ref p), some v, some (.int m), none, none, none] H
    obtain ⟨av, xs, rfl, hav, hxs⟩ := hv.list
    obtain ⟨kvs, hpk⟩ := hP.dict
    have lx := hxs.len
    refine seqi fun k hk => ?_
    walk_at "rd"
    refine ⟨_, .inl (.inl hav), fun l hl0 => ⟨Nat.zero_le _, fun f1 hf0 => ⟨_, _, ⟨rfl, rfl⟩, ?_⟩⟩⟩
    subst hk
    have hf : H f1 = none := (same_new hl0).free hf0
    have nlf : l ≠ f1 := ne_of_none upd_same hf0
    have npl : l ≠ p := (ne_of_none hpk hl0).symm
    obtain ⟨cxs, hcx⟩ := hP.cells
    have nlc : l ≠ c := (ne_of_none hcx hl0).symm
    have nfc : f1 ≠ c := (ne_of_none hcx hf).symm
    have npf : f1 ≠ p := (ne_of_none hpk hf).symm
    have e0 : Same H (upd (upd H l (.lst xs)) f1 (.lst [])) := Same.new (same_new hl0) hf0
    have g1 : (upd (upd H l (.lst xs)) f1 (.lst [])) l = some (.lst xs) := by rw [upd_ne nlf, upd_same]
    have g2 : (upd (upd H l (.lst xs)) f1 (.lst [])) f1 = some (.lst []) := upd_same
    revert e0 g1 g2
    generalize (upd (upd H l (.lst xs)) f1 (.lst [])) = H0
    intro e0 g1 g2
    refine seqi fun k hk => ?_
    walk_at "rd"
    refine ⟨_, .inl (.inl g1), _, _, ⟨rfl, rfl⟩, ?_⟩
    generalize hn : (if ((xs.length : Nat) : Int) < m then ((xs.length : Nat) : Int) else m) = n
    have hn0 : 0 ≤ n ∧ n ≤ xs.length := by rw [← hn]; split <;> omega
    refine ⟨by omega, by omega, ?_⟩
    obtain ⟨Pv, hPv⟩ : ∃ Pv : Nat → L2.St → Hp → Prop, Pv = fun i σ' H' => ∃ (L F : List V) (dl df : List PyData) (y : Option V), σ' = [some (.ref p), some (.ref av), some (.int m), some (.ref l), some (.ref f1), y] ∧ df.length = i ∧ H' l = some (.lst L) ∧ H' f1 = some (.lst F) ∧
      Dts H L dl ∧ Dts H F df ∧ (df ++ dl).Perm ds ∧ PenOk H' p c (t + i) ∧ But p H H' := ⟨_, rfl⟩
    refine forg_by (jseq_rng 0 n.toNat) Pv (by rw [hPv]; exact ⟨xs, [], ds, [], none, rfl, rfl, g1, g2, hxs, .nil, List.Perm.refl _, hP.same e0, But.of e0⟩) (fun i σ' H' _ h => trivial) (fun i x σ' H1 hx h => ?_) (fun σ' H1 h => ?_) <;> rw [hPv] at h
    · obtain ⟨L, F, dl, df, y, rfl, hdf, h1, h2, d1, d2, pm, hP1, b1⟩ := h
      have hi : i < n.toNat := by
        have := (List.getElem?_eq_some_iff.mp hx).1
        rw [rngV_len] at this
        exact this
      have lens : df.length + dl.length = ds.length := by rw [← List.length_append]; exact pm.length_eq
      have ll := d1.len
      have lf := d2.len
      walk_at "rd"
      refine ⟨.inl ⟨rfl, _, .inl (.inl h2)⟩, .inl ⟨rfl, _, .inl (.inl h1)⟩, L, .inl (.inl h1), ?_⟩
      refine ⟨p, c, _, t + i, rfl, hP1, by omega, by omega, lg_small (by omega), fun r H2 r0 r1 P2 b2 => ?_⟩
      have h1' : H2 l = some (.lst L) := b2.1 _ _ h1 npl
      have h2' : H2 f1 = some (.lst F) := b2.1 _ _ h2 npf
      obtain ⟨j, rfl⟩ : ∃ j : Nat, r = j := ⟨r.toNat, by omega⟩
      have hj : j < L.length := by omega
      have hix : seqIndex? (j : Int) L.length = some j := by
        unfold seqIndex?
        have h1 : ¬ ((j : Int) < 0) := by omega
        simp only [if_neg h1]
        rw [if_pos (by simp; omega)]
        rfl
      have hdj : j < dl.length := by omega
      obtain ⟨v', hv', hdv⟩ := d1.get (i := j) (List.getElem?_eq_getElem hdj)
      refine ⟨L, _, rfl, h1', by omega, by omega, j, hix, _, hv', F, ?_, small1000 (by omega), ?_⟩
      · rw [upd_ne nlf.symm]
        exact h2'
      · rw [hPv]
        refine ⟨L.eraseIdx j, F ++ [v'], dl.eraseIdx j, df ++ [dl[j]], _, rfl, by rw [List.length_append, hdf]; rfl, ?_, upd_same, d1.erase j, d2.app (.cons hdv .nil), ?_, ?_, ?_⟩
        · rw [upd_ne nlf, upd_same]
        · rw [List.append_assoc]
          exact ((perm_erase dl j _ (List.getElem?_eq_getElem hdj)).append_left df).trans pm
        · exact (P2.mut npl nlc).mut npf nfc
        · exact ((b1.trans b2).mut hl0).mut hf
    · obtain ⟨L, F, dl, df, y, rfl, hdf, h1, h2, d1, d2, pm, hP1, b1⟩ := h
      have lens : df.length + dl.length = ds.length := by rw [← List.length_append]; exact pm.length_eq
      rw [rngV_len] at hdf hP1
      subst hk
      dsimp only
      walk_at "rd"
      exact q f1 H1 df dl pm (hP1.mono (by omega)) b1 (.lst h2 (d2.but hpk b1))
end
end Fp

namespace Fp
open PySem PySem.Spec PyProof.Rows L2
local macro_rules | `(tactic| walk_at "rd") => `(tactic| simp only [cxK, cxKn, tRet, tRetN, rIntI, rIntB, rLenL, rListL, rListT, rAbs, tDisp, tPairs, tC, tCB, tCons, tNil, tSl, tVar, tNoPart, tPart, rSlL, tOp, tAsg, gName, tIfS, tDrop, tTest, tAnd, tOr, Evl.tCut, tNot, tB, rI0, rI, rIxL, rIxT, rIxD, tDGet, sDPut, tLst, tTup, tBM, tBM0, tPar, rAppend, rPopAt, rPop, rExtend, rTupL, tCall, tNext, rAll, rOwnIn, rOwn2, rCat, lc_iL, lc_iT, lc_iK, lc_iR, fr_iL, fr_iT, fr_iR, tYes, rIn, rEq, rNe, gTup, gCons, gNil, wipe, tMeth, tFld, sFld, tMake, tProp, tIf, tAndV, tOrV, tNotV, if_true, if_false, Bool.false_eq_true, List.map_cons, List.map_nil, List.nil_append, List.append_nil, List.cons_append, List.getElem?_cons_zero, List.getElem?_cons_succ, Option.some.injEq, exists_and_left, exists_eq_left', exists_eq_left, List.cons.injEq, and_true, true_and, V.ref.injEq, V.int.injEq, V.str.injEq, V.bl.injEq, List.set_cons_zero, List.set_cons_succ])
theorem few_map {es rest : List PyData} {l : List Nat} (h : (es ++ rest).Perm (l.map fun n => PyData.str (rn n))) : ∃ l1 : List Nat, es = l1.map (fun n => PyData.str (rn n)) ∧ (∀ n ∈ l1, n ∈ l) ∧ l1.length ≤ l.length := by
  obtain ⟨l', p, e⟩ := perm_map_inv h l rfl
  obtain ⟨a, b, e1, e2, e3⟩ := List.map_eq_append_iff.mp e.symm
  refine ⟨a, e2.symm, fun n hn => p.mem_iff.mp (by rw [e1]; exact List.mem_append_left _ hn), ?_⟩
  rw [← p.length_eq, e1, List.length_append]
  omega
theorem clos_len (ns : List Nat) : (clos ns).length ≤ 9 := List.length_filter_le _ _
theorem KR_len {k : Nat} (hk : k ∈ K13) : (KR k).length ≤ 9 := by
  have : K13.all (fun k => decide ((KR k).length ≤ 9)) = true := by decide +kernel
  exact of_decide_eq_true (List.all_eq_true.mp this _ hk)
section
variable {K : PySem.W.Frag} {P : Program} {w : World} {base : Heap} {mg : Str → Option Value} {aR aD C : Addr} {T : Nat → Addr}
def spNear : Sp := fun vs H Q _ => ∃ p c v t b, vs = [.ref p, v] ∧ PenOk H p c t ∧ t ≤ 800000000 ∧ Dt H v (ruD (sub b)) ∧
  ∀ v' H' l, (∀ n ∈ l, n ∈ R9) → l.length ≤ 9 → Dt H' v' (ruD l) → PenOk H' p c (t + 40) → But p H H' → Q v' H'
abbrev s__law_near : Stmt := topS 19
theorem sc__law_near : FnScope ["pen", "some", "way", "one", "rule"] ["pen", "some"] (defScope s__law_near) := ⟨rfl, rfl, rfl, by decide +kernel, rfl, by decide +kernel, by decide +kernel⟩
theorem ok_near {f : Addr} {fd : FuncData} (F : Fun K "_law_near" "_law_near" s__law_near f fd) (D_law_draw : Dn P w K mg base 1 "_law_draw" ["pen", "span"] spDraw) (D_law_few : Dn P w K mg base 2 "_law_few" ["pen", "items", "span"] spFew) (D_law_pick : Dn P w K mg base 2 "_law_pick" ["pen", "options"] spPick)
    (D_law_nine : Dn P w K mg base 1 "_law_nine" [] spNine) (D_law_thirteen : Dn P w K mg base 2 "_law_thirteen" [] spThir) (D_law_closure : Dn P w K mg base 3 "_law_closure" ["names"] spClos) (m_list : mg "list" = none) : FnOk P w K mg base CX0 4 f fd ["pen", "some"] spNear := by
  refine F.ok sc__law_near (fun vs H Q E h => ?_) (fun cdv A outer s H vs Q E hr h => ?_)
  · obtain ⟨p, c, v, t, b, rfl, _⟩ := h
    rfl
  · obtain ⟨p, c, v, t, b, rfl, hP, ht, hv, q⟩ := h
    refine ⟨_, (pss_cons (ps_asg (pe_tup (pa_cons (pd D_law_draw (hr.mono (by decide)) (by rfl) (pa_cons (pv 0) (pa_cons pe_int pa_nil))) (pa_cons (pd D_law_few (hr.mono (by decide)) (by rfl) (pa_cons (pv 0) (pa_cons (pd0 D_law_nine (hr.mono (by decide)) (by rfl)) (pa_cons pe_int pa_nil)))) pa_nil))) (pg_tupK K (pg_tup (n := 2) rfl (pgs_cons (pg_name (i := 2) sc__law_near.nd rfl (.inl rfl)) (pgs_cons (pg_name (i := 3) sc__law_near.nd rfl (.inr rfl)) pgs_nil)))))
    (pss_cons (ps_if (pt_cmpR op_eq (pv 2) pe_int (nomark _))
      (pss_one (ps_ret (pe_callTy (call_listK K) (by rfl) m_list (by decide +kernel) (pa_cons (pv 1) pa_nil))))
      pss_nil)
    (pss_cons (ps_if (pt_cmpR op_eq (pv 2) pe_int (nomark _))
      (pss_one (ps_ret (pd D_law_closure (hr.mono (by decide)) (by rfl) (pa_cons (pv 1) pa_nil))))
      pss_nil)
    (pss_cons (ps_if (pt_cmpR op_eq (pv 2) pe_int (nomark _))
      (pss_one (ps_ret (pe_lc (own := [("rule", 4)]) rfl sc__law_near.nd (pi_listK K (pd0 D_law_nine (hr.mono (by decide)) (by rfl))) (blkOk_by (by kernel_rfl)) (fun _ _ _ _ _ => (pg_name (i := 4) sc__law_near.nd rfl (.inl rfl))) (fun _ _ _ _ _ => pts_one (PW.pt (pw_or (pt_cmpR (op_inK K) (pv 4) (pv 1) rfl) (pw_or1 (pt_cmpR (op_inK K) (pv 4) (pv 3) rfl))))) (fun _ _ _ _ _ => (pv 4)))))
      pss_nil)
    (pss_cons (ps_if (pt_cmpR op_eq (pv 2) pe_int (nomark _))
      (pss_one (ps_ret (pe_lc (own := [("rule", 4)]) rfl sc__law_near.nd (pi_listK K (pv 1)) (blkOk_by (by kernel_rfl)) (fun _ _ _ _ _ => (pg_name (i := 4) sc__law_near.nd rfl (.inl rfl))) (fun _ _ _ _ _ => pts_one (pt_cmpR (op_notInK K) (pv 4) (pv 3) rfl)) (fun _ _ _ _ _ => (pv 4)))))
      pss_nil)
    (pss_one (ps_ret (pe_ifExp (pt_cmpR op_eq (pv 2) pe_int (nomark _)) (pd D_law_few (hr.mono (by decide)) (by rfl) (pa_cons (pv 0) (pa_cons (pd0 D_law_nine (hr.mono (by decide)) (by rfl)) (pa_cons (pd D_law_draw (hr.mono (by decide)) (by rfl) (pa_cons (pv 0) (pa_cons pe_int pa_nil))) pa_nil)))) (pe_ix (ix_tupK K) (pd D_law_pick (hr.mono (by decide)) (by rfl) (pa_cons (pv 0) (pa_cons (pd0 D_law_thirteen (hr.mono (by decide)) (by rfl)) pa_nil))) pe_int (fun _ _ => rfl)))))))))), ?_⟩
    show tSeq _ _ _ [some (.ref p), some v, none, none, none] H
    obtain ⟨kvs, hpk⟩ := hP.dict
    have sin : ∀ n ∈ sub b, n ∈ R9 := fun n hn => sub_in hn
    refine seqi fun k0 hk0 => ?_
    walk_at "rd"
    refine ⟨p, c, 6, t, rfl, hP, by omega, by decide, by decide, fun r1 H1 r10 r11 P1 b1 => ?_⟩
    refine ⟨rfl, fun v2 H2 e2 h2 => ?_⟩
    refine ⟨p, c, v2, 1, t + 1, _, rfl, P1.same e2, h2, by decide, by decide, by decide, by omega, fun a3 H3 es rest pm P3 b3 h3 => ?_⟩
    obtain ⟨l1, rfl, l1in, l1len⟩ := few_map (l := R9) pm
    have P3 : PenOk H3 p c (t + 10) := P3.mono (by show t + 1 + 9 ≤ t + 10; omega)
    have b123 := (b1.trans (But.of e2)).trans b3
    refine ⟨by show 2 ≤ sizeLine; decide, fun tp htp => ?_⟩
    refine ⟨_, .inl (.inl upd_same), rfl, _, _, rfl, _, _, rfl, rfl, ?_⟩
    have e4 : Same H3 (upd H3 tp (.tup [.int r1, .ref a3])) := same_new htp
    have P4 := P3.same e4
    have b4 := b123.trans (But.of e4)
    have h4 : Dt _ _ (ruD l1) := h3.same e4
    have hv4 := hv.but hpk b4
    revert P4 b4 h4 hv4
    generalize upd H3 tp (.tup [.int r1, .ref a3]) = H4
    intro P4 b4 h4 hv4
    obtain ⟨kvs4, hp4⟩ := P4.dict
    subst hk0
    -- way 0
    refine seqi fun k0 hk0 => ?_
    walk_at "rd"
    obtain ⟨av, rfl, hav⟩ := hv4.rules
    refine ⟨rfl, ite2 (fun _ => ?_) (fun _ => ?_)⟩
    · refine ⟨_, rfl, _, .inl (.inl hav), fun l hl => q _ _ (sub b) sin (sub_len b) (by rw [ruD_eq]; exact .lst upd_same (dts_strs _)) ((P4.same (same_new hl)).mono (by omega)) (b4.trans (But.of (same_new hl)))⟩
    subst hk0
    -- way 1
    refine seqi fun k0 hk0 => ?_
    walk_at "rd"
    refine ⟨rfl, ite2 (fun _ => ?_) (fun _ => ?_)⟩
    · exact ⟨_, sub b, rfl, hv4, sin, sub_len b, fun v5 H5 e5 h5 => q _ _ (clos (sub b)) (fun n hn => clos_in hn) (clos_len _) h5 ((P4.same e5).mono (by omega)) (b4.trans (But.of e5))⟩
    subst hk0
    -- way 2
    obtain ⟨a1, e1, ha1⟩ := h4.rules
    cases e1
    refine seqi fun k0 hk0 => ?_
    walk_at "rd"
    refine ⟨rfl, ite2 (fun _ => ?_) (fun _ => ?_)⟩
    · refine ⟨rfl, fun v5 H5 e5 h5 => ?_⟩
      obtain ⟨a5, rfl, ha5⟩ := h5.rules
      refine ⟨_, rfl, ⟨_, .inl (.inl ha5)⟩, ?_⟩
      refine lcg_old (jseq_list K a5 ((rS R9).map V.str)) (.inl (.inl ha5)) R9 (fun n => .str (rn n)) (dts_rS R9) (by decide) (fun n => decide (n ∈ sub b) || decide (n ∈ l1)) (fun n => .str (rn n)) (fun z n hn hz H6 e6 S1 S0 s1 s0 => ?_) (fun D6 H6 hD6 e6 h6 => ?_)
      · obtain rfl := hz.txt
        have e7 := e5.trans e6
        walk_at "rd"
        refine ⟨_, .inl (.inl (.inl (e7 _ _ hav))), rfl, flat_strs _, ?_⟩
        rw [inV_strs, decide_eq_decide.mpr (iff_of_eq (mem_rS hn sin))]
        refine ite2 (fun h => s1 (by rw [h]; rfl) _ _ (Same.refl _) (.str _)) (fun h => ?_)
        refine ⟨_, .inl (.inl (.inl (e7 _ _ ha1))), rfl, flat_strs _, ?_⟩
        rw [inV_strs, decide_eq_decide.mpr (iff_of_eq (mem_rS hn l1in))]
        exact ite2 (fun h' => s1 (by rw [h', Bool.or_true]) _ _ (Same.refl _) (.str _)) (fun h' => s0 (by rw [Bool.eq_false_iff.mpr h, Bool.eq_false_iff.mpr h']; rfl) _ (Same.refl _))
      · exact q _ _ (R9.filter fun n => decide (n ∈ sub b) || decide (n ∈ l1)) (fun n hn => (List.mem_filter.mp hn).1) (List.length_filter_le _ _) h6 ((P4.same (e5.trans e6)).mono (by omega)) (b4.trans (But.of (e5.trans e6)))
    subst hk0
    -- way 3
    refine seqi fun k0 hk0 => ?_
    walk_at "rd"
    refine ⟨rfl, ite2 (fun _ => ?_) (fun _ => ?_)⟩
    · refine ⟨⟨_, .inl (.inl hav)⟩, ?_⟩
      refine lcg_old (jseq_list K av ((rS (sub b)).map V.str)) (.inl (.inl hav)) (sub b) (fun n => .str (rn n)) (dts_rS _) (by have := sub_len b; omega) (fun n => !decide (n ∈ l1)) (fun n => .str (rn n)) (fun z n hn hz H6 e6 S1 S0 s1 s0 => ?_) (fun D6 H6 hD6 e6 h6 => ?_)
      · obtain rfl := hz.txt
        walk_at "rd"
        refine ⟨_, .inl (.inl (.inl (e6 _ _ ha1))), rfl, flat_strs _, ?_⟩
        rw [inV_strs, decide_eq_decide.mpr (iff_of_eq (mem_rS (sin n hn) l1in))]
        exact ite2 (fun h' => s1 h' _ _ (Same.refl _) (.str _)) (fun h' => s0 (Bool.eq_false_iff.mpr h') _ (Same.refl _))
      · exact q _ _ ((sub b).filter fun n => !decide (n ∈ l1)) (fun n hn => sin n (List.mem_filter.mp hn).1) (Nat.le_trans (List.length_filter_le _ _) (sub_len b)) h6 ((P4.same e6).mono (by omega)) (b4.trans (But.of e6))
    subst hk0
    -- ways 4, 5
    walk_at "rd"
    refine ⟨rfl, ite2 (fun _ => ?_) (fun _ => ?_)⟩
    · refine ⟨rfl, fun v5 H5 e5 h5 => ?_⟩
      refine ⟨p, c, 10, t + 10, rfl, P4.same e5, by omega, by decide, by decide, fun r6 H6 r60 r61 P6 b6 => ?_⟩
      have hp5 := e5 _ _ hp4
      refine ⟨p, c, v5, r6, t + 10 + 1, _, rfl, P6, h5.but hp5 b6, r60, by omega, by decide, by omega, fun a7 H7 es rest pm P7 b7 h7 => ?_⟩
      obtain ⟨l2, rfl, l2in, l2len⟩ := few_map (l := R9) pm
      exact q _ _ l2 l2in l2len h7 (P7.mono (by show t + 10 + 1 + 9 ≤ t + 40; omega)) (((b4.trans (But.of e5)).trans b6).trans b7)
    · refine ⟨rfl, fun v5 H5 e5 h5 => ?_⟩
      refine ⟨p, c, v5, t + 10, _, rfl, P4.same e5, by omega, h5, by decide, by decide, fun v6 H6 d hd h6 P6 b6 => ?_⟩
      obtain ⟨k, hk, rfl⟩ := List.mem_map.mp hd
      obtain ⟨x6, y1, y2, rfl, hx6, hy1, hy2⟩ := h6.pair
      refine ⟨_, rfl, _, .inl (.inl hx6), _, rfl, ?_⟩
      exact q _ _ (KR k) (KR_in k hk) (KR_len hk) hy2 (P6.mono (by omega)) ((b4.trans (But.of e5)).trans b6)
end
end Fp

namespace Fp
open PySem PySem.Spec PyProof.Rows L2
local macro_rules | `(tactic| walk_at "rd") => `(tactic| simp only [cxK, cxKn, tRet, tRetN, rIntI, rIntB, rLenL, rListL, rListT, rAbs, tDisp, tPairs, tC, tCB, tCons, tNil, tSl, tVar, tNoPart, tPart, rSlL, tOp, tAsg, gName, tIfS, tDrop, tTest, tAnd, tOr, Evl.tCut, tNot, tB, rI0, rI, rIxL, rIxT, rIxD, tDGet, sDPut, tLst, tTup, tBM, tBM0, tPar, rAppend, rPopAt, rPop, rExtend, rTupL, tCall, tNext, rAll, rOwnIn, rOwn2, rCat, lc_iL, lc_iT, lc_iK, lc_iR, fr_iL, fr_iT, fr_iR, tYes, rIn, rEq, rNe, gTup, gCons, gNil, wipe, tMeth, tFld, sFld, tMake, tProp, tIf, tAndV, tOrV, tNotV, if_true, if_false, Bool.false_eq_true, List.map_cons, List.map_nil, List.nil_append, List.append_nil, List.cons_append, List.getElem?_cons_zero, List.getElem?_cons_succ, Option.some.injEq, exists_and_left, exists_eq_left', exists_eq_left, List.cons.injEq, and_true, true_and, V.ref.injEq, V.int.injEq, V.str.injEq, V.bl.injEq, List.set_cons_zero, List.set_cons_succ])
theorem all_mem {p : Nat → Bool} {a b : List Nat} (h : ∀ n, n ∈ a ↔ n ∈ b) : a.all p = b.all p := by
  rw [Bool.eq_iff_iff, List.all_eq_true, List.all_eq_true]
  exact ⟨fun q n hn => q n ((h n).mpr hn), fun q n hn => q n ((h n).mp hn)⟩
theorem clos_mem {a b : List Nat} (h : ∀ n, n ∈ a ↔ n ∈ b) : clos a = clos b := by
  have e : (fun k => hasB k a) = fun k => hasB k b := funext fun k => all_mem h
  unfold clos
  rw [e]
theorem below_eq {l l' s : List Nat} {b' : Nat} (hb : b' < 512) (h : ∀ n, n ∈ l ↔ n ∈ s) (h' : ∀ n, n ∈ l' ↔ n ∈ sub b') : decide ((l.filter fun n => !decide (n ∈ clos l')) = []) = le2 s (sub b') := by
  rw [clos_mem h', ← (sub_ok hb).1]
  unfold le2 hasB
  rw [← all_mem h, ← filter_empty]
  cases (l.filter fun n => !decide (n ∈ KR (weak (sub b')))) <;> rfl
section
variable {K : PySem.W.Frag} {P : Program} {w : World} {base : Heap} {mg : Str → Option Value} {aR aD C : Addr} {T : Nat → Addr}
def spOrd (C : Addr) : Sp := fun vs H Q _ => ∃ p b p' b' v v' l l', vs = [.ref p, .ref p', v, v'] ∧ b < 512 ∧ b' < 512 ∧ RuAt H C p (sub b) ∧ RuAt H C p' (sub b') ∧ Dt H v (ruD l) ∧ Dt H v' (ruD l') ∧ l.length ≤ 9 ∧ l'.length ≤ 9 ∧ (∀ n, n ∈ l ↔ n ∈ sub b) ∧ (∀ n, n ∈ l' ↔ n ∈ sub b') ∧ ∀ H', Same H H' → Q (.bl true) H'
abbrev s__law_order_right : Stmt := topS 20
theorem sc__law_order_right : FnScope ["one", "two", "some", "more", "below", "above", "due", "rule"] ["one", "two", "some", "more"] (defScope s__law_order_right) := ⟨rfl, rfl, rfl, by decide +kernel, rfl, by decide +kernel, by decide +kernel⟩
theorem ok_order {f : Addr} {fd : FuncData} (F : Fun K "_law_order_right" "_law_order_right" s__law_order_right f fd) (H_nf : PySem.W.notFirst K C (.ref C) = true) (D_law_closure : Dn P w K mg base 3 "_law_closure" ["names"] spClos)
    (M_le : Mn P w K mg base 2 C "__le__" ["self", "other"] (spCmp C le2)) (M_lt : Mn P w K mg base 3 C "__lt__" ["self", "other"] (spCmp C fun s s' => le2 s s' && !le2 s' s)) (M_ge : Mn P w K mg base 3 C "__ge__" ["self", "other"] (spCmp C fun s s' => le2 s' s)) (M_gt : Mn P w K mg base 4 C "__gt__" ["self", "other"] (spCmp C fun s s' => le2 s' s && !le2 s s')) : FnOk P w K mg base CX0 5 f fd ["one", "two", "some", "more"] (spOrd C) := by
  refine F.ok sc__law_order_right (fun vs H Q E h => ?_) (fun cdv A outer s H vs Q E hr h => ?_)
  · obtain ⟨p, b, p', b', v, v', l, l', rfl, _⟩ := h
    rfl
  · obtain ⟨p, b, p', b', v, v', l, l', rfl, hb, hb', hR, hR', hv, hv', hl, hl', hm, hm', q⟩ := h
    have hu64 := hr.units
    refine ⟨_, (pss_cons (ps_set (i := 4) sc__law_order_right.nd rfl (.inl rfl) (pe_cmpR (op_eqDK K hu64) (pe_lc (own := [("rule", 7)]) rfl sc__law_order_right.nd (pi_listK K (pv 2)) (blkOk_by (by kernel_rfl)) (fun _ _ _ _ _ => (pg_name (i := 7) sc__law_order_right.nd rfl (.inl rfl))) (fun _ _ _ _ _ => pts_one (pt_cmpR (op_notInK K) (pv 7) (pd D_law_closure (hr.mono (by decide)) (by rfl) (pa_cons (pv 3) pa_nil)) rfl)) (fun _ _ _ _ _ => (pv 7))) (pe_lst pa_nil) (nomark _)))
    (pss_cons (ps_set (i := 5) sc__law_order_right.nd rfl (.inl rfl) (pe_cmpR (op_eqDK K hu64) (pe_lc (own := [("rule", 7)]) rfl sc__law_order_right.nd (pi_listK K (pv 3)) (blkOk_by (by kernel_rfl)) (fun _ _ _ _ _ => (pg_name (i := 7) sc__law_order_right.nd rfl (.inl rfl))) (fun _ _ _ _ _ => pts_one (pt_cmpR (op_notInK K) (pv 7) (pd D_law_closure (hr.mono (by decide)) (by rfl) (pa_cons (pv 2) pa_nil)) rfl)) (fun _ _ _ _ _ => (pv 7))) (pe_lst pa_nil) (nomark _)))
    (pss_cons (ps_set (i := 6) sc__law_order_right.nd rfl (.inl rfl) (pe_lst (pa_cons (pv 4) (pa_cons (pe_and (pv 4) (pe_one (pe_not (pv 5)))) (pa_cons (pv 5) (pa_cons (pe_and (pv 5) (pe_one (pe_not (pv 4)))) pa_nil))))))
    (pss_one (ps_ret (pe_cmpR (op_eqDK K hu64) (pe_lst (pa_cons (pe_cmpR (op_ownCmp (op := .LtE) (fun _ _ => rfl) H_nf M_le (hr.mono (by decide))) (pv 0) (pv 1) (nomark _)) (pa_cons (pe_cmpR (op_ownCmp (op := .Lt) (fun _ _ => rfl) H_nf M_lt (hr.mono (by decide))) (pv 0) (pv 1) (nomark _)) (pa_cons (pe_cmpR (op_ownCmp (op := .GtE) (fun _ _ => rfl) H_nf M_ge (hr.mono (by decide))) (pv 0) (pv 1) (nomark _)) (pa_cons (pe_cmpR (op_ownCmp (op := .Gt) (fun _ _ => rfl) H_nf M_gt (hr.mono (by decide))) (pv 0) (pv 1) (nomark _)) pa_nil))))) (pv 6) (nomark _))))))), ?_⟩
    show tSeq _ _ _ [some (.ref p), some (.ref p'), some v, some v', none, none, none, none] H
    have sin : ∀ n ∈ sub b, n ∈ R9 := fun n hn => sub_in hn
    have sin' : ∀ n ∈ sub b', n ∈ R9 := fun n hn => sub_in hn
    have lin : ∀ n ∈ l, n ∈ R9 := fun n hn => sub_in ((hm n).mp hn)
    have lin' : ∀ n ∈ l', n ∈ R9 := fun n hn => sub_in ((hm' n).mp hn)
    obtain ⟨av, rfl, hav⟩ := hv.rules
    obtain ⟨av', rfl, hav'⟩ := hv'.rules
    refine seqi fun k0 hk0 => ?_
    walk_at "rd"
    refine ⟨⟨_, .inl (.inl hav)⟩, ?_⟩
    refine lcg_old (jseq_list K av ((rS l).map V.str)) (.inl (.inl hav)) l (fun n => .str (rn n)) (dts_rS l) (by omega) (fun n => !decide (n ∈ clos l')) (fun n => .str (rn n)) (fun z n hn hz H1 e1 S1 S0 s1 s0 => ?_) (fun D1 H1 hD1 e1 h1 => ?_)
    · obtain rfl := hz.txt
      walk_at "rd"
      refine ⟨.ref av', l', rfl, hv'.same e1, lin', hl', fun v2 H2 e2 h2 => ?_⟩
      obtain ⟨a2, rfl, ha2⟩ := h2.rules
      refine ⟨_, rfl, _, .inl (.inl (.inl ha2)), rfl, flat_strs _, ?_⟩
      rw [inV_strs, decide_eq_decide.mpr (iff_of_eq (mem_rS (lin n hn) fun j hj => clos_in hj))]
      exact ite2 (fun h' => s1 h' _ _ e2 (.str _)) (fun h' => s0 (Bool.eq_false_iff.mpr h') _ e2)
    refine ⟨Nat.zero_le _, fun q1 hq1 => ?_⟩
    have e2 : Same H1 (upd H1 q1 (.lst [])) := same_new hq1
    have n2 : Dt (upd H1 q1 (.lst [])) (.ref q1) (ruD []) := .lst upd_same .nil
    have fin : ∀ n ∈ l.filter (fun n => !decide (n ∈ clos l')), n ∈ R9 := fun n hn => lin n (List.mem_filter.mp hn).1
    refine ⟨ruD _, _, (h1.same e2).dp, n2.dp, (shp_ru fin).ok (by decide), (shp_ru fun j hj => absurd hj (List.not_mem_nil)).ok (by decide), ?_⟩
    rw [eqv_ru fin fun j hj => absurd hj (List.not_mem_nil), below_eq hb' hm hm']
    have e3 := e1.trans e2
    have hv3 := hv.same e3
    have hv3' := hv'.same e3
    have hR3 := hR.same e3
    have hR3' := hR'.same e3
    have hav3' := e3 _ _ hav'
    generalize upd H1 q1 (.lst []) = H3 at e3 hv3 hv3' hR3 hR3' hav3'
    clear e2 n2 h1 hq1 hD1
    subst hk0
    refine seqi fun k0 hk0 => ?_
    walk_at "rd"
    refine ⟨⟨_, .inl (.inl hav3')⟩, ?_⟩
    refine lcg_old (jseq_list K av' ((rS l').map V.str)) (.inl (.inl hav3')) l' (fun n => .str (rn n)) (dts_rS l') (by omega) (fun n => !decide (n ∈ clos l)) (fun n => .str (rn n)) (fun z n hn hz H1 e1 S1 S0 s1 s0 => ?_) (fun D4 H4 hD4 e4 h4 => ?_)
    · obtain rfl := hz.txt
      walk_at "rd"
      refine ⟨.ref av, l, rfl, hv3.same e1, lin, hl, fun v2 H2 e2 h2 => ?_⟩
      obtain ⟨a2, rfl, ha2⟩ := h2.rules
      refine ⟨_, rfl, _, .inl (.inl (.inl ha2)), rfl, flat_strs _, ?_⟩
      rw [inV_strs, decide_eq_decide.mpr (iff_of_eq (mem_rS (lin' n hn) fun j hj => clos_in hj))]
      exact ite2 (fun h' => s1 h' _ _ e2 (.str _)) (fun h' => s0 (Bool.eq_false_iff.mpr h') _ e2)
    refine ⟨Nat.zero_le _, fun q1 hq1 => ?_⟩
    have e5 : Same H4 (upd H4 q1 (.lst [])) := same_new hq1
    have n5 : Dt (upd H4 q1 (.lst [])) (.ref q1) (ruD []) := .lst upd_same .nil
    have fin' : ∀ n ∈ l'.filter (fun n => !decide (n ∈ clos l)), n ∈ R9 := fun n hn => lin' n (List.mem_filter.mp hn).1
    refine ⟨ruD _, _, (h4.same e5).dp, n5.dp, (shp_ru fin').ok (by decide), (shp_ru fun j hj => absurd hj (List.not_mem_nil)).ok (by decide), ?_⟩
    rw [eqv_ru fin' fun j hj => absurd hj (List.not_mem_nil), below_eq hb hm' hm]
    have e6 := e4.trans e5
    have hR6 := hR3.same e6
    have hR6' := hR3'.same e6
    have e7 := e3.trans e6
    generalize upd H4 q1 (.lst []) = H6 at e6 hR6 hR6' e7
    clear hv3 hv3' hR3 hR3' hav3' e5 n5 h4 hq1 hD4 e3
    subst hk0
    refine seqi fun k0 hk0 => ?_
    walk_at "rd"
    have key : ∀ q1, H6 q1 = none → k0 [some (.ref p), some (.ref p'), some (.ref av), some (.ref av'), some (.bl (le2 (sub b) (sub b'))), some (.bl (le2 (sub b') (sub b))), some (.ref q1), none] (upd H6 q1 (.lst ([le2 (sub b) (sub b'), le2 (sub b) (sub b') && !le2 (sub b') (sub b), le2 (sub b') (sub b), le2 (sub b') (sub b) && !le2 (sub b) (sub b')].map V.bl))) := by
      intro q1 hq1
      have e8 : Same H6 (upd H6 q1 (.lst ([le2 (sub b) (sub b'), le2 (sub b) (sub b') && !le2 (sub b') (sub b), le2 (sub b') (sub b), le2 (sub b') (sub b) && !le2 (sub b) (sub b')].map V.bl))) := same_new hq1
      have d8 : Dt (upd H6 q1 (.lst ([le2 (sub b) (sub b'), le2 (sub b) (sub b') && !le2 (sub b') (sub b), le2 (sub b') (sub b), le2 (sub b') (sub b) && !le2 (sub b) (sub b')].map V.bl))) (.ref q1) (.list ([le2 (sub b) (sub b'), le2 (sub b) (sub b') && !le2 (sub b') (sub b), le2 (sub b') (sub b), le2 (sub b') (sub b) && !le2 (sub b) (sub b')].map PyData.bool)) := .lst upd_same (.cons (.bl _) (.cons (.bl _) (.cons (.bl _) (.cons (.bl _) .nil))))
      have r8 := hR6.same e8
      have r8' := hR6'.same e8
      have e9 := e7.trans e8
      generalize upd H6 q1 (.lst ([le2 (sub b) (sub b'), le2 (sub b) (sub b') && !le2 (sub b') (sub b), le2 (sub b') (sub b), le2 (sub b') (sub b) && !le2 (sub b) (sub b')].map V.bl)) = H8 at e8 d8 r8 r8' e9
      subst hk0
      walk_at "rd"
      have wk := weak_in b
      have wk' := weak_in b'
      have sl := sub_len b
      have sl' := sub_len b'
      obtain ⟨dx, t, g1, g2⟩ := id r8
      obtain ⟨dx', t', g1', g2'⟩ := id r8'
      refine ⟨_, _, g1, _, _, g1', p, _, p', _, rfl, r8, r8', sin, sin', sl, sl', wk, wk', fun H9 e9a => ?_⟩
      refine ⟨_, _, e9a _ _ g1, _, _, e9a _ _ g1', p, _, p', _, rfl, r8.same e9a, r8'.same e9a, sin, sin', sl, sl', wk, wk', fun H10 e10a => ?_⟩
      have e10 := e9a.trans e10a
      refine ⟨_, _, e10 _ _ g1, _, _, e10 _ _ g1', p, _, p', _, rfl, r8.same e10, r8'.same e10, sin, sin', sl, sl', wk, wk', fun H11 e11a => ?_⟩
      have e11 := e10.trans e11a
      refine ⟨_, _, e11 _ _ g1, _, _, e11 _ _ g1', p, _, p', _, rfl, r8.same e11, r8'.same e11, sin, sin', sl, sl', wk, wk', fun H12 e12a => ?_⟩
      have e12 := e11.trans e12a
      have sb : ∀ x y z u : Bool, Shp 1 (.list ([x, y, z, u].map PyData.bool)) := fun x y z u => shp_lst fun d hd => by
        obtain ⟨r, _, rfl⟩ := List.mem_map.mp hd
        exact ⟨rfl, Nat.le_refl _⟩
      refine ⟨by show 4 ≤ sizeLine; decide, fun q2 hq2 => ⟨.list ([le2 (sub b) (sub b'), le2 (sub b) (sub b') && !le2 (sub b') (sub b), le2 (sub b') (sub b), le2 (sub b') (sub b) && !le2 (sub b) (sub b')].map PyData.bool), _, Dt.dp (.lst upd_same (.cons (.bl _) (.cons (.bl _) (.cons (.bl _) (.cons (.bl _) .nil))))), (d8.same (e12.trans (same_new hq2))).dp, (sb _ _ _ _).ok (by decide), (sb _ _ _ _).ok (by decide), ?_⟩⟩
      have ev : ∀ x y z u : Bool, PyData.eqv (.list ([x, y, z, u].map PyData.bool)) (.list ([x, y, z, u].map PyData.bool)) = true := by
        intro x y z u
        cases x <;> cases y <;> cases z <;> cases u <;> rfl
      rw [ev]
      exact q _ ((e9.trans e12).trans (same_new hq2))
    revert key
    cases le2 (sub b) (sub b') <;> cases le2 (sub b') (sub b) <;> exact fun key => ⟨(by show 4 ≤ sizeLine; decide), key⟩
end
end Fp

namespace Fp
open PySem PySem.Spec PyProof.Rows L2
local macro_rules | `(tactic| walk_at "rd") => `(tactic| simp only [cxK, cxKn, tRet, tRetN, rIntI, rIntB, rLenL, rListL, rListT, rAbs, tDisp, tPairs, tC, tCB, tCons, tNil, tSl, tVar, tNoPart, tPart, rSlL, tOp, tAsg, gName, tIfS, tDrop, tTest, tAnd, tOr, Evl.tCut, tNot, tB, rI0, rI, rIxL, rIxT, rIxD, tDGet, sDPut, tLst, tTup, tBM, tBM0, tPar, rAppend, rPopAt, rPop, rExtend, rTupL, tCall, tNext, rAll, rOwnIn, rOwn2, rCat, lc_iL, lc_iT, lc_iK, lc_iR, fr_iL, fr_iT, fr_iR, tYes, rIn, rEq, rNe, gTup, gCons, gNil, wipe, tMeth, tFld, sFld, tMake, tProp, tIf, tAndV, tOrV, tNotV, if_true, if_false, Bool.false_eq_true, List.map_cons, List.map_nil, List.nil_append, List.append_nil, List.cons_append, List.getElem?_cons_zero, List.getElem?_cons_succ, Option.some.injEq, exists_and_left, exists_eq_left', exists_eq_left, List.cons.injEq, and_true, true_and, V.ref.injEq, V.int.injEq, V.str.injEq, V.bl.injEq, List.set_cons_zero, List.set_cons_succ])
/-! ### which sets -/
theorem pick_map (p : Nat → Bool) : ∀ xs : List Nat, pick (xs.map p) xs = xs.filter p
  | [] => rfl
  | x :: xs => by
    have ih := pick_map p xs
    show (if p x = true then x :: pick (xs.map p) xs else pick (xs.map p) xs) = _
    rw [ih]
    cases h : p x with
    | true => rw [List.filter_cons_of_pos h]; rfl
    | false => rw [List.filter_cons_of_neg (by rw [h]; decide)]; rfl
theorem filter_sub (p : Nat → Bool) : ∃ b, b < 512 ∧ R9.filter p = sub b := by
  obtain ⟨b, hb, e⟩ := pick_sub (bs := R9.map p) rfl
  exact ⟨b, hb, by rw [← pick_map, e]⟩
theorem filter_ext {f g : Nat → Bool} (h : R9.filter f = R9.filter g) (n : Nat) (hn : n ∈ R9) : f n = g n := by
  rw [Bool.eq_iff_iff]
  exact ⟨fun hf => (List.mem_filter.mp (h ▸ List.mem_filter.mpr ⟨hn, hf⟩)).2, fun hg => (List.mem_filter.mp (h ▸ List.mem_filter.mpr ⟨hn, hg⟩)).2⟩
theorem or_and {b b' : Nat} : decide (R9.filter (fOr (sub b) (sub b')) = R9.filter (fAnd (sub b) (sub b'))) = decide (sub b = sub b') := by
  refine decide_eq_decide.mpr ⟨fun h => ?_, fun h => ?_⟩
  · rw [← sub_filter b, ← sub_filter b']
    refine List.filter_congr fun n hn => ?_
    have := filter_ext h n hn
    unfold fOr fAnd at this
    revert this
    cases decide (n ∈ sub b) <;> cases decide (n ∈ sub b') <;> decide
  · rw [h]
    refine List.filter_congr fun n hn => ?_
    unfold fOr fAnd
    rw [Bool.or_self, Bool.and_self]
theorem eqv_rus {K : List (List Nat)} (h : ∀ l ∈ K, ∀ n ∈ l, n ∈ R9) : PyData.eqvAll (K.map ruD) (K.map ruD) = true := by
  induction K with
  | nil => rfl
  | cons l K ih =>
    show (PyData.eqv (ruD l) (ruD l) && PyData.eqvAll (K.map ruD) (K.map ruD)) = true
    rw [eqv_ru (h l List.mem_cons_self) (h l List.mem_cons_self), decide_eq_true rfl, ih fun l' hl' => h l' (List.mem_cons_of_mem _ hl')]
    rfl
theorem dts_rus {H : Hp} : ∀ (ys : List Addr) (F : List (List Nat)), ys.length = F.length → (∀ (k : Nat) (y : Addr) (f : List Nat), ys[k]? = some y → F[k]? = some f → H y = some (.lst ((rS f).map V.str))) → Dts H (ys.map V.ref) (F.map ruD)
  | [], [], _, _ => .nil
  | y :: ys, f :: F, e, h => .cons (by rw [ruD_eq]; exact .lst (h 0 y f rfl rfl) (dts_strs _)) (dts_rus ys F (Nat.succ.inj e) fun k y f a b => h (k + 1) y f a b)
section
variable {K : PySem.W.Frag} {P : Program} {w : World} {base : Heap} {mg : Str → Option Value} {aR aD C : Addr} {T : Nat → Addr}
def spListedN (C : Addr) : Sp := fun vs H Q _ => ∃ p s, vs = [.ref p] ∧ RuAt H C p s ∧ ∀ a H', H a = none → Same H H' → H' a = some (.lst ((rS s).map V.str)) → Q (.ref a) H'
theorem ok_listedN {f : Addr} {fd : FuncData} (F : Fun K "listed" "Rules.listed" s_Rules_listed f fd) (X : TxR K w mg aR aD C T) : FnOk P w K mg base CX0 1 f fd ["self"] (spListedN C) := by
  refine F.ok sc_Rules_listed (fun vs H Q E h => ?_) (fun cdv A outer s H vs Q E hr h => ?_)
  · obtain ⟨p, s, rfl, _⟩ := h
    rfl
  · obtain ⟨p, s, rfl, ⟨dx, t, h1, h2⟩, q⟩ := h
    have m_list := X.m_list
    refine ⟨_, (pss_one (ps_ret (pe_callTy (call_listTK K) (by rfl) m_list (by decide +kernel) (pa_cons (pe_fldK K (pv 0) rfl) pa_nil)))), ?_⟩
    show tRet _ _ [some (.ref p)] H
    walk_at "rd"
    exact ⟨C, dx, _, h1, X.cl, X.nN, _, rFl_names _ _, t, rfl, _, .inl (.inl h2), fun l hl => q _ _ hl (same_new hl) upd_same⟩
abbrev s_law : Stmt := topS 21
theorem sc_law : FnScope ["script", "pen", "turn", "some", "more", "one", "two", "due", "found", "alike", "rule", "each"] ["script"] (defScope s_law) := ⟨rfl, rfl, rfl, by decide +kernel, rfl, by decide +kernel, by decide +kernel⟩
theorem ok_law {f : Addr} {fd : FuncData} (F : Fun K "law" "law" s_law f fd) (X : TxR K w mg aR aD C T) (IC : C8.InsC K C) (H_nf : PySem.W.notFirst K C (.ref C) = true) (H_sf : PySem.W.selfFirst K C = true) (H_ne : PySem.W.findIn K (.ref C) "__ne__" = some (some (.builtin "object.__ne__"))) (H_ob : PySem.W.mroIn K C (.type "object") = some true) (m_range : mg "range" = none)
    (D_law_pen : Dn P w K mg base 1 "_law_pen" ["script"] (spPen K)) (D_law_draw : Dn P w K mg base 1 "_law_draw" ["pen", "span"] spDraw) (D_law_shuffled : Dn P w K mg base 2 "_law_shuffled" ["pen", "items"] spShuf)
    (D_law_nine : Dn P w K mg base 1 "_law_nine" [] spNine) (D_law_near : Dn P w K mg base 4 "_law_near" ["pen", "some"] spNear) (D_law_order_right : Dn P w K mg base 5 "_law_order_right" ["one", "two", "some", "more"] (spOrd C))
    (N : Kn P w K mg base 3 C ["self", "names"] (spInit C)) (M_listed : Mn P w K mg base 1 C "listed" ["self"] (spListedN C))
    (M_or : Mn P w K mg base 5 C "__or__" ["self", "other"] (spOp C fOr)) (M_and : Mn P w K mg base 5 C "__and__" ["self", "other"] (spOp C fAnd)) (M_sub : Mn P w K mg base 5 C "__sub__" ["self", "other"] (spOp C fSub)) (M_xor : Mn P w K mg base 5 C "__xor__" ["self", "other"] (spOp C fXor))
    (M_eq : Mn P w K mg base 1 C "__eq__" ["self", "other"] (spEq C)) : FnOk P w K mg base CX0 6 f fd ["script"] (spLaw K) := by
  refine F.ok sc_law (fun vs H Q E h => ?_) (fun cdv A outer s H vs Q E hr h => ?_)
  · obtain ⟨a, ns, rfl, _⟩ := h
    rfl
  · obtain ⟨a, ns, rfl, hS, hlen, q⟩ := h
    have hu64 := hr.units
    have m_Rules := X.mC
    have m_isinstance := X.m_isi
    refine ⟨_, (pss_cons (ps_set (i := 1) sc_law.nd rfl (.inr rfl) (pd D_law_pen (hr.mono (by decide)) (by rfl) (pa_cons (pv 0) pa_nil)))
    (pss_cons (ps_for PassesOwn.never rfl (pi_range1 rfl m_range (pa_cons pe_int pa_nil)) (pg_name (i := 2) sc_law.nd rfl (.inl rfl))
      (pss_cons (ps_set (i := 3) sc_law.nd rfl (.inr rfl) (pe_lc (own := [("rule", 10)]) rfl sc_law.nd (pi_listK K (pd0 D_law_nine (hr.mono (by decide)) (by rfl))) (blkOk_by (by kernel_rfl)) (fun _ _ _ _ _ => (pg_name (i := 10) sc_law.nd rfl (.inl rfl))) (fun _ _ _ _ _ => pts_one (pt_cmpR op_eq (pd D_law_draw (hr.mono (by decide)) (by rfl) (pa_cons (pv 1) (pa_cons pe_int pa_nil))) pe_int (nomark _))) (fun _ _ _ _ _ => (pv 10))))
        (pss_cons (ps_set (i := 4) sc_law.nd rfl (.inr rfl) (pd D_law_near (hr.mono (by decide)) (by rfl) (pa_cons (pv 1) (pa_cons (pv 3) pa_nil))))
        (pss_cons (ps_par (i := 5) (j := 6) rfl sc_law.nd rfl rfl (by decide) rfl rfl (pa_cons (pk N (hr.mono (by decide)) (by rfl) m_Rules (pa_cons (pv 3) pa_nil)) (pa_cons (pk N (hr.mono (by decide)) (by rfl) m_Rules (pa_cons (pd D_law_shuffled (hr.mono (by decide)) (by rfl) (pa_cons (pv 1) (pa_cons (pv 4) pa_nil))) pa_nil)) pa_nil)) rfl)
        (pss_cons (ps_set (i := 7) sc_law.nd rfl (.inl rfl) (pe_lst (pa_cons (pe_lc (own := [("rule", 10)]) rfl sc_law.nd (pi_listK K (pd0 D_law_nine (hr.mono (by decide)) (by rfl))) (blkOk_by (by kernel_rfl)) (fun _ _ _ _ _ => (pg_name (i := 10) sc_law.nd rfl (.inl rfl))) (fun _ _ _ _ _ => pts_one (PW.pt (pw_or (pt_cmpR (op_inK K) (pv 10) (pv 3) rfl) (pw_or1 (pt_cmpR (op_inK K) (pv 10) (pv 4) rfl))))) (fun _ _ _ _ _ => (pv 10))) pa_nil)))
        (pss_cons (ps_expr (pe_bmK K (by rfl) (pe_bm PySem.F.plainAttrs_list PySem.F.slot_list_append PySem.F.type_list_append mt_append (pv 7) (pa_cons (pe_lc (own := [("rule", 10)]) rfl sc_law.nd (pi_listK K (pd0 D_law_nine (hr.mono (by decide)) (by rfl))) (blkOk_by (by kernel_rfl)) (fun _ _ _ _ _ => (pg_name (i := 10) sc_law.nd rfl (.inl rfl))) (fun _ _ _ _ _ => pts_one (PW.pt (pw_and (pt_cmpR (op_inK K) (pv 10) (pv 3) rfl) (pw_and1 (pt_cmpR (op_inK K) (pv 10) (pv 4) rfl))))) (fun _ _ _ _ _ => (pv 10))) pa_nil))))
        (pss_cons (ps_expr (pe_bmK K (by rfl) (pe_bm PySem.F.plainAttrs_list PySem.F.slot_list_append PySem.F.type_list_append mt_append (pv 7) (pa_cons (pe_lc (own := [("rule", 10)]) rfl sc_law.nd (pi_listK K (pd0 D_law_nine (hr.mono (by decide)) (by rfl))) (blkOk_by (by kernel_rfl)) (fun _ _ _ _ _ => (pg_name (i := 10) sc_law.nd rfl (.inl rfl))) (fun _ _ _ _ _ => pts_one (PW.pt (pw_and (pt_cmpR (op_inK K) (pv 10) (pv 3) rfl) (pw_and1 (pt_cmpR (op_notInK K) (pv 10) (pv 4) rfl))))) (fun _ _ _ _ _ => (pv 10))) pa_nil))))
        (pss_cons (ps_expr (pe_bmK K (by rfl) (pe_bm PySem.F.plainAttrs_list PySem.F.slot_list_append PySem.F.type_list_append mt_append (pv 7) (pa_cons (pe_lc (own := [("rule", 10)]) rfl sc_law.nd (pi_listK K (pd0 D_law_nine (hr.mono (by decide)) (by rfl))) (blkOk_by (by kernel_rfl)) (fun _ _ _ _ _ => (pg_name (i := 10) sc_law.nd rfl (.inl rfl))) (fun _ _ _ _ _ => pts_one (pt_cmpR op_ne (pe_cmpR (op_inK K) (pv 10) (pv 3) rfl) (pe_cmpR (op_inK K) (pv 10) (pv 4) rfl) (nomark _))) (fun _ _ _ _ _ => (pv 10))) pa_nil))))
        (pss_cons (ps_set (i := 8) sc_law.nd rfl (.inl rfl) (pe_lst (pa_cons (pe_op (op_ownBin (op := .BitOr) H_sf M_or (hr.mono (by decide))) (pv 5) (pv 6)) (pa_cons (pe_op (op_ownBin (op := .BitAnd) H_sf M_and (hr.mono (by decide))) (pv 5) (pv 6)) (pa_cons (pe_op (op_ownBin (op := .Sub) H_sf M_sub (hr.mono (by decide))) (pv 5) (pv 6)) (pa_cons (pe_op (op_ownBin (op := .BitXor) H_sf M_xor (hr.mono (by decide))) (pv 5) (pv 6)) pa_nil))))))
        (pss_cons (ps_if (PW.pt (pw_or (pt_cmpR (op_neDK K hu64) (pe_lc (own := [("each", 11)]) rfl sc_law.nd (pi_listK K (pv 8)) (blkOk_by (by kernel_rfl)) (fun _ _ _ _ _ => (pg_name (i := 11) sc_law.nd rfl (.inl rfl))) (fun _ _ _ _ _ => pts_nil) (fun _ _ _ _ _ => (pm0 X.cl M_listed (hr.mono (by decide)) (pv 11)))) (pv 7) (nomark _)) (pw_or1 (pt_not (pt_val (pe_callB (C8.call_isC IC) (by rfl) m_isinstance (by decide +kernel) (pa_cons (pe_ix (ix_listK K) (pv 8) pe_int (fun _ _ => rfl)) (pa_cons (pe_glob rfl m_Rules (v := .ref C) rfl) pa_nil))))))))
      (pss_one (ps_ret pe_bl))
      pss_nil)
        (pss_cons (ps_if (PW.pt (pw_or (pt_not (pt_val (pd D_law_order_right (hr.mono (by decide)) (by rfl) (pa_cons (pv 5) (pa_cons (pv 6) (pa_cons (pv 3) (pa_cons (pv 4) pa_nil))))))) (pw_or1 (pt_not (pt_val (pd D_law_order_right (hr.mono (by decide)) (by rfl) (pa_cons (pv 6) (pa_cons (pv 5) (pa_cons (pv 4) (pa_cons (pv 3) pa_nil))))))))))
      (pss_one (ps_ret pe_bl))
      pss_nil)
        (pss_cons (ps_set (i := 9) sc_law.nd rfl (.inl rfl) (pe_cmpR (op_eqDK K hu64) (pe_ix (ix_listK K) (pv 7) pe_int (fun _ _ => rfl)) (pe_ix (ix_listK K) (pv 7) pe_int (fun _ _ => rfl)) (nomark _)))
        (pss_cons (ps_if (PW.pt (pw_or (pt_cmpR op_ne (pe_cmpR (op_ownCmp (op := .Eq) (fun _ _ => rfl) H_nf M_eq (hr.mono (by decide))) (pv 5) (pv 6) (nomark _)) (pv 9) (nomark _)) (pw_or (pt_cmpR op_eq (pe_cmpR (op_ownNe H_ne H_ob M_eq (hr.mono (by decide))) (pv 5) (pv 6) (nomark _)) (pv 9) (nomark _)) (pw_or1 (pt_not (pt_val (pd D_law_order_right (hr.mono (by decide)) (by rfl) (pa_cons (pv 5) (pa_cons (pv 5) (pa_cons (pv 3) (pa_cons (pv 3) pa_nil)))))))))))
      (pss_one (ps_ret pe_bl))
      pss_nil)
        (pss_one (ps_if (PW.pt (pw_or (pt_cmpR (op_neDK K hu64) (pm0 X.cl M_listed (hr.mono (by decide)) (pv 5)) (pv 3) (nomark _)) (pw_or1 (pt_cmpR (op_neDK K hu64) (pm0 X.cl M_listed (hr.mono (by decide)) (pv 6)) (pe_lc (own := [("rule", 10)]) rfl sc_law.nd (pi_listK K (pd0 D_law_nine (hr.mono (by decide)) (by rfl))) (blkOk_by (by kernel_rfl)) (fun _ _ _ _ _ => (pg_name (i := 10) sc_law.nd rfl (.inl rfl))) (fun _ _ _ _ _ => pts_one (pt_cmpR (op_inK K) (pv 10) (pv 4) rfl)) (fun _ _ _ _ _ => (pv 10))) (nomark _)))))
      (pss_one (ps_ret pe_bl))
      pss_nil)))))))))))))))
    (pss_one (ps_ret pe_bl)))), ?_⟩
    show tSeq _ _ _ [some (.ref a), none, none, none, none, none, none, none, none, none, none, none] H
    refine seqi fun k0 hk0 => ?_
    walk_at "rd"
    refine ⟨a, ns, rfl, hS, hlen, fun H1 p c np e1 P1 => ?_⟩
    obtain ⟨kvs1, hp1⟩ := P1.dict
    subst hk0
    refine seqi fun k0 hk0 => ?_
    walk_at "rd"
    refine ⟨by decide, by decide, ?_⟩
    refine forg_by (jseq_rng 0 20) (fun i σ' H' => ∃ y2 y3 y4 y5 y6 y7 y8 y9 y10 y11, σ' = [some (.ref a), some (.ref p), y2, y3, y4, y5, y6, y7, y8, y9, y10, y11] ∧ PenOk H' p c (60 * i))
      ⟨none, none, none, none, none, none, none, none, none, none, rfl, P1⟩ (fun i σ' H' _ h => trivial) (fun i x σ' H4 hx h => ?_) (fun σ' H' h => ?_)
    · obtain ⟨y2, y3, y4, y5, y6, y7, y8, y9, y10, y11, rfl, P4⟩ := h
      have hi : i < 20 := by
        have := (List.getElem?_eq_some_iff.mp hx).1
        rw [rngV_len] at this
        exact this
      clear hx
      obtain ⟨kvs4, hp4⟩ := P4.dict
      walk_at "rd"
      refine seqi fun k1 hk1 => ?_
      walk_at "rd"
      refine ⟨rfl, fun v6 H6 e6 h6 => ?_⟩
      obtain ⟨a6, rfl, ha6⟩ := h6.rules
      refine ⟨_, rfl, ⟨_, .inl (.inl ha6)⟩, ?_⟩
      have P6 := P4.same e6
      have hp6 := e6 _ _ hp4
      obtain ⟨cxs, hcx6⟩ := P6.cells
      refine lcg_by (jseq_list K a6 ((rS R9).map V.str)) (fun D j acc H' => ∃ bs : List Bool, bs.length = j ∧ j ≤ 9 ∧ acc = (rS (pick bs R9)).map V.str ∧ H' D = some (.lst acc) ∧ But p H6 H' ∧ PenOk H' p c (60 * i + j))
        (fun D hD => ⟨[], rfl, by decide, rfl, upd_same, But.of (same_new hD), P6.same (same_new hD)⟩) (fun D j acc H' hD hj h => ?_) (fun D j x acc H' hD hx h => ?_) (fun D acc H' hD h => ?_)
      · obtain ⟨bs, _, _, _, _, b, _⟩ := h
        exact .inl (.inl (b.1 _ _ ha6 (ne_of ha6 hp6 (by intro z; cases z))))
      · obtain ⟨bs, hbl, hj9, rfl, hacc, b7, P7⟩ := h
        have hjl : j < 9 := (List.getElem?_eq_some_iff.mp hx).1
        have npD : D ≠ p := (ne_of_none hp6 hD).symm
        have ncD : D ≠ c := (ne_of_none hcx6 hD).symm
        obtain ⟨n, hn, rfl⟩ : ∃ n, R9[j]? = some n ∧ x = .str (rn n) := by
          rw [List.getElem?_map] at hx
          unfold rS at hx
          rw [List.getElem?_map] at hx
          cases h9 : R9[j]? with
          | none => rw [h9] at hx; cases hx
          | some n => rw [h9] at hx; cases hx; exact ⟨n, rfl, rfl⟩
        walk_at "rd"
        refine ⟨p, c, 3, 60 * i + j, rfl, P7, by omega, by decide, by decide, fun r8 H8 r80 r81 P8 b8 => ⟨rfl, ?_⟩⟩
        have hacc8 := b8.1 _ _ hacc npD
        refine ite2 (fun h => ?_) (fun h => ?_)
        · refine ⟨_, hacc8, ?_, _, bs ++ [true], by rw [List.length_append, hbl]; rfl, hjl, ?_, upd_same, ((b7.trans b8).mut hD), (P8.mut npD ncD).mono (by omega)⟩
          · rw [List.length_map]
            unfold rS
            rw [List.length_map]
            refine small1000 (Nat.le_trans (?_ : _ ≤ 9) (by decide))
            have := pick_len bs R9
            omega
          · rw [pick_snoc bs R9 true n (by rw [hbl]; exact hn), if_pos rfl]
            unfold rS
            rw [List.map_append, List.map_append]
            rfl
        · refine ⟨_, bs ++ [false], by rw [List.length_append, hbl]; rfl, hjl, ?_, hacc8, b7.trans b8, P8.mono (by omega)⟩
          rw [pick_snoc bs R9 false n (by rw [hbl]; exact hn), if_neg (by decide), List.append_nil]
      · obtain ⟨bs, hbl, _, rfl, hacc, b7, P7⟩ := h
        obtain ⟨b, hb, eb⟩ := pick_sub (bs := bs) hbl
        rw [eb] at hacc
        have hs : Dt H' (.ref D) (ruD (sub b)) := by rw [ruD_eq]; exact .lst hacc (dts_strs _)
        have P7 : PenOk H' p c (60 * i + 9) := P7
        obtain ⟨kvs7, hp7⟩ := P7.dict
        clear hacc b7 hD hp6 P6 h6 e6
        subst hk1
        refine seqi fun k1 hk1 => ?_
        walk_at "rd"
        refine ⟨p, c, .ref D, 60 * i + 9, b, rfl, P7, by omega, hs, fun v8 H8 l lin llen h8 P8 b8 => ?_⟩
        have hs8 := hs.but hp7 b8
        obtain ⟨kvs8, hp8⟩ := P8.dict
        clear hs P7 hp7 b8
        subst hk1
        refine seqi fun k1 hk1 => ?_
        walk_at "rd"
        intro x9 dx nx ndx ne
        have e9 : Same H8 (upd (upd H8 dx (.own x9)) x9 (.ins C dx [])) := fun b o hb => by
          rw [upd_ne (ne_of_none hb nx), upd_ne (ne_of_none hb ndx)]
          exact hb
        refine ⟨x9, dx, .ref D, sub b, rfl, upd_same, hs8.same e9, fun n hn => sub_in hn, sub_len b, fun H10 k10 r10 => ⟨rfl, ?_⟩⟩
        rw [sub_filter] at r10
        have e10 : Same H8 H10 := fun b o hb => k10 b o (e9 _ _ hb) (ne_of_none hb nx)
        clear nx ndx ne e9 k10
        refine ⟨p, c, v8, _, l.map (fun n => .str (rn n)), 0, rfl, P8.same e10, h8.same e10, (fun d hd => ?_), by decide, (by rw [List.length_map]; omega), by omega, fun a11 H11 es pm P11 b11 h11 => ?_⟩
        · obtain ⟨n, hn, rfl⟩ := List.mem_map.mp hd
          exact shp_rn n (lin n hn)
        have hp10 := e10 _ _ hp8
        obtain ⟨ns8, pm8, rfl⟩ := perm_map_inv pm l rfl
        have hin8 : ∀ n ∈ ns8, n ∈ R9 := fun n hn => lin n (pm8.mem_iff.mp hn)
        have hlen8 : ns8.length ≤ 9 := by rw [pm8.length_eq]; exact llen
        have l2 : (l.map fun n => PyData.str (rn n)).length = l.length := List.length_map ..
        have P11 : PenOk H11 p c (60 * i + 60) := P11.mono (by omega)
        have hs11 := (hs8.same e10).but hp10 b11
        have d11 := (h8.same e10).but hp10 b11
        have r11 := r10.but hp10 b11
        clear pm b11 r10 hs8 h8 l2 P8
        intro x12 dx nx ndx ne
        have e12 : Same H11 (upd (upd H11 dx (.own x12)) x12 (.ins C dx [])) := fun b o hb => by
          rw [upd_ne (ne_of_none hb nx), upd_ne (ne_of_none hb ndx)]
          exact hb
        refine ⟨x12, dx, .ref a11, ns8, rfl, upd_same, h11.same e12, hin8, hlen8, fun H14 k13 r13 => ⟨rfl, ?_⟩⟩
        rw [filter_perm pm8] at r13
        have e13 : Same H11 H14 := fun b o hb => k13 b o (e12 _ _ hb) (ne_of_none hb nx)
        clear nx ndx ne e12 k13
        refine ⟨_, _, ⟨rfl, rfl⟩, ?_⟩
        have r14' := r11.same e13
        have s14 := hs11.same e13
        have d14 := d11.same e13
        have P14 := P11.same e13
        clear h11 e10 hs11 d11 P11 r11 e13
        have r14 := r13
        clear r13
        obtain ⟨b2, hb2, eb2⟩ := filter_sub fun i => decide (i ∈ l)
        rw [eb2] at r14
        have lm : ∀ n, n ∈ l ↔ n ∈ sub b2 := fun n => by
          rw [← eb2, List.mem_filter, decide_eq_true_eq]
          exact ⟨fun h => ⟨lin n h, h⟩, fun h => h.2⟩
        subst hk1
        refine seqi fun k1 hk1 => ?_
        walk_at "rd"
        obtain ⟨a8, rfl, hsA⟩ := d14.rules
        obtain ⟨_, eD, hsD⟩ := s14.rules
        cases eD
        have sin : ∀ n ∈ sub b, n ∈ R9 := fun n hn => sub_in hn
        have sin2 : ∀ n ∈ sub b2, n ∈ R9 := fun n hn => sub_in hn
        refine ⟨rfl, fun v15 H15 e15 h15 => ?_⟩
        obtain ⟨a15, rfl, ha15⟩ := h15.rules
        refine ⟨_, rfl, ⟨_, .inl (.inl ha15)⟩, ?_⟩
        refine lcg_old (jseq_list K a15 ((rS R9).map V.str)) (.inl (.inl ha15)) R9 (fun n => .str (rn n)) (dts_rS R9) (by decide) (fOr (sub b) l) (fun n => .str (rn n)) (fun z n hn hz H16 e16 S1 S0 s1 s0 => ?_) (fun D1 H16 hD1 e16 h16 => ?_)
        · obtain rfl := hz.txt
          have e := e15.trans e16
          walk_at "rd"
          refine ⟨_, .inl (.inl (.inl (e _ _ hsD))), rfl, flat_strs _, ?_⟩
          rw [inV_strs, decide_eq_decide.mpr (iff_of_eq (mem_rS hn sin))]
          refine ite2 (fun h => s1 (by unfold fOr; rw [h]; rfl) _ _ (Same.refl _) (.str _)) (fun h => ?_)
          refine ⟨_, .inl (.inl (.inl (e _ _ hsA))), rfl, flat_strs _, ?_⟩
          rw [inV_strs, decide_eq_decide.mpr (iff_of_eq (mem_rS hn lin))]
          exact ite2 (fun h' => s1 (by unfold fOr; rw [h', Bool.or_true]) _ _ (Same.refl _) (.str _)) (fun h' => s0 (by unfold fOr; rw [Bool.eq_false_iff.mpr h, Bool.eq_false_iff.mpr h']; rfl) _ (Same.refl _))
        obtain ⟨_, eD, d1⟩ := Dt.rules (l := R9.filter (fOr (sub b) l)) h16
        cases eD
        refine ⟨by show 1 ≤ sizeLine; decide, fun q1 hq1 => ?_⟩
        have ne1 : D1 ≠ q1 := ne_of_none d1 hq1
        have e17 := e15.trans e16
        have q14 : H14 q1 = none := by
          cases hz : H14 q1 with
          | none => rfl
          | some o => rw [e17 _ _ hz] at hq1; cases hq1
        have S17 := e17.trans (same_new (o := .lst [.ref D1]) hq1)
        have g1 : (upd H16 q1 (.lst [.ref D1])) D1 = _ := (same_new hq1) _ _ d1
        have gq : (upd H16 q1 (.lst [.ref D1])) q1 = _ := upd_same
        generalize upd H16 q1 (.lst [.ref D1]) = H17 at S17 g1 gq
        clear h16 e17 hD1 e16 ha15 h15 e15 d1 hq1
        subst hk1
        refine seqi fun k1 hk1 => ?_
        walk_at "rd"
        refine ⟨.inl ⟨rfl, _, .inl (.inl gq)⟩, rfl, fun v18 H18 e18 h18 => ?_⟩
        obtain ⟨a18, rfl, ha18⟩ := h18.rules
        refine ⟨_, rfl, ⟨_, .inl (.inl ha18)⟩, ?_⟩
        refine lcg_old (jseq_list K a18 ((rS R9).map V.str)) (.inl (.inl ha18)) R9 (fun n => .str (rn n)) (dts_rS R9) (by decide) (fAnd (sub b) l) (fun n => .str (rn n)) (fun z n hn hz H19 e19 S1 S0 s1 s0 => ?_) (fun D2 H19 hD1 e19 h19 => ?_)
        · obtain rfl := hz.txt
          have e := S17.trans (e18.trans e19)
          walk_at "rd"
          refine ⟨_, .inl (.inl (.inl (e _ _ hsD))), rfl, flat_strs _, ?_⟩
          rw [inV_strs, decide_eq_decide.mpr (iff_of_eq (mem_rS hn sin))]
          refine ite2 (fun h => ?_) (fun h => s0 (by unfold fAnd; rw [Bool.eq_false_iff.mpr h]; rfl) _ (Same.refl _))
          refine ⟨_, .inl (.inl (.inl (e _ _ hsA))), rfl, flat_strs _, ?_⟩
          rw [inV_strs, decide_eq_decide.mpr (iff_of_eq (mem_rS hn lin))]
          exact ite2 (fun h' => s1 (by unfold fAnd; rw [h, h']; rfl) _ _ (Same.refl _) (.str _)) (fun h' => s0 (by unfold fAnd; rw [h, Bool.eq_false_iff.mpr h']; rfl) _ (Same.refl _))
        obtain ⟨_, eD, g2⟩ := Dt.rules (l := R9.filter (fAnd (sub b) l)) h19
        cases eD
        have e20 := e18.trans e19
        have gq' := e20 _ _ gq
        have ne2 : D2 ≠ q1 := fun z => by
          rw [z] at hD1
          rw [e18 _ _ gq] at hD1
          cases hD1
        refine ⟨_, gq', by show 1 < sizeLine; decide, ?_⟩
        have g1 : (upd H19 q1 (.lst [.ref D1, .ref D2])) D1 = _ := (upd_ne ne1).trans (e20 _ _ g1)
        have g2 : (upd H19 q1 (.lst [.ref D1, .ref D2])) D2 = _ := (upd_ne ne2).trans g2
        have S20 : Same H14 (upd H19 q1 (.lst [.ref D1, .ref D2])) := Same.mut (S17.trans e20) q14
        have gq : (upd H19 q1 (.lst [.ref D1, .ref D2])) q1 = _ := upd_same
        show k1 _ (upd H19 q1 (.lst [.ref D1, .ref D2]))
        clear gq' S17
        generalize upd H19 q1 (.lst [.ref D1, .ref D2]) = H20 at S20 gq g1 g2
        have S17 := S20
        clear S20 e20 h19 hD1 e19 ha18 h18 e18
        subst hk1
        refine seqi fun k1 hk1 => ?_
        walk_at "rd"
        refine ⟨.inl ⟨rfl, _, .inl (.inl gq)⟩, rfl, fun v18 H18 e18 h18 => ?_⟩
        obtain ⟨a18, rfl, ha18⟩ := h18.rules
        refine ⟨_, rfl, ⟨_, .inl (.inl ha18)⟩, ?_⟩
        refine lcg_old (jseq_list K a18 ((rS R9).map V.str)) (.inl (.inl ha18)) R9 (fun n => .str (rn n)) (dts_rS R9) (by decide) (fSub (sub b) l) (fun n => .str (rn n)) (fun z n hn hz H19 e19 S1 S0 s1 s0 => ?_) (fun D3 H19 hD1 e19 h19 => ?_)
        · obtain rfl := hz.txt
          have e := S17.trans (e18.trans e19)
          walk_at "rd"
          refine ⟨_, .inl (.inl (.inl (e _ _ hsD))), rfl, flat_strs _, ?_⟩
          rw [inV_strs, decide_eq_decide.mpr (iff_of_eq (mem_rS hn sin))]
          refine ite2 (fun h => ?_) (fun h => s0 (by unfold fSub; rw [Bool.eq_false_iff.mpr h]; rfl) _ (Same.refl _))
          refine ⟨_, .inl (.inl (.inl (e _ _ hsA))), rfl, flat_strs _, ?_⟩
          rw [inV_strs, decide_eq_decide.mpr (iff_of_eq (mem_rS hn lin))]
          refine ite2 (fun h' => s1 (by unfold fSub; rw [h, Bool.true_and]; exact h') _ _ (Same.refl _) (.str _)) (fun h' => s0 (by unfold fSub; rw [h, Bool.true_and]; exact Bool.eq_false_iff.mpr h') _ (Same.refl _))
        obtain ⟨_, eD, g3⟩ := Dt.rules (l := R9.filter (fSub (sub b) l)) h19
        cases eD
        have e20 := e18.trans e19
        have gq' := e20 _ _ gq
        have ne3 : D3 ≠ q1 := fun z => by
          rw [z] at hD1
          rw [e18 _ _ gq] at hD1
          cases hD1
        refine ⟨_, gq', by show 2 < sizeLine; decide, ?_⟩
        have g1 : (upd H19 q1 (.lst [.ref D1, .ref D2, .ref D3])) D1 = _ := (upd_ne ne1).trans (e20 _ _ g1)
        have g2 : (upd H19 q1 (.lst [.ref D1, .ref D2, .ref D3])) D2 = _ := (upd_ne ne2).trans (e20 _ _ g2)
        have g3 : (upd H19 q1 (.lst [.ref D1, .ref D2, .ref D3])) D3 = _ := (upd_ne ne3).trans g3
        have S20 : Same H14 (upd H19 q1 (.lst [.ref D1, .ref D2, .ref D3])) := Same.mut (S17.trans e20) q14
        have gq : (upd H19 q1 (.lst [.ref D1, .ref D2, .ref D3])) q1 = _ := upd_same
        show k1 _ (upd H19 q1 (.lst [.ref D1, .ref D2, .ref D3]))
        clear gq' S17
        generalize upd H19 q1 (.lst [.ref D1, .ref D2, .ref D3]) = H20 at S20 gq g1 g2 g3
        have S17 := S20
        clear S20 e20 h19 hD1 e19 ha18 h18 e18
        subst hk1
        refine seqi fun k1 hk1 => ?_
        walk_at "rd"
        refine ⟨.inl ⟨rfl, _, .inl (.inl gq)⟩, rfl, fun v18 H18 e18 h18 => ?_⟩
        obtain ⟨a18, rfl, ha18⟩ := h18.rules
        refine ⟨_, rfl, ⟨_, .inl (.inl ha18)⟩, ?_⟩
        refine lcg_old (jseq_list K a18 ((rS R9).map V.str)) (.inl (.inl ha18)) R9 (fun n => .str (rn n)) (dts_rS R9) (by decide) (fXor (sub b) l) (fun n => .str (rn n)) (fun z n hn hz H19 e19 S1 S0 s1 s0 => ?_) (fun D4 H19 hD1 e19 h19 => ?_)
        · obtain rfl := hz.txt
          have e := S17.trans (e18.trans e19)
          walk_at "rd"
          refine ⟨_, .inl (.inl (.inl (e _ _ hsD))), rfl, flat_strs _, ?_⟩
          refine ⟨_, .inl (.inl (.inl (e _ _ hsA))), rfl, flat_strs _, ?_⟩
          rw [inV_strs, inV_strs, decide_eq_decide.mpr (iff_of_eq (mem_rS hn sin)), decide_eq_decide.mpr (iff_of_eq (mem_rS hn lin))]
          refine ⟨rfl, ?_⟩
          exact ite2 (fun h => s1 h _ _ (Same.refl _) (.str _)) (fun h => s0 (Bool.eq_false_iff.mpr h) _ (Same.refl _))
        obtain ⟨_, eD, g4⟩ := Dt.rules (l := R9.filter (fXor (sub b) l)) h19
        cases eD
        have e20 := e18.trans e19
        have gq' := e20 _ _ gq
        have ne4 : D4 ≠ q1 := fun z => by
          rw [z] at hD1
          rw [e18 _ _ gq] at hD1
          cases hD1
        refine ⟨_, gq', by show 3 < sizeLine; decide, ?_⟩
        have g1 : (upd H19 q1 (.lst [.ref D1, .ref D2, .ref D3, .ref D4])) D1 = _ := (upd_ne ne1).trans (e20 _ _ g1)
        have g2 : (upd H19 q1 (.lst [.ref D1, .ref D2, .ref D3, .ref D4])) D2 = _ := (upd_ne ne2).trans (e20 _ _ g2)
        have g3 : (upd H19 q1 (.lst [.ref D1, .ref D2, .ref D3, .ref D4])) D3 = _ := (upd_ne ne3).trans (e20 _ _ g3)
        have g4 : (upd H19 q1 (.lst [.ref D1, .ref D2, .ref D3, .ref D4])) D4 = _ := (upd_ne ne4).trans g4
        have S20 : Same H14 (upd H19 q1 (.lst [.ref D1, .ref D2, .ref D3, .ref D4])) := Same.mut (S17.trans e20) q14
        have gq : (upd H19 q1 (.lst [.ref D1, .ref D2, .ref D3, .ref D4])) q1 = _ := upd_same
        show k1 _ (upd H19 q1 (.lst [.ref D1, .ref D2, .ref D3, .ref D4]))
        clear gq' S17
        generalize upd H19 q1 (.lst [.ref D1, .ref D2, .ref D3, .ref D4]) = H20 at S20 gq g1 g2 g3 g4
        have S17 := S20
        clear S20 e20 h19 hD1 e19 ha18 h18 e18
        subst hk1
        refine seqi fun k1 hk1 => ?_
        walk_at "rd"
        have hdl : ∀ n, decide (n ∈ l) = decide (n ∈ sub b2) := fun n => decide_eq_decide.mpr (lm n)
        have E1 : R9.filter (fOr (sub b) l) = R9.filter (fOr (sub b) (sub b2)) := List.filter_congr fun n _ => by unfold fOr; rw [hdl]
        have E2 : R9.filter (fAnd (sub b) l) = R9.filter (fAnd (sub b) (sub b2)) := List.filter_congr fun n _ => by unfold fAnd; rw [hdl]
        have E3 : R9.filter (fSub (sub b) l) = R9.filter (fSub (sub b) (sub b2)) := List.filter_congr fun n _ => by unfold fSub; rw [hdl]
        have E4 : R9.filter (fXor (sub b) l) = R9.filter (fXor (sub b) (sub b2)) := List.filter_congr fun n _ => by unfold fXor; rw [hdl]
        rw [E1] at g1
        rw [E2] at g2
        rw [E3] at g3
        rw [E4] at g4
        clear E1 E2 E3 E4
        have R1 := r14'.same S17
        have R2 := r14.same S17
        obtain ⟨u1, w1, i1, j1⟩ := id R1
        obtain ⟨u2, w2, i2, j2⟩ := id R2
        refine ⟨_, _, i1, _, _, i2, x9, _, x12, _, rfl, R1, R2, sin, sin2, sub_len b, fun p1 H21 e21 f1 => ?_⟩
        refine ⟨_, _, e21 _ _ i1, _, _, e21 _ _ i2, x9, _, x12, _, rfl, R1.same e21, R2.same e21, sin, sin2, sub_len b, fun p2 H22 e22 f2 => ?_⟩
        have e22' := e21.trans e22
        refine ⟨_, _, e22' _ _ i1, _, _, e22' _ _ i2, x9, _, x12, _, rfl, R1.same e22', R2.same e22', sin, sin2, sub_len b, fun p3 H23 e23 f3 => ?_⟩
        have e23' := e22'.trans e23
        refine ⟨_, _, e23' _ _ i1, _, _, e23' _ _ i2, x9, _, x12, _, rfl, R1.same e23', R2.same e23', sin, sin2, sub_len b, fun p4 H24 e24 f4 => ?_⟩
        refine ⟨by show 4 ≤ sizeLine; decide, fun qf hqf => ?_⟩
        have e25 : Same H24 (upd H24 qf (.lst [.ref p1, .ref p2, .ref p3, .ref p4])) := same_new hqf
        have S25 := (e23'.trans e24).trans e25
        have f4 := f4.same e25
        have f3 := f3.same (e24.trans e25)
        have f2 := f2.same ((e23.trans e24).trans e25)
        have f1 := f1.same (((e22.trans e23).trans e24).trans e25)
        have hqf : (upd H24 qf (.lst [.ref p1, .ref p2, .ref p3, .ref p4])) qf = _ := upd_same
        generalize upd H24 qf (.lst [.ref p1, .ref p2, .ref p3, .ref p4]) = H25 at S25 hqf f1 f2 f3 f4
        clear e25 e24 e23' e23 e22' e22 e21 i1 j1 i2 j2 R1 R2
        subst hk1
        refine seqi fun k1 hk1 => ?_
        walk_at "rd"
        refine ⟨⟨_, .inl (.inl hqf)⟩, ?_⟩
        refine lcg_by (jseq_list K qf ([p1, p2, p3, p4].map V.ref)) (fun D j acc H' => ∃ ys : List Addr, acc = ys.map V.ref ∧ ys.length = j ∧ j ≤ 4 ∧ H' D = some (.lst acc) ∧ Same H25 H' ∧ ∀ k y f, ys[k]? = some y → [R9.filter (fOr (sub b) (sub b2)), R9.filter (fAnd (sub b) (sub b2)), R9.filter (fSub (sub b) (sub b2)), R9.filter (fXor (sub b) (sub b2))][k]? = some f → H' y = some (.lst ((rS f).map V.str)) ∧ y ≠ D)
          (fun D hD => ⟨[], rfl, rfl, by decide, upd_same, same_new hD, fun k y f h _ => absurd h (by rw [List.getElem?_nil]; exact nofun)⟩) (fun D j acc H' hD hj h => ?_) (fun D j x acc H' hD hx h => ?_) (fun Dk acc H27 hDk h => ?_)
        · obtain ⟨ys, _, _, _, _, e, _⟩ := h
          exact .inl (.inl (e _ _ hqf))
        · obtain ⟨ys, rfl, yl, hj4, hacc, e, hy⟩ := h
          have hjl : j < 4 := (List.getElem?_eq_some_iff.mp hx).1
          obtain ⟨pj, F, hF, rfl, hR⟩ : ∃ pj F, [R9.filter (fOr (sub b) (sub b2)), R9.filter (fAnd (sub b) (sub b2)), R9.filter (fSub (sub b) (sub b2)), R9.filter (fXor (sub b) (sub b2))][j]? = some F ∧ x = .ref pj ∧ RuAt H25 C pj F := by
            match j, hjl, hx with
            | 0, _, hx => cases hx; exact ⟨_, _, rfl, rfl, f1⟩
            | 1, _, hx => cases hx; exact ⟨_, _, rfl, rfl, f2⟩
            | 2, _, hx => cases hx; exact ⟨_, _, rfl, rfl, f3⟩
            | 3, _, hx => cases hx; exact ⟨_, _, rfl, rfl, f4⟩
          walk_at "rd"
          have hR' := hR.same e
          obtain ⟨du, wu, iu, ju⟩ := id hR'
          refine ⟨du, _, iu, rFl_no _ _ _ (by decide +kernel) (by decide +kernel), pj, F, rfl, hR', fun y H26 hy0 e26 hyv => ?_⟩
          have neD : y ≠ D := fun z => by rw [z, hacc] at hy0; cases hy0
          refine ⟨_, e26 _ _ hacc, ?_, _, ys ++ [y], (by rw [List.map_append]; rfl), by rw [List.length_append, yl]; rfl, hjl, upd_same, Same.mut (e.trans e26) hD, fun k y' f hk hf => ?_⟩
          · rw [List.length_map, yl]
            exact small1000 (Nat.le_trans hj4 (by decide))
          · by_cases hkl : k < ys.length
            · rw [List.getElem?_append_left hkl] at hk
              obtain ⟨h1, h2⟩ := hy k y' f hk hf
              exact ⟨(upd_ne h2).trans (e26 _ _ h1), h2⟩
            · have hke : k = j := by
                have := (List.getElem?_eq_some_iff.mp hk).1
                rw [List.length_append, yl] at this
                have : k < j + 1 := this
                omega
              subst hke
              rw [hF] at hf
              cases hf
              rw [List.getElem?_append_right (by omega), yl, Nat.sub_self] at hk
              cases hk
              exact ⟨(upd_ne neD).trans hyv, neD⟩
        · obtain ⟨ys, rfl, yl, _, hacc, e, hy⟩ := h
          have dF : Dt H27 (.ref Dk) (.list ([R9.filter (fOr (sub b) (sub b2)), R9.filter (fAnd (sub b) (sub b2)), R9.filter (fSub (sub b) (sub b2)), R9.filter (fXor (sub b) (sub b2))].map ruD)) := .lst hacc (dts_rus ys _ yl fun k y f a b => (hy k y f a b).1)
          have S26 := S25.trans e
          have dG : Dt H27 (.ref q1) (.list ([R9.filter (fOr (sub b) (sub b2)), R9.filter (fAnd (sub b) (sub b2)), R9.filter (fSub (sub b) (sub b2)), R9.filter (fXor (sub b) (sub b2))].map ruD)) :=
            .lst (S26 _ _ gq) (dts_rus [D1, D2, D3, D4] _ rfl fun k y f a b => match k, a, b with
              | 0, a, b => by cases a; cases b; exact S26 _ _ g1
              | 1, a, b => by cases a; cases b; exact S26 _ _ g2
              | 2, a, b => by cases a; cases b; exact S26 _ _ g3
              | 3, a, b => by cases a; cases b; exact S26 _ _ g4)
          have fin : ∀ l ∈ [R9.filter (fOr (sub b) (sub b2)), R9.filter (fAnd (sub b) (sub b2)), R9.filter (fSub (sub b) (sub b2)), R9.filter (fXor (sub b) (sub b2))], ∀ n ∈ l, n ∈ R9 := by
            intro l hl n hn
            simp only [List.mem_cons, List.not_mem_nil, or_false] at hl
            rcases hl with rfl | rfl | rfl | rfl <;> exact (List.mem_filter.mp hn).1
          have shF : Shp 2 (.list ([R9.filter (fOr (sub b) (sub b2)), R9.filter (fAnd (sub b) (sub b2)), R9.filter (fSub (sub b) (sub b2)), R9.filter (fXor (sub b) (sub b2))].map ruD)) := shp_lst fun d hd => by
            obtain ⟨l, hl, rfl⟩ := List.mem_map.mp hd
            exact shp_ru (fin l hl)
          refine ⟨_, _, dF.dp, dG.dp, shF.ok (by decide), shF.ok (by decide), ?_⟩
          have ev : PyData.eqv (.list ([R9.filter (fOr (sub b) (sub b2)), R9.filter (fAnd (sub b) (sub b2)), R9.filter (fSub (sub b) (sub b2)), R9.filter (fXor (sub b) (sub b2))].map ruD)) (.list ([R9.filter (fOr (sub b) (sub b2)), R9.filter (fAnd (sub b) (sub b2)), R9.filter (fSub (sub b) (sub b2)), R9.filter (fXor (sub b) (sub b2))].map ruD)) = true := eqv_rus fin
          rw [ev]
          refine ⟨_, rfl, iteF ?_⟩
          obtain ⟨du, wu, iu, ju⟩ := id (f1.same e)
          refine ⟨_, .inl (.inl (e _ _ hqf)), _, rfl, _, rfl, _, _, iu, iteF ?_⟩
          have g1 := S26 _ _ g1
          have g2 := S26 _ _ g2
          have gq := S26 _ _ gq
          have S27 := S17.trans S26
          clear iu ju du wu ev shF fin dG dF hy hacc yl f1 f2 f3 f4 hqf S25 hDk e g3 g4 S26 S17
          subst hk1
          refine seqi fun k1 hk1 => ?_
          walk_at "rd"
          have r1 := r14'.same S27
          have r2 := r14.same S27
          refine ⟨x9, b, x12, b2, .ref D, .ref a8, sub b, l, rfl, hb, hb2, r1, r2, s14.same S27, d14.same S27, sub_len b, llen, fun _ => Iff.rfl, lm, fun H28 e28 => ⟨_, rfl, iteF ?_⟩⟩
          refine ⟨x12, b2, x9, b, .ref a8, .ref D, l, sub b, rfl, hb2, hb, r2.same e28, r1.same e28, (d14.same S27).same e28, (s14.same S27).same e28, llen, sub_len b, lm, fun _ => Iff.rfl, fun H29 e29 => ⟨_, rfl, iteF ?_⟩⟩
          have w := e28.trans e29
          have S29 := S27.trans w
          have g1 := w _ _ g1
          have g2 := w _ _ g2
          have gq := w _ _ gq
          clear w e29 e28 r1 r2 S27
          subst hk1
          refine seqi fun k1 hk1 => ?_
          walk_at "rd"
          have orin : ∀ n ∈ R9.filter (fOr (sub b) (sub b2)), n ∈ R9 := fun n hn => (List.mem_filter.mp hn).1
          have anin : ∀ n ∈ R9.filter (fAnd (sub b) (sub b2)), n ∈ R9 := fun n hn => (List.mem_filter.mp hn).1
          have k1d : Dt H29 (.ref D1) (ruD (R9.filter (fOr (sub b) (sub b2)))) := by rw [ruD_eq]; exact .lst g1 (dts_strs _)
          have k2d : Dt H29 (.ref D2) (ruD (R9.filter (fAnd (sub b) (sub b2)))) := by rw [ruD_eq]; exact .lst g2 (dts_strs _)
          refine ⟨_, .inl (.inl gq), _, rfl, _, .inl (.inl gq), _, rfl, _, _, k1d.dp, k2d.dp, (shp_ru orin).ok (by decide), (shp_ru anin).ok (by decide), ?_⟩
          rw [eqv_ru orin anin, or_and]
          clear k1d k2d orin anin g1 g2 gq
          subst hk1
          refine seqi fun k1 hk1 => ?_
          walk_at "rd"
          have r1 := r14'.same S29
          have r2 := r14.same S29
          obtain ⟨u1, w1, i1, j1⟩ := id r1
          obtain ⟨u2, w2, i2, j2⟩ := id r2
          refine ⟨_, _, i1, _, _, i2, x9, _, x12, _, rfl, r1, r2, sin, sin2, fun H30 e30 => ⟨rfl, ?_⟩⟩
          rw [decide_eq_true (rfl : V.bl (decide (sub b = sub b2)) = _)]
          refine iteF ?_
          refine ⟨x9, _, _, x12, _, _, rfl, rfl, e30 _ _ i1, e30 _ _ i2, x9, _, x12, _, rfl, r1.same e30, r2.same e30, sin, sin2, fun H31 e31 => ⟨_, rfl, rfl, ?_⟩⟩
          have nb : ∀ z : Bool, decide (V.bl (!z) = V.bl z) = false := fun z => by cases z <;> decide
          rw [nb]
          refine iteF ?_
          have w := e30.trans e31
          have S31 := S29.trans w
          refine ⟨x9, b, x9, b, .ref D, .ref D, sub b, sub b, rfl, hb, hb, r14'.same S31, r14'.same S31, s14.same S31, s14.same S31, sub_len b, sub_len b, fun _ => Iff.rfl, fun _ => Iff.rfl, fun H32 e32 => ⟨_, rfl, iteF ?_⟩⟩
          have S32 := S31.trans e32
          clear w e32 S31 e31 e30 i1 i2 j1 j2 r1 r2 S29
          subst hk1
          walk_at "rd"
          have r1 := r14'.same S32
          have r2 := r14.same S32
          obtain ⟨u1, w1, i1, j1⟩ := id r1
          obtain ⟨u2, w2, i2, j2⟩ := id r2
          refine ⟨u1, _, i1, rFl_no _ _ _ (by decide +kernel) (by decide +kernel), x9, _, rfl, r1, fun b33 H33 nb33 e33 g33 => ?_⟩
          have k33 : Dt H33 (.ref b33) (ruD (sub b)) := by rw [ruD_eq]; exact .lst g33 (dts_strs _)
          have S33 := S32.trans e33
          refine ⟨_, _, k33.dp, (s14.same S33).dp, (shp_ru sin).ok (by decide), (shp_ru sin).ok (by decide), ?_⟩
          rw [eqv_ru sin sin, decide_eq_true rfl]
          refine ⟨_, rfl, iteF ?_⟩
          refine ⟨u2, _, e33 _ _ i2, rFl_no _ _ _ (by decide +kernel) (by decide +kernel), x12, _, rfl, r2.same e33, fun b34 H34 nb34 e34 g34 => ?_⟩
          have k34 : Dt H34 (.ref b34) (ruD (sub b2)) := by rw [ruD_eq]; exact .lst g34 (dts_strs _)
          have S34 := S33.trans e34
          refine ⟨rfl, fun v35 H35 e35 h35 => ?_⟩
          obtain ⟨a35, rfl, ha35⟩ := h35.rules
          refine ⟨_, rfl, ⟨_, .inl (.inl ha35)⟩, ?_⟩
          refine lcg_old (jseq_list K a35 ((rS R9).map V.str)) (.inl (.inl ha35)) R9 (fun n => .str (rn n)) (dts_rS R9) (by decide) (fun n => decide (n ∈ l)) (fun n => .str (rn n)) (fun z n hn hz H36 e36 S1 S0 s1 s0 => ?_) (fun D36 H36 hD36 e36 h36 => ?_)
          · obtain rfl := hz.txt
            have e := S34.trans (e35.trans e36)
            walk_at "rd"
            refine ⟨_, .inl (.inl (.inl (e _ _ hsA))), rfl, flat_strs _, ?_⟩
            rw [inV_strs, decide_eq_decide.mpr (iff_of_eq (mem_rS hn lin))]
            exact ite2 (fun h' => s1 h' _ _ (Same.refl _) (.str _)) (fun h' => s0 (Bool.eq_false_iff.mpr h') _ (Same.refl _))
          · have h36 : Dt H36 (.ref D36) (ruD (sub b2)) := by
              rw [← eb2]
              exact h36
            have e37 := e35.trans e36
            refine ⟨_, _, (k34.same e37).dp, h36.dp, (shp_ru sin2).ok (by decide), (shp_ru sin2).ok (by decide), ?_⟩
            rw [eqv_ru sin2 sin2, decide_eq_true rfl]
            refine ⟨_, rfl, iteF ?_⟩
            exact ⟨_, _, _, _, _, _, _, _, _, _, ⟨rfl, rfl, rfl, rfl, rfl, rfl, rfl, rfl, rfl, rfl⟩, (P14.same (S34.trans e37)).mono (by omega)⟩
    · obtain ⟨y2, y3, y4, y5, y6, y7, y8, y9, y10, y11, rfl, P4⟩ := h
      subst hk0
      walk_at "rd"
      exact q _
end
end Fp

namespace Fp
open PySem PySem.Spec PyProof.Rows L2
local macro_rules | `(tactic| walk_at "rd") => `(tactic| simp only [cxK, cxKn, tRet, tRetN, rIntI, rIntB, rLenL, rListL, rListT, rAbs, tDisp, tPairs, tC, tCB, tCons, tNil, tSl, tVar, tNoPart, tPart, rSlL, tOp, tAsg, gName, tIfS, tDrop, tTest, tAnd, tOr, Evl.tCut, tNot, tB, rI0, rI, rIxL, rIxT, rIxD, tDGet, sDPut, tLst, tTup, tBM, tBM0, tPar, rAppend, rPopAt, rPop, rExtend, rTupL, tCall, tNext, rAll, rOwnIn, rOwn2, rCat, lc_iL, lc_iT, lc_iK, lc_iR, fr_iL, fr_iT, fr_iR, tYes, rIn, rEq, rNe, gTup, gCons, gNil, wipe, tMeth, tFld, sFld, tMake, tProp, tIf, tAndV, tOrV, tNotV, if_true, if_false, Bool.false_eq_true, List.map_cons, List.map_nil, List.nil_append, List.append_nil, List.cons_append, List.getElem?_cons_zero, List.getElem?_cons_succ, Option.some.injEq, exists_and_left, exists_eq_left', exists_eq_left, List.cons.injEq, and_true, true_and, V.ref.injEq, V.int.injEq, V.str.injEq, V.bl.injEq, List.set_cons_zero, List.set_cons_succ])
theorem all_mk {l : PySem.W.OpenLaw} {w : World} {K : PySem.W.Frag} {h : Heap} {mg : Str → Option Value} {fa C aR aD : Addr} (X : K.In h) (G : h.Ns mainGlobals mg) (hfa : mg "law" = some (.ref fa))
    {f_ha f_wk f_pe f_dr f_pi f_sh f_ni f_th f_cl f_fw f_ne f_od f_la f_li f_mo f_ma f_ms f_mx f_eq f_le f_lt f_ge f_gt f_in T_in e_in T0 T1 T2 T3 T4 T5 T6 T7 T8 T9 T10 T11 T12 : Addr} {od_ha an_ha od_wk an_wk od_pe an_pe od_dr an_dr od_pi an_pi od_sh an_sh od_ni an_ni od_th an_th od_cl an_cl od_fw an_fw od_ne an_ne od_od an_od od_la an_la od_li an_li od_mo an_mo od_ma an_ma od_ms an_ms od_mx an_mx od_eq an_eq od_le an_le od_lt an_lt od_ge an_ge od_gt an_gt od_in an_in odT od_R od_T0 od_T1 od_T2 od_T3 od_T4 od_T5 od_T6 od_T7 od_T8 od_T9 od_T10 od_T11 od_T12 : Option Addr} {sl_ha sl_wk sl_pe sl_dr sl_pi sl_sh sl_ni sl_th sl_cl sl_fw sl_ne sl_od sl_la sl_li sl_mo sl_ma sl_ms sl_mx sl_eq sl_le sl_lt sl_ge sl_gt sl_in slT sl_R sl_T0 sl_T1 sl_T2 sl_T3 sl_T4 sl_T5 sl_T6 sl_T7 sl_T8 sl_T9 sl_T10 sl_T11 sl_T12 : Array (Option Value)}
    {oc_ha kV_ha dc_ha pm_ha cd_ha ct_ha oc_wk kV_wk dc_wk pm_wk cd_wk ct_wk oc_pe kV_pe dc_pe pm_pe cd_pe ct_pe oc_dr kV_dr dc_dr pm_dr cd_dr ct_dr oc_pi kV_pi dc_pi pm_pi cd_pi ct_pi oc_sh kV_sh dc_sh pm_sh cd_sh ct_sh oc_ni kV_ni dc_ni pm_ni cd_ni ct_ni oc_th kV_th dc_th pm_th cd_th ct_th oc_cl kV_cl dc_cl pm_cl cd_cl ct_cl oc_fw kV_fw dc_fw pm_fw cd_fw ct_fw oc_ne kV_ne dc_ne pm_ne cd_ne ct_ne oc_od kV_od dc_od pm_od cd_od ct_od oc_la kV_la dc_la pm_la cd_la ct_la oc_li kV_li dc_li pm_li cd_li ct_li oc_mo kV_mo dc_mo pm_mo cd_mo ct_mo oc_ma kV_ma dc_ma pm_ma cd_ma ct_ma oc_ms kV_ms dc_ms pm_ms cd_ms ct_ms oc_mx kV_mx dc_mx pm_mx cd_mx ct_mx oc_eq kV_eq dc_eq pm_eq cd_eq ct_eq oc_le kV_le dc_le pm_le cd_le ct_le oc_lt kV_lt dc_lt pm_lt cd_lt ct_lt oc_ge kV_ge dc_ge pm_ge cd_ge ct_ge oc_gt kV_gt dc_gt pm_gt cd_gt ct_gt oc_in kV_in dc_in pm_in cd_in ct_in ocT : Value} {esD : Array DictEntry} {nT nD n_R n_T0 n_T1 n_T2 n_T3 n_T4 n_T5 n_T6 n_T7 n_T8 n_T9 n_T10 n_T11 n_T12 : Nat} {t_R_0 t_R_1 t_R_2 t_R_3 t_R_4 t_R_5 t_R_6 t_R_7 t_R_8 t_T1_1 t_T2_0 t_T3_0 t_T3_1 t_T4_0 t_T4_1 t_T4_8 t_T5_0 t_T5_2 t_T6_0 t_T6_2 t_T6_3 t_T7_0 t_T7_2 t_T7_4 t_T8_0 t_T8_1 t_T8_2 t_T8_3 t_T8_4 t_T9_0 t_T9_2 t_T9_5 t_T10_0 t_T10_2 t_T10_3 t_T10_5 t_T10_6 t_T11_0 t_T11_2 t_T11_4 t_T11_5 t_T11_7 t_T12_0 t_T12_1 t_T12_2 t_T12_3 t_T12_4 t_T12_5 t_T12_6 t_T12_7 t_T12_8 : Tok}
    (a_ha : PySem.W.nsIn K mainGlobals "_has_all" = some (some (.ref f_ha)))
    (l_ha : K.lookup f_ha = some ⟨oc_ha, od_ha, .func (PySem.W.fnOf "_has_all" "_has_all" (defArgs s__has_all) (defBody s__has_all) (defScope s__has_all) .none kV_ha dc_ha pm_ha an_ha cd_ha ct_ha), sl_ha⟩)
    (c_ha : PySem.W.codeIn K cd_ha "_has_all" = true)
    (k_ha : PySem.W.keepIn K (.ref f_ha) = true)
    (a_wk : PySem.W.nsIn K mainGlobals "_weakest_kind" = some (some (.ref f_wk)))
    (l_wk : K.lookup f_wk = some ⟨oc_wk, od_wk, .func (PySem.W.fnOf "_weakest_kind" "_weakest_kind" (defArgs s__weakest_kind) (defBody s__weakest_kind) (defScope s__weakest_kind) .none kV_wk dc_wk pm_wk an_wk cd_wk ct_wk), sl_wk⟩)
    (c_wk : PySem.W.codeIn K cd_wk "_weakest_kind" = true)
    (k_wk : PySem.W.keepIn K (.ref f_wk) = true)
    (a_pe : PySem.W.nsIn K mainGlobals "_law_pen" = some (some (.ref f_pe)))
    (l_pe : K.lookup f_pe = some ⟨oc_pe, od_pe, .func (PySem.W.fnOf "_law_pen" "_law_pen" (defArgs s__law_pen) (defBody s__law_pen) (defScope s__law_pen) .none kV_pe dc_pe pm_pe an_pe cd_pe ct_pe), sl_pe⟩)
    (c_pe : PySem.W.codeIn K cd_pe "_law_pen" = true)
    (k_pe : PySem.W.keepIn K (.ref f_pe) = true)
    (a_dr : PySem.W.nsIn K mainGlobals "_law_draw" = some (some (.ref f_dr)))
    (l_dr : K.lookup f_dr = some ⟨oc_dr, od_dr, .func (PySem.W.fnOf "_law_draw" "_law_draw" (defArgs s__law_draw) (defBody s__law_draw) (defScope s__law_draw) .none kV_dr dc_dr pm_dr an_dr cd_dr ct_dr), sl_dr⟩)
    (c_dr : PySem.W.codeIn K cd_dr "_law_draw" = true)
    (k_dr : PySem.W.keepIn K (.ref f_dr) = true)
    (a_pi : PySem.W.nsIn K mainGlobals "_law_pick" = some (some (.ref f_pi)))
    (l_pi : K.lookup f_pi = some ⟨oc_pi, od_pi, .func (PySem.W.fnOf "_law_pick" "_law_pick" (defArgs s__law_pick) (defBody s__law_pick) (defScope s__law_pick) .none kV_pi dc_pi pm_pi an_pi cd_pi ct_pi), sl_pi⟩)
    (c_pi : PySem.W.codeIn K cd_pi "_law_pick" = true)
    (k_pi : PySem.W.keepIn K (.ref f_pi) = true)
    (a_sh : PySem.W.nsIn K mainGlobals "_law_shuffled" = some (some (.ref f_sh)))
    (l_sh : K.lookup f_sh = some ⟨oc_sh, od_sh, .func (PySem.W.fnOf "_law_shuffled" "_law_shuffled" (defArgs s__law_shuffled) (defBody s__law_shuffled) (defScope s__law_shuffled) .none kV_sh dc_sh pm_sh an_sh cd_sh ct_sh), sl_sh⟩)
    (c_sh : PySem.W.codeIn K cd_sh "_law_shuffled" = true)
    (k_sh : PySem.W.keepIn K (.ref f_sh) = true)
    (a_ni : PySem.W.nsIn K mainGlobals "_law_nine" = some (some (.ref f_ni)))
    (l_ni : K.lookup f_ni = some ⟨oc_ni, od_ni, .func (PySem.W.fnOf "_law_nine" "_law_nine" (defArgs s__law_nine) (defBody s__law_nine) (defScope s__law_nine) .none kV_ni dc_ni pm_ni an_ni cd_ni ct_ni), sl_ni⟩)
    (c_ni : PySem.W.codeIn K cd_ni "_law_nine" = true)
    (k_ni : PySem.W.keepIn K (.ref f_ni) = true)
    (a_th : PySem.W.nsIn K mainGlobals "_law_thirteen" = some (some (.ref f_th)))
    (l_th : K.lookup f_th = some ⟨oc_th, od_th, .func (PySem.W.fnOf "_law_thirteen" "_law_thirteen" (defArgs s__law_thirteen) (defBody s__law_thirteen) (defScope s__law_thirteen) .none kV_th dc_th pm_th an_th cd_th ct_th), sl_th⟩)
    (c_th : PySem.W.codeIn K cd_th "_law_thirteen" = true)
    (k_th : PySem.W.keepIn K (.ref f_th) = true)
    (a_cl : PySem.W.nsIn K mainGlobals "_law_closure" = some (some (.ref f_cl)))
    (l_cl : K.lookup f_cl = some ⟨oc_cl, od_cl, .func (PySem.W.fnOf "_law_closure" "_law_closure" (defArgs s__law_closure) (defBody s__law_closure) (defScope s__law_closure) .none kV_cl dc_cl pm_cl an_cl cd_cl ct_cl), sl_cl⟩)
    (c_cl : PySem.W.codeIn K cd_cl "_law_closure" = true)
    (k_cl : PySem.W.keepIn K (.ref f_cl) = true)
    (a_fw : PySem.W.nsIn K mainGlobals "_law_few" = some (some (.ref f_fw)))
    (l_fw : K.lookup f_fw = some ⟨oc_fw, od_fw, .func (PySem.W.fnOf "_law_few" "_law_few" (defArgs s__law_few) (defBody s__law_few) (defScope s__law_few) .none kV_fw dc_fw pm_fw an_fw cd_fw ct_fw), sl_fw⟩)
    (c_fw : PySem.W.codeIn K cd_fw "_law_few" = true)
    (k_fw : PySem.W.keepIn K (.ref f_fw) = true)
    (a_ne : PySem.W.nsIn K mainGlobals "_law_near" = some (some (.ref f_ne)))
    (l_ne : K.lookup f_ne = some ⟨oc_ne, od_ne, .func (PySem.W.fnOf "_law_near" "_law_near" (defArgs s__law_near) (defBody s__law_near) (defScope s__law_near) .none kV_ne dc_ne pm_ne an_ne cd_ne ct_ne), sl_ne⟩)
    (c_ne : PySem.W.codeIn K cd_ne "_law_near" = true)
    (k_ne : PySem.W.keepIn K (.ref f_ne) = true)
    (a_od : PySem.W.nsIn K mainGlobals "_law_order_right" = some (some (.ref f_od)))
    (l_od : K.lookup f_od = some ⟨oc_od, od_od, .func (PySem.W.fnOf "_law_order_right" "_law_order_right" (defArgs s__law_order_right) (defBody s__law_order_right) (defScope s__law_order_right) .none kV_od dc_od pm_od an_od cd_od ct_od), sl_od⟩)
    (c_od : PySem.W.codeIn K cd_od "_law_order_right" = true)
    (k_od : PySem.W.keepIn K (.ref f_od) = true)
    (a_la : PySem.W.nsIn K mainGlobals "law" = some (some (.ref f_la)))
    (l_la : K.lookup f_la = some ⟨oc_la, od_la, .func (PySem.W.fnOf "law" "law" (defArgs s_law) (defBody s_law) (defScope s_law) .none kV_la dc_la pm_la an_la cd_la ct_la), sl_la⟩)
    (c_la : PySem.W.codeIn K cd_la "law" = true)
    (k_la : PySem.W.keepIn K (.ref f_la) = true)
    (a_li : PySem.W.findIn K (.ref C) "listed" = some (some (.ref f_li)))
    (i_li : PySem.W.isFn K (.ref f_li) = true)
    (l_li : K.lookup f_li = some ⟨oc_li, od_li, .func (PySem.W.fnOf "listed" "Rules.listed" (defArgs s_Rules_listed) (defBody s_Rules_listed) (defScope s_Rules_listed) .none kV_li dc_li pm_li an_li cd_li ct_li), sl_li⟩)
    (c_li : PySem.W.codeIn K cd_li "Rules.listed" = true)
    (k_li : PySem.W.keepIn K (.ref f_li) = true)
    (a_mo : PySem.W.findIn K (.ref C) "__or__" = some (some (.ref f_mo)))
    (i_mo : PySem.W.isFn K (.ref f_mo) = true)
    (l_mo : K.lookup f_mo = some ⟨oc_mo, od_mo, .func (PySem.W.fnOf "__or__" "Rules.__or__" (defArgs s_Rules___or__) (defBody s_Rules___or__) (defScope s_Rules___or__) .none kV_mo dc_mo pm_mo an_mo cd_mo ct_mo), sl_mo⟩)
    (c_mo : PySem.W.codeIn K cd_mo "Rules.__or__" = true)
    (k_mo : PySem.W.keepIn K (.ref f_mo) = true)
    (a_ma : PySem.W.findIn K (.ref C) "__and__" = some (some (.ref f_ma)))
    (i_ma : PySem.W.isFn K (.ref f_ma) = true)
    (l_ma : K.lookup f_ma = some ⟨oc_ma, od_ma, .func (PySem.W.fnOf "__and__" "Rules.__and__" (defArgs s_Rules___and__) (defBody s_Rules___and__) (defScope s_Rules___and__) .none kV_ma dc_ma pm_ma an_ma cd_ma ct_ma), sl_ma⟩)
    (c_ma : PySem.W.codeIn K cd_ma "Rules.__and__" = true)
    (k_ma : PySem.W.keepIn K (.ref f_ma) = true)
    (a_ms : PySem.W.findIn K (.ref C) "__sub__" = some (some (.ref f_ms)))
    (i_ms : PySem.W.isFn K (.ref f_ms) = true)
    (l_ms : K.lookup f_ms = some ⟨oc_ms, od_ms, .func (PySem.W.fnOf "__sub__" "Rules.__sub__" (defArgs s_Rules___sub__) (defBody s_Rules___sub__) (defScope s_Rules___sub__) .none kV_ms dc_ms pm_ms an_ms cd_ms ct_ms), sl_ms⟩)
    (c_ms : PySem.W.codeIn K cd_ms "Rules.__sub__" = true)
    (k_ms : PySem.W.keepIn K (.ref f_ms) = true)
    (a_mx : PySem.W.findIn K (.ref C) "__xor__" = some (some (.ref f_mx)))
    (i_mx : PySem.W.isFn K (.ref f_mx) = true)
    (l_mx : K.lookup f_mx = some ⟨oc_mx, od_mx, .func (PySem.W.fnOf "__xor__" "Rules.__xor__" (defArgs s_Rules___xor__) (defBody s_Rules___xor__) (defScope s_Rules___xor__) .none kV_mx dc_mx pm_mx an_mx cd_mx ct_mx), sl_mx⟩)
    (c_mx : PySem.W.codeIn K cd_mx "Rules.__xor__" = true)
    (k_mx : PySem.W.keepIn K (.ref f_mx) = true)
    (a_eq : PySem.W.findIn K (.ref C) "__eq__" = some (some (.ref f_eq)))
    (i_eq : PySem.W.isFn K (.ref f_eq) = true)
    (l_eq : K.lookup f_eq = some ⟨oc_eq, od_eq, .func (PySem.W.fnOf "__eq__" "Rules.__eq__" (defArgs s_Rules___eq__) (defBody s_Rules___eq__) (defScope s_Rules___eq__) .none kV_eq dc_eq pm_eq an_eq cd_eq ct_eq), sl_eq⟩)
    (c_eq : PySem.W.codeIn K cd_eq "Rules.__eq__" = true)
    (k_eq : PySem.W.keepIn K (.ref f_eq) = true)
    (a_le : PySem.W.findIn K (.ref C) "__le__" = some (some (.ref f_le)))
    (i_le : PySem.W.isFn K (.ref f_le) = true)
    (l_le : K.lookup f_le = some ⟨oc_le, od_le, .func (PySem.W.fnOf "__le__" "Rules.__le__" (defArgs s_Rules___le__) (defBody s_Rules___le__) (defScope s_Rules___le__) .none kV_le dc_le pm_le an_le cd_le ct_le), sl_le⟩)
    (c_le : PySem.W.codeIn K cd_le "Rules.__le__" = true)
    (k_le : PySem.W.keepIn K (.ref f_le) = true)
    (a_lt : PySem.W.findIn K (.ref C) "__lt__" = some (some (.ref f_lt)))
    (i_lt : PySem.W.isFn K (.ref f_lt) = true)
    (l_lt : K.lookup f_lt = some ⟨oc_lt, od_lt, .func (PySem.W.fnOf "__lt__" "Rules.__lt__" (defArgs s_Rules___lt__) (defBody s_Rules___lt__) (defScope s_Rules___lt__) .none kV_lt dc_lt pm_lt an_lt cd_lt ct_lt), sl_lt⟩)
    (c_lt : PySem.W.codeIn K cd_lt "Rules.__lt__" = true)
    (k_lt : PySem.W.keepIn K (.ref f_lt) = true)
    (a_ge : PySem.W.findIn K (.ref C) "__ge__" = some (some (.ref f_ge)))
    (i_ge : PySem.W.isFn K (.ref f_ge) = true)
    (l_ge : K.lookup f_ge = some ⟨oc_ge, od_ge, .func (PySem.W.fnOf "__ge__" "Rules.__ge__" (defArgs s_Rules___ge__) (defBody s_Rules___ge__) (defScope s_Rules___ge__) .none kV_ge dc_ge pm_ge an_ge cd_ge ct_ge), sl_ge⟩)
    (c_ge : PySem.W.codeIn K cd_ge "Rules.__ge__" = true)
    (k_ge : PySem.W.keepIn K (.ref f_ge) = true)
    (a_gt : PySem.W.findIn K (.ref C) "__gt__" = some (some (.ref f_gt)))
    (i_gt : PySem.W.isFn K (.ref f_gt) = true)
    (l_gt : K.lookup f_gt = some ⟨oc_gt, od_gt, .func (PySem.W.fnOf "__gt__" "Rules.__gt__" (defArgs s_Rules___gt__) (defBody s_Rules___gt__) (defScope s_Rules___gt__) .none kV_gt dc_gt pm_gt an_gt cd_gt ct_gt), sl_gt⟩)
    (c_gt : PySem.W.codeIn K cd_gt "Rules.__gt__" = true)
    (k_gt : PySem.W.keepIn K (.ref f_gt) = true)
    (a_in : PySem.W.findIn K (.ref C) "__init__" = some (some (.ref f_in)))
    (i_in : PySem.W.isFn K (.ref f_in) = true)
    (l_in : K.lookup f_in = some ⟨oc_in, od_in, .func (PySem.W.fnOf "__init__" "Rules.__init__" (defArgs s_Rules___init__) (defBody s_Rules___init__) (defScope s_Rules___init__) (.ref T_in) kV_in dc_in pm_in an_in cd_in ct_in), sl_in⟩)
    (c_in : PySem.W.codeIn K cd_in "Rules.__init__" = true)
    (k_in : PySem.W.keepIn K (.ref f_in) = true)
    (lT : K.lookup T_in = some ⟨ocT, odT, .seq #[.ref e_in] nT, slT⟩)
    (aC : PySem.W.nsIn K mainGlobals "Rules" = some (some (.ref C)))
    (mk : PySem.W.makesIn K C = true)
    (kC : PySem.W.keepIn K (.ref C) = true)
    (pg : PySem.W.plainGet K C Str.empty = true)
    (hd : PySem.W.hasDictIn K C = true)
    (po : PySem.W.plainOver K C = true)
    (sa : PySem.W.findIn K (.ref C) "__setattr__" = some (some (.builtin "object.__setattr__")))
    (nN : PySem.W.findIn K (.ref C) "_names" = some none)
    (nK : PySem.W.findIn K (.ref C) "_kind" = some none)
    (iA : PySem.W.findIn K (.ref C) "__class__" = some (some (.builtin "object.__class__")))
    (iN : PySem.W.specialIn K (.builtin "object.__class__") "__get__" = some (some (.builtin "getset_descriptor.__get__")))
    (iT : PySem.W.takesIn K (.builtin "object.__class__") = some true)
    (iM : PySem.W.mroIn K C (.type "object") = some true)
    (iE : PySem.W.kitOne K (.ref C) (.ref C) = some true)
    (nf : PySem.W.notFirst K C (.ref C) = true)
    (sf : PySem.W.selfFirst K C = true)
    (hne : PySem.W.findIn K (.ref C) "__ne__" = some (some (.builtin "object.__ne__")))
    (aR_ : PySem.W.nsIn K mainGlobals "_RULES" = some (some (.ref aR)))
    (l_R : K.lookup aR = some ⟨.type "tuple", od_R, .seq #[.str "grouping" t_R_0, .str "order" t_R_1, .str "middle" t_R_2, .str "first" t_R_3, .str "last" t_R_4, .str "ends" t_R_5, .str "keep" t_R_6, .str "take" t_R_7, .str "vanish" t_R_8] n_R, sl_R⟩)
    (aD_ : PySem.W.nsIn K mainGlobals "_RULES_OF" = some (some (.ref aD)))
    (lD : K.lookup aD = some ⟨.type "dict", none, .dict esD nD, #[]⟩)
    (d0 : PySem.W.nsIn K aD "trees" = some (some (.ref T0)))
    (l_T0 : K.lookup T0 = some ⟨.type "tuple", od_T0, .seq #[] n_T0, sl_T0⟩)
    (d1 : PySem.W.nsIn K aD "pairs" = some (some (.ref T1)))
    (l_T1 : K.lookup T1 = some ⟨.type "tuple", od_T1, .seq #[.str "order" t_T1_1] n_T1, sl_T1⟩)
    (d2 : PySem.W.nsIn K aD "words" = some (some (.ref T2)))
    (l_T2 : K.lookup T2 = some ⟨.type "tuple", od_T2, .seq #[.str "grouping" t_T2_0] n_T2, sl_T2⟩)
    (d3 : PySem.W.nsIn K aD "bags" = some (some (.ref T3)))
    (l_T3 : K.lookup T3 = some ⟨.type "tuple", od_T3, .seq #[.str "grouping" t_T3_0, .str "order" t_T3_1] n_T3, sl_T3⟩)
    (d4 : PySem.W.nsIn K aD "parity" = some (some (.ref T4)))
    (l_T4 : K.lookup T4 = some ⟨.type "tuple", od_T4, .seq #[.str "grouping" t_T4_0, .str "order" t_T4_1, .str "vanish" t_T4_8] n_T4, sl_T4⟩)
    (d5 : PySem.W.nsIn K aD "middles" = some (some (.ref T5)))
    (l_T5 : K.lookup T5 = some ⟨.type "tuple", od_T5, .seq #[.str "grouping" t_T5_0, .str "middle" t_T5_2] n_T5, sl_T5⟩)
    (d6 : PySem.W.nsIn K aD "heads" = some (some (.ref T6)))
    (l_T6 : K.lookup T6 = some ⟨.type "tuple", od_T6, .seq #[.str "grouping" t_T6_0, .str "middle" t_T6_2, .str "first" t_T6_3] n_T6, sl_T6⟩)
    (d7 : PySem.W.nsIn K aD "tails" = some (some (.ref T7)))
    (l_T7 : K.lookup T7 = some ⟨.type "tuple", od_T7, .seq #[.str "grouping" t_T7_0, .str "middle" t_T7_2, .str "last" t_T7_4] n_T7, sl_T7⟩)
    (d8 : PySem.W.nsIn K aD "sets" = some (some (.ref T8)))
    (l_T8 : K.lookup T8 = some ⟨.type "tuple", od_T8, .seq #[.str "grouping" t_T8_0, .str "order" t_T8_1, .str "middle" t_T8_2, .str "first" t_T8_3, .str "last" t_T8_4] n_T8, sl_T8⟩)
    (d9 : PySem.W.nsIn K aD "outer" = some (some (.ref T9)))
    (l_T9 : K.lookup T9 = some ⟨.type "tuple", od_T9, .seq #[.str "grouping" t_T9_0, .str "middle" t_T9_2, .str "ends" t_T9_5] n_T9, sl_T9⟩)
    (d10 : PySem.W.nsIn K aD "lefts" = some (some (.ref T10)))
    (l_T10 : K.lookup T10 = some ⟨.type "tuple", od_T10, .seq #[.str "grouping" t_T10_0, .str "middle" t_T10_2, .str "first" t_T10_3, .str "ends" t_T10_5, .str "keep" t_T10_6] n_T10, sl_T10⟩)
    (d11 : PySem.W.nsIn K aD "rights" = some (some (.ref T11)))
    (l_T11 : K.lookup T11 = some ⟨.type "tuple", od_T11, .seq #[.str "grouping" t_T11_0, .str "middle" t_T11_2, .str "last" t_T11_4, .str "ends" t_T11_5, .str "take" t_T11_7] n_T11, sl_T11⟩)
    (d12 : PySem.W.nsIn K aD "one" = some (some (.ref T12)))
    (l_T12 : K.lookup T12 = some ⟨.type "tuple", od_T12, .seq #[.str "grouping" t_T12_0, .str "order" t_T12_1, .str "middle" t_T12_2, .str "first" t_T12_3, .str "last" t_T12_4, .str "ends" t_T12_5, .str "keep" t_T12_6, .str "take" t_T12_7, .str "vanish" t_T12_8] n_T12, sl_T12⟩)
    (z_list : PySem.W.nsIn K mainGlobals "list" = some none)
    (z_all : PySem.W.nsIn K mainGlobals "all" = some none)
    (z_tuple : PySem.W.nsIn K mainGlobals "tuple" = some none)
    (z_isinstance : PySem.W.nsIn K mainGlobals "isinstance" = some none)
    (z_range : PySem.W.nsIn K mainGlobals "range" = some none)
    (z_int : PySem.W.nsIn K mainGlobals "int" = some none)
    (z_len : PySem.W.nsIn K mainGlobals "len" = some none)
    (z_abs : PySem.W.nsIn K mainGlobals "abs" = some none)
    (z_min : PySem.W.nsIn K mainGlobals "min" = some none)
    (hkeys : esD.toList.map keyTxt = kS.map some)
    (hlits : PySem.W.KeysLit w.params esD.toList)
    (hlow : (aD == sysModules) = false)
    : ∃ fd : FuncData, (∀ (s : Shared) (v : Value), BindsTo s fd ⟨[v], []⟩ [("script", v)]) ∧ ∀ base : Heap, K.In base → base.Ns mainGlobals mg → FnOk l.prog w K mg base CX0 6 fa fd ["script"] (spLaw K) := by
  have e := hfa.symm.trans (PySem.W.mg_of X G a_la)
  cases e
  have F_ha := fun_mk (st := s__has_all) l_ha c_ha k_ha
  have F_wk := fun_mk (st := s__weakest_kind) l_wk c_wk k_wk
  have F_pe := fun_mk (st := s__law_pen) l_pe c_pe k_pe
  have F_dr := fun_mk (st := s__law_draw) l_dr c_dr k_dr
  have F_pi := fun_mk (st := s__law_pick) l_pi c_pi k_pi
  have F_sh := fun_mk (st := s__law_shuffled) l_sh c_sh k_sh
  have F_ni := fun_mk (st := s__law_nine) l_ni c_ni k_ni
  have F_th := fun_mk (st := s__law_thirteen) l_th c_th k_th
  have F_cl := fun_mk (st := s__law_closure) l_cl c_cl k_cl
  have F_fw := fun_mk (st := s__law_few) l_fw c_fw k_fw
  have F_ne := fun_mk (st := s__law_near) l_ne c_ne k_ne
  have F_od := fun_mk (st := s__law_order_right) l_od c_od k_od
  have F_la := fun_mk (st := s_law) l_la c_la k_la
  have F_li := fun_mk (st := s_Rules_listed) l_li c_li k_li
  have F_mo := fun_mk (st := s_Rules___or__) l_mo c_mo k_mo
  have F_ma := fun_mk (st := s_Rules___and__) l_ma c_ma k_ma
  have F_ms := fun_mk (st := s_Rules___sub__) l_ms c_ms k_ms
  have F_mx := fun_mk (st := s_Rules___xor__) l_mx c_mx k_mx
  have F_eq := fun_mk (st := s_Rules___eq__) l_eq c_eq k_eq
  have F_le := fun_mk (st := s_Rules___le__) l_le c_le k_le
  have F_lt := fun_mk (st := s_Rules___lt__) l_lt c_lt k_lt
  have F_ge := fun_mk (st := s_Rules___ge__) l_ge c_ge k_ge
  have F_gt := fun_mk (st := s_Rules___gt__) l_gt c_gt k_gt
  have b_ha := F_ha.binds (ps := ["rules", "names"]) fun _ _ _ _ _ _ us hl => match us, hl with | [_, _], _ => rfl
  have b_wk := F_wk.binds (ps := ["names"]) fun _ _ _ _ _ _ us hl => match us, hl with | [_], _ => rfl
  have b_pe := F_pe.binds (ps := ["script"]) fun _ _ _ _ _ _ us hl => match us, hl with | [_], _ => rfl
  have b_dr := F_dr.binds (ps := ["pen", "span"]) fun _ _ _ _ _ _ us hl => match us, hl with | [_, _], _ => rfl
  have b_pi := F_pi.binds (ps := ["pen", "options"]) fun _ _ _ _ _ _ us hl => match us, hl with | [_, _], _ => rfl
  have b_sh := F_sh.binds (ps := ["pen", "items"]) fun _ _ _ _ _ _ us hl => match us, hl with | [_, _], _ => rfl
  have b_ni := F_ni.binds (ps := ([] : List Str)) fun _ _ _ _ _ _ us hl => match us, hl with | [], _ => rfl
  have b_th := F_th.binds (ps := ([] : List Str)) fun _ _ _ _ _ _ us hl => match us, hl with | [], _ => rfl
  have b_cl := F_cl.binds (ps := ["names"]) fun _ _ _ _ _ _ us hl => match us, hl with | [_], _ => rfl
  have b_fw := F_fw.binds (ps := ["pen", "items", "span"]) fun _ _ _ _ _ _ us hl => match us, hl with | [_, _, _], _ => rfl
  have b_ne := F_ne.binds (ps := ["pen", "some"]) fun _ _ _ _ _ _ us hl => match us, hl with | [_, _], _ => rfl
  have b_od := F_od.binds (ps := ["one", "two", "some", "more"]) fun _ _ _ _ _ _ us hl => match us, hl with | [_, _, _, _], _ => rfl
  have b_li := F_li.binds (ps := ["self"]) fun _ _ _ _ _ _ us hl => match us, hl with | [_], _ => rfl
  have b_mo := F_mo.binds (ps := ["self", "other"]) fun _ _ _ _ _ _ us hl => match us, hl with | [_, _], _ => rfl
  have b_ma := F_ma.binds (ps := ["self", "other"]) fun _ _ _ _ _ _ us hl => match us, hl with | [_, _], _ => rfl
  have b_ms := F_ms.binds (ps := ["self", "other"]) fun _ _ _ _ _ _ us hl => match us, hl with | [_, _], _ => rfl
  have b_mx := F_mx.binds (ps := ["self", "other"]) fun _ _ _ _ _ _ us hl => match us, hl with | [_, _], _ => rfl
  have b_eq := F_eq.binds (ps := ["self", "other"]) fun _ _ _ _ _ _ us hl => match us, hl with | [_, _], _ => rfl
  have b_le := F_le.binds (ps := ["self", "other"]) fun _ _ _ _ _ _ us hl => match us, hl with | [_, _], _ => rfl
  have b_lt := F_lt.binds (ps := ["self", "other"]) fun _ _ _ _ _ _ us hl => match us, hl with | [_, _], _ => rfl
  have b_ge := F_ge.binds (ps := ["self", "other"]) fun _ _ _ _ _ _ us hl => match us, hl with | [_, _], _ => rfl
  have b_gt := F_gt.binds (ps := ["self", "other"]) fun _ _ _ _ _ _ us hl => match us, hl with | [_, _], _ => rfl
  have k13 : ∀ j ∈ K13, j < 13 := by decide
  have dI : ∀ k ∈ K13, KDct K w aD (kn k) (.ref ([T0, T1, T2, T3, T4, T5, T6, T7, T8, T9, T10, T11, T12].getD k T0)) := by
    intro k hk
    match k, hk with
    | 0, _ => exact ⟨esD, nD, _, lD, hlits, d0, rfl⟩
    | 1, _ => exact ⟨esD, nD, _, lD, hlits, d1, rfl⟩
    | 2, _ => exact ⟨esD, nD, _, lD, hlits, d2, rfl⟩
    | 3, _ => exact ⟨esD, nD, _, lD, hlits, d3, rfl⟩
    | 4, _ => exact ⟨esD, nD, _, lD, hlits, d4, rfl⟩
    | 5, _ => exact ⟨esD, nD, _, lD, hlits, d5, rfl⟩
    | 6, _ => exact ⟨esD, nD, _, lD, hlits, d6, rfl⟩
    | 7, _ => exact ⟨esD, nD, _, lD, hlits, d7, rfl⟩
    | 8, _ => exact ⟨esD, nD, _, lD, hlits, d8, rfl⟩
    | 9, _ => exact ⟨esD, nD, _, lD, hlits, d9, rfl⟩
    | 10, _ => exact ⟨esD, nD, _, lD, hlits, d10, rfl⟩
    | 11, _ => exact ⟨esD, nD, _, lD, hlits, d11, rfl⟩
    | 12, _ => exact ⟨esD, nD, _, lD, hlits, d12, rfl⟩
    | k + 13, hk => exact absurd (k13 _ hk) (by omega)
  have sT : ∀ k ∈ K13, ∀ H, SqT K H ([T0, T1, T2, T3, T4, T5, T6, T7, T8, T9, T10, T11, T12].getD k T0) ((rS (KR k)).map V.str) := by
    intro k hk H
    match k, hk with
    | 0, _ => exact .inr ⟨_, _, _, l_T0, rfl, rfl, (show 0 ≤ sizeLine by decide), (by repeat' (first | exact .nil | refine .cons ⟨_, rfl⟩ ?_))⟩
    | 1, _ => exact .inr ⟨_, _, _, l_T1, rfl, rfl, (show 1 ≤ sizeLine by decide), (by repeat' (first | exact .nil | refine .cons ⟨_, rfl⟩ ?_))⟩
    | 2, _ => exact .inr ⟨_, _, _, l_T2, rfl, rfl, (show 1 ≤ sizeLine by decide), (by repeat' (first | exact .nil | refine .cons ⟨_, rfl⟩ ?_))⟩
    | 3, _ => exact .inr ⟨_, _, _, l_T3, rfl, rfl, (show 2 ≤ sizeLine by decide), (by repeat' (first | exact .nil | refine .cons ⟨_, rfl⟩ ?_))⟩
    | 4, _ => exact .inr ⟨_, _, _, l_T4, rfl, rfl, (show 3 ≤ sizeLine by decide), (by repeat' (first | exact .nil | refine .cons ⟨_, rfl⟩ ?_))⟩
    | 5, _ => exact .inr ⟨_, _, _, l_T5, rfl, rfl, (show 2 ≤ sizeLine by decide), (by repeat' (first | exact .nil | refine .cons ⟨_, rfl⟩ ?_))⟩
    | 6, _ => exact .inr ⟨_, _, _, l_T6, rfl, rfl, (show 3 ≤ sizeLine by decide), (by repeat' (first | exact .nil | refine .cons ⟨_, rfl⟩ ?_))⟩
    | 7, _ => exact .inr ⟨_, _, _, l_T7, rfl, rfl, (show 3 ≤ sizeLine by decide), (by repeat' (first | exact .nil | refine .cons ⟨_, rfl⟩ ?_))⟩
    | 8, _ => exact .inr ⟨_, _, _, l_T8, rfl, rfl, (show 5 ≤ sizeLine by decide), (by repeat' (first | exact .nil | refine .cons ⟨_, rfl⟩ ?_))⟩
    | 9, _ => exact .inr ⟨_, _, _, l_T9, rfl, rfl, (show 3 ≤ sizeLine by decide), (by repeat' (first | exact .nil | refine .cons ⟨_, rfl⟩ ?_))⟩
    | 10, _ => exact .inr ⟨_, _, _, l_T10, rfl, rfl, (show 5 ≤ sizeLine by decide), (by repeat' (first | exact .nil | refine .cons ⟨_, rfl⟩ ?_))⟩
    | 11, _ => exact .inr ⟨_, _, _, l_T11, rfl, rfl, (show 5 ≤ sizeLine by decide), (by repeat' (first | exact .nil | refine .cons ⟨_, rfl⟩ ?_))⟩
    | 12, _ => exact .inr ⟨_, _, _, l_T12, rfl, rfl, (show 9 ≤ sizeLine by decide), (by repeat' (first | exact .nil | refine .cons ⟨_, rfl⟩ ?_))⟩
    | k + 13, hk => exact absurd (k13 _ hk) (by omega)
  have sR : ∀ H, SqT K H aR ((rS R9).map V.str) := fun H => .inr ⟨_, _, _, l_R, rfl, rfl, (show 9 ≤ sizeLine by decide), (by repeat' (first | exact .nil | refine .cons ⟨_, rfl⟩ ?_))⟩
  have TX : TxR K w mg aR aD C (fun k => [T0, T1, T2, T3, T4, T5, T6, T7, T8, T9, T10, T11, T12].getD k T0) :=
    ⟨PySem.W.mg_of X G aR_, PySem.W.mg_of X G aD_, PySem.W.mg_of X G aC, sR, ⟨⟨esD, nD, lD, hkeys⟩, hlow⟩, ⟨esD, nD, ⟨lD, hlits, hlow⟩⟩,
      dI, sT, ⟨pg, hd, po, sa⟩, nN, nK, PySem.W.mg_none_of X G z_list, PySem.W.mg_none_of X G z_all, PySem.W.mg_none_of X G z_tuple, PySem.W.mg_none_of X G z_isinstance⟩
  have F_in : FunD K "__init__" "Rules.__init__" (defArgs s_Rules___init__) (defBody s_Rules___init__) (defScope s_Rules___init__) [V.ref e_in] [] f_in _ :=
    ⟨⟨oc_in, od_in, .ref T_in, kV_in, dc_in, pm_in, an_in, cd_in, ct_in, sl_in, rfl, l_in, c_in, .inr ⟨by simp, T_in, _, [.ref e_in], nT, rfl, lT, rfl, .cons rfl .nil⟩, .inl rfl⟩, k_in⟩
  obtain ⟨ds, hds, b_in⟩ := FunD.binds1 (ps := ["self", "names"]) F_in 2 1 (by simp) rfl (fun T kV doc pm an cdv ct us its hu hi => match us, hu, its, hi with | [_, _], _, [_], _ => ⟨_, rfl, rfl⟩)
  cases hds
  refine ⟨PySem.W.fnOf "law" "law" (defArgs s_law) (defBody s_law) (defScope s_law) .none kV_la dc_la pm_la an_la cd_la ct_la, fun s v => .of_eq rfl, fun base _ _ => ?_⟩
  have D_ha : Dn l.prog w K mg base 1 "_has_all" ["rules", "names"] (spHas K) := ⟨f_ha, _, PySem.W.mg_of X G a_ha, k_ha, b_ha, ok_has_all F_ha TX⟩
  have D_wk : Dn l.prog w K mg base 2 "_weakest_kind" ["names"] (spWeak K) := ⟨f_wk, _, PySem.W.mg_of X G a_wk, k_wk, b_wk, ok_weakest F_wk TX D_ha⟩
  have D_pe : Dn l.prog w K mg base 1 "_law_pen" ["script"] (spPen K) := ⟨f_pe, _, PySem.W.mg_of X G a_pe, k_pe, b_pe, ok_pen F_pe (PySem.W.mg_none_of X G z_list)⟩
  have D_dr : Dn l.prog w K mg base 1 "_law_draw" ["pen", "span"] spDraw := ⟨f_dr, _, PySem.W.mg_of X G a_dr, k_dr, b_dr, ok_draw F_dr (PySem.W.mg_none_of X G z_int) (PySem.W.mg_none_of X G z_len) (PySem.W.mg_none_of X G z_abs)⟩
  have D_pi : Dn l.prog w K mg base 2 "_law_pick" ["pen", "options"] spPick := ⟨f_pi, _, PySem.W.mg_of X G a_pi, k_pi, b_pi, ok_pick F_pi D_dr (PySem.W.mg_none_of X G z_len)⟩
  have D_sh : Dn l.prog w K mg base 2 "_law_shuffled" ["pen", "items"] spShuf := ⟨f_sh, _, PySem.W.mg_of X G a_sh, k_sh, b_sh, ok_shuffled F_sh D_dr (PySem.W.mg_none_of X G z_len) (PySem.W.mg_none_of X G z_list)⟩
  have D_ni : Dn l.prog w K mg base 1 "_law_nine" [] spNine := ⟨f_ni, _, PySem.W.mg_of X G a_ni, k_ni, b_ni, ok_nine F_ni⟩
  have D_th : Dn l.prog w K mg base 2 "_law_thirteen" [] spThir := ⟨f_th, _, PySem.W.mg_of X G a_th, k_th, b_th, ok_thirteen F_th D_ni⟩
  have D_cl : Dn l.prog w K mg base 3 "_law_closure" ["names"] spClos := ⟨f_cl, _, PySem.W.mg_of X G a_cl, k_cl, b_cl, ok_closure F_cl D_ni D_th⟩
  have D_fw : Dn l.prog w K mg base 2 "_law_few" ["pen", "items", "span"] spFew := ⟨f_fw, _, PySem.W.mg_of X G a_fw, k_fw, b_fw, ok_few F_fw D_dr (PySem.W.mg_none_of X G z_len) (PySem.W.mg_none_of X G z_list) (PySem.W.mg_none_of X G z_int) (PySem.W.mg_none_of X G z_min) (PySem.W.mg_none_of X G z_range)⟩
  have D_ne : Dn l.prog w K mg base 4 "_law_near" ["pen", "some"] spNear := ⟨f_ne, _, PySem.W.mg_of X G a_ne, k_ne, b_ne, ok_near F_ne D_dr D_fw D_pi D_ni D_th D_cl (PySem.W.mg_none_of X G z_list)⟩
  have N : Kn l.prog w K mg base 3 C ["self", "names"] (spInit C) := ⟨f_in, _, ⟨mk, a_in, i_in, kC⟩, b_in, ok_init F_in TX D_wk⟩
  have M_li : Mn l.prog w K mg base 1 C "listed" ["self"] (spListedN C) := ⟨f_li, _, ⟨a_li, i_li, k_li⟩, b_li, ok_listedN F_li TX⟩
  have M_mo : Mn l.prog w K mg base 5 C "__or__" ["self", "other"] (spOp C fOr) := ⟨f_mo, _, ⟨a_mo, i_mo, k_mo⟩, b_mo, ok_or F_mo TX N⟩
  have M_ma : Mn l.prog w K mg base 5 C "__and__" ["self", "other"] (spOp C fAnd) := ⟨f_ma, _, ⟨a_ma, i_ma, k_ma⟩, b_ma, ok_and F_ma TX N⟩
  have M_ms : Mn l.prog w K mg base 5 C "__sub__" ["self", "other"] (spOp C fSub) := ⟨f_ms, _, ⟨a_ms, i_ms, k_ms⟩, b_ms, ok_sub F_ms TX N⟩
  have M_mx : Mn l.prog w K mg base 5 C "__xor__" ["self", "other"] (spOp C fXor) := ⟨f_mx, _, ⟨a_mx, i_mx, k_mx⟩, b_mx, ok_xor F_mx TX N⟩
  have M_eq : Mn l.prog w K mg base 1 C "__eq__" ["self", "other"] (spEq C) := ⟨f_eq, _, ⟨a_eq, i_eq, k_eq⟩, b_eq, ok_eq F_eq TX ⟨TX.cl, iA, iN, iT, iM, iE⟩⟩
  have M_le : Mn l.prog w K mg base 2 C "__le__" ["self", "other"] (spCmp C le2) := ⟨f_le, _, ⟨a_le, i_le, k_le⟩, b_le, ok_le F_le TX ⟨TX.cl, iA, iN, iT, iM, iE⟩ D_ha⟩
  have M_lt : Mn l.prog w K mg base 3 C "__lt__" ["self", "other"] (spCmp C fun s s' => le2 s s' && !le2 s' s) := ⟨f_lt, _, ⟨a_lt, i_lt, k_lt⟩, b_lt, ok_lt F_lt TX ⟨TX.cl, iA, iN, iT, iM, iE⟩ nf M_le⟩
  have M_ge : Mn l.prog w K mg base 3 C "__ge__" ["self", "other"] (spCmp C fun s s' => le2 s' s) := ⟨f_ge, _, ⟨a_ge, i_ge, k_ge⟩, b_ge, ok_ge F_ge TX ⟨TX.cl, iA, iN, iT, iM, iE⟩ nf M_le⟩
  have M_gt : Mn l.prog w K mg base 4 C "__gt__" ["self", "other"] (spCmp C fun s s' => le2 s' s && !le2 s s') := ⟨f_gt, _, ⟨a_gt, i_gt, k_gt⟩, b_gt, ok_gt F_gt TX ⟨TX.cl, iA, iN, iT, iM, iE⟩ nf M_lt⟩
  have IC : C8.InsC K C := ⟨TX.cl, iA, iN, iT, iM, iE⟩
  have D_od : Dn l.prog w K mg base 5 "_law_order_right" ["one", "two", "some", "more"] (spOrd C) := ⟨f_od, _, PySem.W.mg_of X G a_od, k_od, b_od, ok_order F_od nf D_cl M_le M_lt M_ge M_gt⟩
  exact ok_law F_la TX IC nf sf hne iM (PySem.W.mg_none_of X G z_range) D_pe D_dr D_sh D_ni D_ne D_od N M_li M_mo M_ma M_ms M_mx M_eq
end Fp
open PySem PySem.W PyProof.Rows
set_option maxHeartbeats 0 in
theorem PySem.Challenge.cw_foldplans_k03_rule_operators_holds : PySem.Challenge.rw_foldplans_k03_rule_operators.Holds := by
  w_on; o_law; k_head; (case hw => w_witness2)
  k_fill
  refine L2.walk_of (l := PySem.Challenge.rw_foldplans_k03_rule_operators) (n := 63) (k := 6) (x := "script") (CX := fun _ => L2.CX0) (sp := fun w => Fp.spLaw _) rfl (by decide) rfl ⟨rfl, by decide, by decide⟩ (fun w h Y => PySem.W.kIn_of Y) ?F (fun _ _ a ns hl _ hS => ⟨a, ns, rfl, hS, hl, fun _ => rfl⟩) (fun _ _ _ _ _ h => h)
  case F =>
    intro w mg fa h KX G hmg
    refine' Fp.all_mk KX G hmg ?a_ha ?l_ha ?c_ha ?k_ha ?a_wk ?l_wk ?c_wk ?k_wk ?a_pe ?l_pe ?c_pe ?k_pe ?a_dr ?l_dr ?c_dr ?k_dr ?a_pi ?l_pi ?c_pi ?k_pi ?a_sh ?l_sh ?c_sh ?k_sh ?a_ni ?l_ni ?c_ni ?k_ni ?a_th ?l_th ?c_th ?k_th ?a_cl ?l_cl ?c_cl ?k_cl ?a_fw ?l_fw ?c_fw ?k_fw ?a_ne ?l_ne ?c_ne ?k_ne ?a_od ?l_od ?c_od ?k_od ?a_la ?l_la ?c_la ?k_la ?a_li ?i_li ?l_li ?c_li ?k_li ?a_mo ?i_mo ?l_mo ?c_mo ?k_mo ?a_ma ?i_ma ?l_ma ?c_ma ?k_ma ?a_ms ?i_ms ?l_ms ?c_ms ?k_ms ?a_mx ?i_mx ?l_mx ?c_mx ?k_mx ?a_eq ?i_eq ?l_eq ?c_eq ?k_eq ?a_le ?i_le ?l_le ?c_le ?k_le ?a_lt ?i_lt ?l_lt ?c_lt ?k_lt ?a_ge ?i_ge ?l_ge ?c_ge ?k_ge ?a_gt ?i_gt ?l_gt ?c_gt ?k_gt ?a_in ?i_in ?l_in ?c_in ?k_in ?lT ?aC ?mk ?kC ?pg ?hd ?po ?sa ?nN ?nK ?iA ?iN ?iT ?iM ?iE ?nf ?sf ?hne ?aR_ ?l_R ?aD_ ?lD ?d0 ?l_T0 ?d1 ?l_T1 ?d2 ?l_T2 ?d3 ?l_T3 ?d4 ?l_T4 ?d5 ?l_T5 ?d6 ?l_T6 ?d7 ?l_T7 ?d8 ?l_T8 ?d9 ?l_T9 ?d10 ?l_T10 ?d11 ?l_T11 ?d12 ?l_T12 ?z_list ?z_all ?z_tuple ?z_isinstance ?z_range ?z_int ?z_len ?z_abs ?z_min ?hkeys ?hlits ?hlow
    (case aC => k_is); (case aR_ => k_is); (case aD_ => k_is); (case a_ha => k_is); (case l_ha => k_is); (case c_ha => k_is); (case k_ha => k_is); (case a_wk => k_is)
    (case l_wk => k_is); (case c_wk => k_is); (case k_wk => k_is); (case a_pe => k_is); (case l_pe => k_is); (case c_pe => k_is); (case k_pe => k_is); (case a_dr => k_is)
    (case l_dr => k_is); (case c_dr => k_is); (case k_dr => k_is); (case a_pi => k_is); (case l_pi => k_is); (case c_pi => k_is); (case k_pi => k_is); (case a_sh => k_is)
    (case l_sh => k_is); (case c_sh => k_is); (case k_sh => k_is); (case a_ni => k_is); (case l_ni => k_is); (case c_ni => k_is); (case k_ni => k_is); (case a_th => k_is)
    (case l_th => k_is); (case c_th => k_is); (case k_th => k_is); (case a_cl => k_is); (case l_cl => k_is); (case c_cl => k_is); (case k_cl => k_is); (case a_fw => k_is)
    (case l_fw => k_is); (case c_fw => k_is); (case k_fw => k_is); (case a_ne => k_is); (case l_ne => k_is); (case c_ne => k_is); (case k_ne => k_is); (case a_od => k_is)
    (case l_od => k_is); (case c_od => k_is); (case k_od => k_is); (case a_la => k_is); (case l_la => k_is); (case c_la => k_is); (case k_la => k_is); (case a_li => k_is)
    (case i_li => k_is); (case l_li => k_is); (case c_li => k_is); (case k_li => k_is); (case a_mo => k_is); (case i_mo => k_is); (case l_mo => k_is); (case c_mo => k_is)
    (case k_mo => k_is); (case a_ma => k_is); (case i_ma => k_is); (case l_ma => k_is); (case c_ma => k_is); (case k_ma => k_is); (case a_ms => k_is); (case i_ms => k_is)
    (case l_ms => k_is); (case c_ms => k_is); (case k_ms => k_is); (case a_mx => k_is); (case i_mx => k_is); (case l_mx => k_is); (case c_mx => k_is); (case k_mx => k_is)
    (case a_eq => k_is); (case i_eq => k_is); (case l_eq => k_is); (case c_eq => k_is); (case k_eq => k_is); (case a_le => k_is); (case i_le => k_is); (case l_le => k_is)
    (case c_le => k_is); (case k_le => k_is); (case a_lt => k_is); (case i_lt => k_is); (case l_lt => k_is); (case c_lt => k_is); (case k_lt => k_is); (case a_ge => k_is)
    (case i_ge => k_is); (case l_ge => k_is); (case c_ge => k_is); (case k_ge => k_is); (case a_gt => k_is); (case i_gt => k_is); (case l_gt => k_is); (case c_gt => k_is)
    (case k_gt => k_is); (case a_in => k_is); (case i_in => k_is); (case l_in => k_is); (case c_in => k_is); (case k_in => k_is); (case lT => k_is); (case mk => k_is)
    (case kC => k_is); (case pg => k_is); (case hd => k_is); (case po => k_is); (case sa => k_is); (case nN => k_is); (case nK => k_is); (case iA => k_is)
    (case iN => k_is); (case iT => k_is); (case iM => k_is); (case iE => first | k_is | rfl | decide +kernel); (case nf => k_is); (case sf => k_is); (case hne => k_is); (case l_R => k_is)
    (case lD => k_is); (case d0 => k_is); (case l_T0 => k_is); (case d1 => k_is); (case l_T1 => k_is); (case d2 => k_is); (case l_T2 => k_is); (case d3 => k_is)
    (case l_T3 => k_is); (case d4 => k_is); (case l_T4 => k_is); (case d5 => k_is); (case l_T5 => k_is); (case d6 => k_is); (case l_T6 => k_is); (case d7 => k_is)
    (case l_T7 => k_is); (case d8 => k_is); (case l_T8 => k_is); (case d9 => k_is); (case l_T9 => k_is); (case d10 => k_is); (case l_T10 => k_is); (case d11 => k_is)
    (case l_T11 => k_is); (case d12 => k_is); (case l_T12 => k_is); (case z_list => k_is); (case z_all => k_is); (case z_tuple => k_is); (case z_isinstance => k_is); (case z_range => k_is)
    (case z_int => k_is); (case z_len => k_is); (case z_abs => k_is); (case z_min => k_is)
    (case hlow => decide)
    (case hkeys => rfl)
    (case hlits => repeat' (first | exact trivial | refine ⟨⟨_, _, rfl, rfl⟩, ?_⟩))
