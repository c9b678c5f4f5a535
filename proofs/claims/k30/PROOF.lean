import PyProof.Rows.All
import Wide.All
import OpenK.AllK
import Wide.FinOn
import HandS.ForMost
import HandS.Wide
import HandS.Conv
import HandS.Evl
import KE.KDictWalk
import HandS.SlotsOwn
import HandS.Property
import HandS.Defaults
import HandS.More
import HandS.Codes
import HandS.IsInst
import HandS.Style
import HandS.Lambda
import HandS.CallLocal
import HandS.EndTab
import KE.KNestM
import PySem.Challenge.RW_foldplans_k30_letters_and_values
set_option Elab.async false
set_option linter.all false
set_option maxRecDepth 100000
set_option maxHeartbeats 4000000
/-! what the laws of this program share -/
namespace Fp
open PySem PySem.Spec PyProof.Rows L2

/-! ### defs of the text, by name -/
def Dn (P : Program) (w : World) (K : PySem.W.Frag) (mg : Str → Option Value) (base : Heap) (k : Nat) (x : Str) (ps : List Str) (sp : Sp) : Prop :=
  ∃ f fd, mg x = some (.ref f) ∧ PySem.W.keepIn K (.ref f) = true ∧ Binds K fd ps [] ∧ FnOk P w K mg base CX0 k f fd ps sp
section
variable {X : Cx} {k : Nat} {x : Str} {ps : List Str} {sp : Sp} {p pos : Pos} {e : Expr} {es : List Expr} {t : TA}
theorem pd (D : Dn X.prog X.w X.K X.mg X.base k x ps sp) (hr : Room k X.A) (hg : Gl X x) (ha : PA X (e :: es) t) (hdb : (x == ("__debug__" : Str)) = false := by decide)
    (he : starEach (e :: es) X.env = (false, eval e X.env) :: starEach es X.env := by rfl) (hpl : (backTo pos (starEach es X.env)).any (·.1) = false := by rfl) :
    PE X (.Call (.Name x p) (e :: es) [] pos) (tCall sp [] E0 t) := by
  obtain ⟨f, fd, h1, h2, h3, h4⟩ := D
  exact pe_call h4 hr hg h1 h2 h3 .nil pass0 ha hdb he hpl
theorem pd0 (D : Dn X.prog X.w X.K X.mg X.base k x ps sp) (hr : Room k X.A) (hg : Gl X x) (hdb : (x == ("__debug__" : Str)) = false := by decide) :
    PE X (.Call (.Name x p) [] [] pos) (tCall sp [] E0 tNil) := by
  obtain ⟨f, fd, h1, h2, h3, h4⟩ := D
  exact pe_call0 h4 hr hg h1 h2 h3 .nil pass0 hdb
end

/-! ### heaps -/
/-- all but the object at p stays -/
def But (p : Addr) (H H' : Hp) : Prop := (∀ b o, H b = some o → b ≠ p → H' b = some o) ∧ (H p ≠ none → H' p ≠ none)
theorem But.refl (p : Addr) (H : Hp) : But p H H := ⟨fun _ _ h _ => h, fun h => h⟩
theorem But.trans {p : Addr} {H H1 H2 : Hp} (a : But p H H1) (b : But p H1 H2) : But p H H2 := ⟨fun c o h n => b.1 c o (a.1 c o h n) n, fun h => b.2 (a.2 h)⟩
theorem But.of {p : Addr} {H H' : Hp} (e : Same H H') : But p H H' := ⟨fun b o h _ => e b o h, fun h => by
  cases q : H p with
  | none => exact absurd q h
  | some o => rw [e p o q]; intro z; cases z⟩
theorem But.free {p l : Addr} {H H' : Hp} (e : But p H H') (h : H' l = none) : H l = none := by
  cases q : H l with
  | none => rfl
  | some o =>
    by_cases hl : l = p
    · subst hl
      exact absurd h (e.2 (by rw [q]; intro z; cases z))
    · rw [e.1 l o q hl] at h
      cases h
theorem But.new {p q : Addr} {H H' : Hp} {o : HO} (e : But p H H') (h : H' q = none) : But p H (upd H' q o) := e.trans (But.of fun b u hb => by
  rw [upd_ne (ne_of_none hb h)]
  exact hb)
theorem Same.new {H H' : Hp} {q : Addr} {o : HO} (e : Same H H') (h : H' q = none) : Same H (upd H' q o) := fun b u hb => by
  have h1 := e b u hb
  rw [upd_ne (ne_of_none h1 h)]
  exact h1
theorem same_new {H : Hp} {q : Addr} {o : HO} (h : H q = none) : Same H (upd H q o) := Same.new (Same.refl H) h
/-- an object that H does not know may change -/
theorem Same.mut {H H' : Hp} {p : Addr} {o : HO} (e : Same H H') (h : H p = none) : Same H (upd H' p o) := fun a u ha => by
  rw [upd_ne (ne_of_none ha h)]
  exact e a u ha
theorem But.mut {p q : Addr} {H H' : Hp} {o : HO} (e : But p H H') (h : H q = none) : But p H (upd H' q o) := ⟨fun a u ha hp => by
  rw [upd_ne (ne_of_none ha h)]
  exact e.1 a u ha hp, fun hn => by
  by_cases z : p = q
  · subst z; exact absurd h hn
  · rw [upd_ne z]; exact e.2 hn⟩

/-! ### rules with one way -/
section
variable {X : Cx}
def rIntI : List V → Hp → VK → Prop := fun xs H Q => ∃ i, xs = [.int i] ∧ Q (.int i) H
theorem call_intI : CallR X (.type "int") rIntI := fun pins s σ H xs us Q I r h => call_int1 pins s σ H xs us Q I r (.inl h)
def rIntB : List V → Hp → VK → Prop := fun xs H Q => ∃ k, xs = [.bl k] ∧ Q (.int (if k then 1 else 0)) H
theorem call_intB : CallR X (.type "int") rIntB := fun pins s σ H xs us Q I r h => call_int1 pins s σ H xs us Q I r (.inr h)
def rLenL (K : PySem.W.Frag) : List V → Hp → VK → Prop := fun xs H Q => ∃ p ys, xs = [.ref p] ∧ SqL K H p ys ∧ Q (.int ys.length) H
theorem call_lenL : CallR X (.builtin "len") (rLenL X.K) := fun pins s σ H xs us Q I r h => by
  obtain ⟨p, ys, e, h1, q⟩ := h
  exact call_len_seq pins s σ H xs us Q I r ⟨p, ys, e, .inl h1, q⟩
def rListL (K : PySem.W.Frag) : List V → Hp → VK → Prop := fun xs H Q => ∃ p ys, xs = [.ref p] ∧ SqL K H p ys ∧ ∀ l, H l = none → Q (.ref l) (upd H l (.lst ys))
theorem call_listL : CallR X (.type "list") (rListL X.K) := fun pins s σ H xs us Q I r h => by
  obtain ⟨p, ys, e, h1, q⟩ := h
  exact call_list_of pins s σ H xs us Q I r ⟨p, ys, e, .inl h1, q⟩
def rListT (K : PySem.W.Frag) : List V → Hp → VK → Prop := fun xs H Q => ∃ p ys, xs = [.ref p] ∧ SqT K H p ys ∧ ∀ l, H l = none → Q (.ref l) (upd H l (.lst ys))
theorem call_listT : CallR X (.type "list") (rListT X.K) := fun pins s σ H xs us Q I r h => by
  obtain ⟨p, ys, e, h1, q⟩ := h
  exact call_list_of pins s σ H xs us Q I r ⟨p, ys, e, .inr h1, q⟩
def rAbs : List V → Hp → VK → Prop := fun xs H Q => ∃ i, xs = [.int i] ∧ Q (.int (if i < 0 then -i else i)) H
theorem call_absI : CallR X (.builtin "abs") rAbs := call_abs
end
/-! ### dicts by written keys -/
theorem dg_s {H : Hp} {a : Addr} {kvs : List (Key × V)} {z : Str} {v : V} {R : V → Prop} (h : H a = some (.dK kvs)) (hv : valV kvs (Sum.inr z) = some v) (q : R v) : ∃ x, DGet H a (.str z) (some x) ∧ R x :=
  ⟨v, by rw [← hv]; exact DGet.k (k := Sum.inr z) h, q⟩
theorem dp_s {H : Hp} {a : Addr} {kvs : List (Key × V)} {z : Str} {v : V} {R : Hp → Prop} (h : H a = some (.dK kvs)) (hl : kvs.length < sizeLine) (q : R (upd H a (.dK (putK kvs (Sum.inr z) v)))) : ∃ H', DPut H a (.str z) v H' ∧ R H' :=
  ⟨_, DPut.k (k := Sum.inr z) h hl, q⟩
/-! ### data -/
theorem dp_ints (K : PySem.W.Frag) (H : Hp) : ∀ ns : List Int, DpAll K H (ns.map V.int) (ns.map PyData.int)
  | [] => .nil
  | n :: r => .cons (.int n) (dp_ints K H r)
theorem dp_strs (K : PySem.W.Frag) (H : Hp) : ∀ ns : List Str, DpAll K H (ns.map V.str) (ns.map PyData.str)
  | [] => .nil
  | n :: r => .cons (.str n) (dp_strs K H r)
/-- a list and a new empty list -/
theorem ne_nil {K : PySem.W.Frag} {H : Hp} {p q : Addr} {xs : List V} {ds : List PyData} {Q : VK} (hp : SqL K H p xs) (hd : DpAll K H xs ds) (hs : SeqAt.shaped (.list ds) = true) (hq : H q = some (.lst [])) (k : Q (.bl (!xs.isEmpty)) H) :
    rNeD K (.ref p) (.ref q) H Q := by
  refine ⟨.list ds, .list [], .lst hp hd, .lst (.inl (.inl hq)) .nil, hs, by decide, ?_⟩
  cases hd with
  | nil => exact k
  | cons a b => exact k
theorem eq_nil {K : PySem.W.Frag} {H : Hp} {p q : Addr} {xs : List V} {ds : List PyData} {Q : VK} (hp : SqL K H p xs) (hd : DpAll K H xs ds) (hs : SeqAt.shaped (.list ds) = true) (hq : H q = some (.lst [])) (k : Q (.bl xs.isEmpty) H) :
    rEqD K (.ref p) (.ref q) H Q := by
  refine ⟨.list ds, .list [], .lst hp hd, .lst (.inl (.inl hq)) .nil, hs, by decide, ?_⟩
  cases hd with
  | nil => exact k
  | cons a b => exact k
def Shp (n : Nat) (d : PyData) : Prop := d.canLay0 = true ∧ d.depth ≤ n
theorem shp_all {n : Nat} : ∀ {ds : List PyData}, (∀ d ∈ ds, Shp n d) → PyData.canLayAll0 ds = true ∧ PyData.depthAll ds ≤ n
  | [], _ => ⟨rfl, Nat.zero_le _⟩
  | d :: r, h => by
    obtain ⟨h1, h2⟩ := shp_all (ds := r) fun x hx => h x (List.mem_cons_of_mem _ hx)
    obtain ⟨h3, h4⟩ := h d List.mem_cons_self
    exact ⟨by show (PyData.canLay0 d && PyData.canLayAll0 r) = true; rw [h1, h3]; rfl, Nat.max_le.mpr ⟨h4, h2⟩⟩
theorem shp_lst {n : Nat} {ds : List PyData} (h : ∀ d ∈ ds, Shp n d) : Shp (n + 1) (.list ds) := ⟨(shp_all h).1, Nat.succ_le_succ (shp_all h).2⟩
theorem shp_tup {n : Nat} {ds : List PyData} (h : ∀ d ∈ ds, Shp n d) : Shp (n + 1) (.tuple ds) := ⟨(shp_all h).1, Nat.succ_le_succ (shp_all h).2⟩
theorem shp_int (i : Int) : Shp 0 (.int i) := ⟨rfl, Nat.le_refl _⟩
theorem shp_bool (b : Bool) : Shp 0 (.bool b) := ⟨rfl, Nat.le_refl _⟩
theorem shp_non : Shp 0 .none := ⟨rfl, Nat.le_refl _⟩
theorem Shp.mono {n m : Nat} {d : PyData} (h : Shp n d) (hm : n ≤ m) : Shp m d := ⟨h.1, Nat.le_trans h.2 hm⟩
theorem Shp.ok {n : Nat} {d : PyData} (h : Shp n d) (hn : n ≤ 64) : SeqAt.shaped d = true := by
  show (d.canLay0 && decide (d.depth ≤ 64)) = true
  rw [h.1, decide_eq_true (Nat.le_trans h.2 hn)]
  rfl
theorem shaped_ints (ns : List Int) : SeqAt.shaped (.list (ns.map PyData.int)) = true := (shp_lst (n := 0) fun d hd => by
  obtain ⟨i, _, rfl⟩ := List.mem_map.mp hd
  exact shp_int i).ok (by decide)
theorem ix_mod {ns : List Int} {t : Int} (h0 : ns ≠ []) : ∃ v, atI (ns.map V.int) (t % ((ns.map V.int).length : Nat)) = some (.int v) := by
  have hl : 0 < ns.length := by cases ns with
    | nil => exact absurd rfl h0
    | cons x r => exact Nat.succ_pos _
  have h1 : 0 ≤ t % (ns.length : Int) := Int.emod_nonneg _ (by omega)
  have h2 : t % (ns.length : Int) < ns.length := Int.emod_lt_of_pos _ (by omega)
  rw [List.length_map]
  obtain ⟨j, hj⟩ : ∃ j : Nat, t % (ns.length : Int) = j := ⟨(t % (ns.length : Int)).toNat, by omega⟩
  rw [hj]
  have hjl : j < ns.length := by omega
  exact ⟨ns[j], atI_nat (by rw [List.getElem?_map, List.getElem?_eq_getElem hjl]; rfl)⟩
/-! ### slices -/
theorem cut_to (xs : List V) (k : Nat) : cutV xs none (some (k : Int)) = xs.take k := by
  unfold cutV
  rw [HT.sIx_none, show HT.sIx xs.length xs.length (some (k : Int)) = min k xs.length from HT.sIx_nat _ _ k]
  show List.take (min k xs.length) xs = List.take k xs
  rcases Nat.le_total k xs.length with h | h
  · rw [Nat.min_eq_left h]
  · rw [Nat.min_eq_right h, List.take_of_length_le h, List.take_of_length_le (Nat.le_refl _)]

/-! ### the pen -/
theorem s_ct : ¬ (("cells" : Str) = "turn") := by decide
theorem s_lt : ¬ (("left" : Str) = "turn") := by decide
theorem s_cl : ¬ (("cells" : Str) = "left") := by decide
theorem s_tl : ¬ (("turn" : Str) = "left") := by decide
theorem k_ct : ¬ ((Sum.inr ("cells" : Str) : Key) = Sum.inr ("turn" : Str)) := by decide
theorem k_cl : ¬ ((Sum.inr ("cells" : Str) : Key) = Sum.inr ("left" : Str)) := by decide
theorem k_tl : ¬ ((Sum.inr ("turn" : Str) : Key) = Sum.inr ("left" : Str)) := by decide
def penK (c : Addr) (turn left : Int) : List (Key × V) := [(Sum.inr "cells", .ref c), (Sum.inr "turn", .int turn), (Sum.inr "left", .int left)]
theorem pen_cells (c : Addr) (turn left : Int) : valV (penK c turn left) (Sum.inr "cells") = some (.ref c) := by
  unfold penK
  exact valV_pos rfl
theorem pen_turn (c : Addr) (turn left : Int) : valV (penK c turn left) (Sum.inr "turn") = some (.int turn) := by
  unfold penK
  rw [valV_neg k_ct, valV_pos rfl]
theorem pen_left (c : Addr) (turn left : Int) : valV (penK c turn left) (Sum.inr "left") = some (.int left) := by
  unfold penK
  rw [valV_neg k_cl, valV_neg k_tl, valV_pos rfl]
theorem pen_putT (c : Addr) (turn left x : Int) : putK (penK c turn left) (Sum.inr ("turn" : Str)) (.int x) = penK c x left := by
  unfold putK penK
  simp [s_ct, s_lt]
theorem pen_putL (c : Addr) (turn left x : Int) : putK (penK c turn left) (Sum.inr ("left" : Str)) (.int x) = penK c turn x := by
  unfold putK penK
  simp [s_cl, s_tl]
theorem pen_len (c : Addr) (turn left : Int) : (penK c turn left).length < sizeLine := small1000 (by show 3 ≤ 1000; decide)
/-- the dict at p, the list of cells at c -/
structure PenOk (H : Hp) (p c : Addr) (t : Nat) : Prop where
  ex : ∃ (cells : List Int) (turn left : Int), H p = some (.dK (penK c turn left)) ∧
    H c = some (.lst (cells.map V.int)) ∧ cells.length ≤ 63 ∧ 0 ≤ turn ∧ turn ≤ t
theorem PenOk.mono {H : Hp} {p c : Addr} {t t' : Nat} (h : PenOk H p c t) (ht : t ≤ t') : PenOk H p c t' := by
  obtain ⟨cells, turn, left, h1, h2, h3, h4, h5⟩ := h.ex
  exact ⟨cells, turn, left, h1, h2, h3, h4, by omega⟩
theorem PenOk.dict {H : Hp} {p c : Addr} {t : Nat} (h : PenOk H p c t) : ∃ kvs, H p = some (.dK kvs) := by
  obtain ⟨cells, turn, left, h1, _⟩ := h.ex
  exact ⟨_, h1⟩
theorem PenOk.cells {H : Hp} {p c : Addr} {t : Nat} (h : PenOk H p c t) : ∃ xs, H c = some (.lst xs) := by
  obtain ⟨cells, turn, left, h1, h2, _⟩ := h.ex
  exact ⟨_, h2⟩
theorem PenOk.same {H H' : Hp} {p c : Addr} {t : Nat} (h : PenOk H p c t) (e : Same H H') : PenOk H' p c t := by
  obtain ⟨cells, turn, left, h1, h2, h3, h4, h5⟩ := h.ex
  exact ⟨cells, turn, left, e _ _ h1, e _ _ h2, h3, h4, h5⟩
theorem PenOk.mut {H : Hp} {p c l : Addr} {o : HO} {t : Nat} (h : PenOk H p c t) (h1 : l ≠ p) (h2 : l ≠ c) : PenOk (upd H l o) p c t := by
  obtain ⟨cells, turn, left, g1, g2, h3, h4, h5⟩ := h.ex
  exact ⟨cells, turn, left, by rw [upd_ne h1.symm]; exact g1, by rw [upd_ne h2.symm]; exact g2, h3, h4, h5⟩

theorem lg_small {n : Nat} (h : n < 1000000) : ((n : Nat) : Int).natAbs.log2 < 9000 := by
  have := PySem.Flt.log2_lt_of (k := 20) (by decide) (show ((n : Nat) : Int).natAbs < 2 ^ 20 by rw [Int.natAbs_natCast]; omega)
  omega
def spPen (K : PySem.W.Frag) : Sp := fun vs H Q _ => ∃ (a : Addr) (ns : List Int), vs = [.ref a] ∧ SqL K H a (ns.map V.int) ∧ ns.length ≤ 63 ∧
  ∀ H' p c, H p = none → Same H H' → PenOk H' p c 0 → Q (.ref p) H'
def spDraw : Sp := fun vs H Q _ => ∃ (p c : Addr) (span : Int) (t : Nat), vs = [.ref p, .int span] ∧ PenOk H p c t ∧ t ≤ 1000000000 ∧ 0 < span ∧ span.natAbs.log2 < 9000 ∧
  ∀ (r : Int) H', 0 ≤ r → r < span → PenOk H' p c (t + 1) → But p H H' → Q (.int r) H'
end Fp

/-! the keys of a dict that the top has written, walked -/
namespace Fp
open PySem PySem.Spec PyProof.Rows L2
def keyTxt (e : DictEntry) : Option Str := match e.key with
  | .str x _ => some x
  | _ => none
/-- the dict at d stands in the written part, its keys are the texts zs -/
structure KKeys (K : PySem.W.Frag) (d : Addr) (zs : List Str) : Prop where
  ex : ∃ (es : Array DictEntry) (n : Nat), K.lookup d = some ⟨.type "dict", none, .dict es n, #[]⟩ ∧ es.toList.map keyTxt = zs.map some
  low : (d == sysModules) = false
theorem KKeys.at {K : PySem.W.Frag} {d : Addr} {zs : List Str} {es : Array DictEntry} {n : Nat} (h : es.toList.map keyTxt = zs.map some) : es.size = zs.length ∧ ∀ (i : Nat) (hi : i < es.size), ∃ z t, zs[i]? = some z ∧ es[i].key = .str z t := by
  have hl : es.size = zs.length := by
    have := congrArg List.length h
    rw [List.length_map, List.length_map] at this
    simpa using this
  refine ⟨hl, fun i hi => ?_⟩
  have hz : i < zs.length := hl ▸ hi
  have e := congrArg (fun l => l[i]?) h
  simp only [List.getElem?_map] at e
  rw [show es.toList[i]? = some es[i] by simp [hi], List.getElem?_eq_getElem hz] at e
  have e2 : keyTxt es[i] = some zs[i] := Option.some.inj e
  refine ⟨zs[i], ?_⟩
  unfold keyTxt at e2
  split at e2
  · rename_i x t hk
    exact ⟨t, List.getElem?_eq_getElem hz, by rw [hk, Option.some.inj e2]⟩
  · cases e2
/-- the keys in their order -/
def ItKK (zs : List Str) : It := ⟨fun i _ => i < zs.length, fun i H x H' => H' = H ∧ ∃ z, zs[i]? = some z ∧ x = .str z, fun i _ => zs.length ≤ i⟩
section
variable {P : Program} {w : World} {K : PySem.W.Frag} {tg : Expr}
theorem turn_kk {d it : Addr} {zs : List Str} {es : Array DictEntry} {n : Nat} (hl : K.lookup d = some ⟨.type "dict", none, .dict es n, #[]⟩) (hk : es.toList.map keyTxt = zs.map some) :
    Turn P w K tg (ItKK zs) [it] it (fun i h => h.IsKeyIter it d i es.size n) where
  mem := by simp
  obj := fun i h st b hb => by
    have e : b = it := by simpa using hb
    subst e
    obtain ⟨oi, e, c, dd⟩ := st
    exact ⟨oi, e, fun v z => by rw [dd] at z; cases z⟩
  keep := fun i h h' st k => st.at fun oi e => k it (by simp) oi e
  item := by
    intro X hP hw hK hc i pins s σ H E I hf st hg
    subst hP hw hK
    obtain ⟨f0, f1, f2, f3, f4, f5⟩ := hf it (by simp)
    obtain ⟨hs, hz⟩ := KKeys.at (K := X.K) (d := d) (n := n) hk
    have hi : i < es.size := by
      have : i < zs.length := hg
      omega
    obtain ⟨z, t, e1, e2⟩ := hz i hi
    have raw : s.heap.DictRaw d es n := ⟨_, I.kIn d _ hl, ⟨rfl, rfl, rfl⟩, rfl⟩
    refine wpAny_pyNext_keys_item_raw st raw hi fun h' st' sb => ?_
    have I1 : Inv X pins σ H { s with heap := h' } := I.turned (t' := s.toks) (fun b ob hb e => (sb.2 b hb).trans e) f0 f1 f3 f4 f5
    obtain ⟨oi, e, c, dd⟩ := id st'
    exact ⟨_, rfl, go_of (s := { s with heap := h' }) e c dd (by decide) ⟨.str z, H, I1, ⟨t, e2⟩, ⟨rfl, z, e1, rfl⟩, st', fun b hb => (hf b hb).1⟩⟩
  done := by
    intro X hP hw hK hc i pins s σ H E I hf st hg
    subst hP hw hK
    obtain ⟨f0, f1, f2, f3, f4, f5⟩ := hf it (by simp)
    obtain ⟨hs, hz⟩ := KKeys.at (K := X.K) (d := d) (n := n) hk
    have raw : s.heap.DictRaw d es n := ⟨_, I.kIn d _ hl, ⟨rfl, rfl, rfl⟩, rfl⟩
    have hi : es.size ≤ i := by
      have : zs.length ≤ i := hg
      omega
    exact wpAny_pyNext_keys_end_raw (I.ok.hd hc) st raw hi fun h' eb => ⟨rfl, I.turned (t' := s.toks) (fun b o hb e => eb b o hb e) f0 f1 f3 f4 f5⟩
  self := fun _ _ _ _ _ st h => wpAny_pyIter_keyiter st h
def iKK (K : PySem.W.Frag) (td : TE) : TI := fun σ H R => td σ H fun x H1 => ∃ d zs, x = .ref d ∧ KKeys K d zs ∧ R (ItKK zs) H1
theorem pi_kk {X : Cx} {e : Expr} {td : TE} (he : PE X e td) : PI X tg e (iKK X.K td) := by
  refine ⟨fun pins s σ H R I h => ?_⟩
  refine thn (he.run pins s σ H _ I h) fun u s1 ⟨x, H1, I1, rx, d, zs, ex, ⟨⟨es, n, hl, hk⟩, low⟩, q⟩ => ?_
  subst ex
  obtain rfl : u = Value.ref d := rx
  have raw : s1.heap.DictRaw d es n := ⟨_, I1.kIn d _ hl, ⟨rfl, rfl, rfl⟩, rfl⟩
  exact wpAny_pyIter_dict_raw low raw (pi_one (tk := s1.toks) I1 _ (turn_kk hl hk) ⟨_, Heap.get?_push_size _ rfl, rfl, rfl⟩ q)
end
end Fp

/-! operators and methods that a class of the text defines -/
namespace Fp
open PySem PySem.Spec PyProof.Rows L2
/-- the def m of the class at C -/
def Mn (P : Program) (w : World) (K : PySem.W.Frag) (mg : Str → Option Value) (base : Heap) (k : Nat) (C : Addr) (m : Str) (ps : List Str) (sp : Sp) : Prop :=
  ∃ g fd, Meth K C m g ∧ Binds K fd ps [] ∧ FnOk P w K mg base CX0 k g fd ps sp
section
variable {X : Cx} {k : Nat} {C : Addr} {m : Str} {ps : List Str} {sp : Sp}
theorem pm {pl : Sem Bool} {o e : Expr} {es : List Expr} {pos apos : Pos} {ta : TE} {t : TA} (c : Cls X.K C) (M : Mn X.prog X.w X.K X.mg X.base k C m ps sp) (hr : Room k X.A) (he : PE X o ta) (ha : PA X (e :: es) t)
    (hst : starEach (e :: es) X.env = (false, eval e X.env) :: starEach es X.env := by rfl) (hpl : (backTo pos (starEach es X.env)).any (·.1) = false := by rfl)
    (ht : eval (.Call (.Attribute o m apos) (e :: es) [] pos) X.env = (do
      let ov ← eval o X.env
      standAt apos.atName
      let (f, first) ← holding [ov] (getMethod ov m pl)
      callWith pos f first (backTo pos (starEach (e :: es) X.env)) (backToKw pos (keywordEach [] X.env))) := by rfl) :
    PE X (.Call (.Attribute o m apos) (e :: es) [] pos) (tMeth C m sp [] E0 ta t) := by
  obtain ⟨g, fd, h1, h2, h3⟩ := M
  exact pe_meth he c h1 h3 hr h2 .nil pass0 ha hst hpl ht
theorem pm0 {pl : Sem Bool} {o : Expr} {pos apos : Pos} {ta : TE} (c : Cls X.K C) (M : Mn X.prog X.w X.K X.mg X.base k C m ps sp) (hr : Room k X.A) (he : PE X o ta)
    (ht : eval (.Call (.Attribute o m apos) [] [] pos) X.env = (do
      let ov ← eval o X.env
      standAt apos.atName
      let (f, first) ← holding [ov] (getMethod ov m pl)
      callWith pos f first (backTo pos (starEach [] X.env)) (backToKw pos (keywordEach [] X.env))) := by rfl) :
    PE X (.Call (.Attribute o m apos) [] [] pos) (tMeth C m sp [] E0 ta tNil) := by
  obtain ⟨g, fd, h1, h2, h3⟩ := M
  exact pe_meth0 he c h1 h3 hr h2 .nil pass0 ht
/-- the class x of the text, made by its __init__ -/
def Kn (P : Program) (w : World) (K : PySem.W.Frag) (mg : Str → Option Value) (base : Heap) (k : Nat) (C : Addr) (ps : List Str) (sp : Sp) : Prop :=
  ∃ g fd, Mk K C g ∧ Binds K fd ps [] ∧ FnOk P w K mg base CX0 k g fd ps sp
theorem pk {x : Str} {e : Expr} {es : List Expr} {p pos : Pos} {t : TA} (M : Kn X.prog X.w X.K X.mg X.base k C ps sp) (hr : Room (k + 1) X.A) (hg : Gl X x) (hm : X.mg x = some (.ref C)) (ha : PA X (e :: es) t)
    (hdb : (x == ("__debug__" : Str)) = false := by decide) (he : starEach (e :: es) X.env = (false, eval e X.env) :: starEach es X.env := by rfl) (hpl : (backTo pos (starEach es X.env)).any (·.1) = false := by rfl) :
    PE X (.Call (.Name x p) (e :: es) [] pos) (tMake C sp [] E0 t) := by
  obtain ⟨g, fd, h1, h2, h3⟩ := M
  exact pe_make h1 h3 hr hg hm h2 .nil pass0 ha hdb he hpl
/-- a property of the class at C -/
def Pn (P : Program) (w : World) (K : PySem.W.Frag) (mg : Str → Option Value) (base : Heap) (k : Nat) (C : Addr) (f : Str) (sp : Sp) : Prop :=
  ∃ p g fd ps, PropOf K C f p g ∧ Binds K fd ps [] ∧ FnOk P w K mg base CX0 k g fd ps sp
theorem pq {f : Str} {e : Expr} {pos : Pos} {ta : TE} (c : Cls X.K C) (M : Pn X.prog X.w X.K X.mg X.base k C f sp) (hr : Room (k + 1) X.A) (he : PE X e ta) (hab : attributeBase e f X.env (eval e X.env) = eval e X.env := by rfl) :
    PE X (.Attribute e f pos) (tProp C sp [] E0 ta) := by
  obtain ⟨p, g, fd, ps, h1, h2, h3⟩ := M
  exact pe_prop he c h1 h3 hr h2 .nil pass0 hab
theorem inst_of {pins : List (Addr × Obj)} {σ : L2.St} {H : Hp} {s : Shared} {a dx : Addr} {fs : List (Str × V)} (I : Inv X pins σ H s) (e : H a = some (.ins C dx fs)) : ∃ od, PySem.W.InstAt s.heap a (PySem.W.instObj C dx) C (some od) := by
  obtain ⟨mA, O, _⟩ := ins_get I.hok e
  obtain ⟨od, J, _⟩ := O.look
  exact ⟨od, J⟩
/-- v in x, x an instance of the class at C -/
def rOwnIn (C : Addr) (neg : Bool) (sp : Sp) : R2 := fun x y H Q => ∃ a dx fs, y = .ref a ∧ H a = some (.ins C dx fs) ∧ sp [.ref a, x] H (fun v H' => ∃ b, v = .bl b ∧ Q (.bl (if neg then !b else b)) H') E0
theorem op_ownIn (M : Mn X.prog X.w X.K X.mg X.base k C "__contains__" ps sp) (hr : Room k X.A) : OpR X (compareOp .In) (rOwnIn C false sp) := by
  intro pins s σ H x y v u Q I rx ry h
  obtain ⟨a, dx, fs, rfl, ha, q⟩ := h
  obtain rfl : u = Value.ref a := ry
  obtain ⟨g, fd, h1, h2, h3⟩ := M
  obtain ⟨od, J⟩ := inst_of I ha
  obtain ⟨m, hF⟩ := I.fr
  refine PySem.W.in_K hF I.ok.mod.kin J h1.at_ h1.fn ?_
  refine wpAny_mono (run_fn (us := [.ref a, v]) (vs := [.ref a, x]) (dvs := []) h3 hr h2 .nil pass0 I (.cons rfl (.cons rx .nil)) q) (fun w s' z => ?_) fun _ _ x => x
  obtain ⟨z', H', I', rz, b, rfl, qz⟩ := z
  cases rz
  exact wpAny_truthy_bool ⟨.bl b, H', I', rfl, qz⟩
theorem op_ownNotIn (M : Mn X.prog X.w X.K X.mg X.base k C "__contains__" ps sp) (hr : Room k X.A) : OpR X (compareOp .NotIn) (rOwnIn C true sp) := by
  intro pins s σ H x y v u Q I rx ry h
  obtain ⟨a, dx, fs, rfl, ha, q⟩ := h
  obtain rfl : u = Value.ref a := ry
  obtain ⟨g, fd, h1, h2, h3⟩ := M
  obtain ⟨od, J⟩ := inst_of I ha
  obtain ⟨m, hF⟩ := I.fr
  refine PySem.W.notIn_K hF I.ok.mod.kin J h1.at_ h1.fn ?_
  refine wpAny_mono (run_fn (us := [.ref a, v]) (vs := [.ref a, x]) (dvs := []) h3 hr h2 .nil pass0 I (.cons rfl (.cons rx .nil)) q) (fun w s' z => ?_) fun _ _ x => x
  obtain ⟨z', H', I', rz, b, rfl, qz⟩ := z
  cases rz
  exact wpAny_truthy_bool ⟨.bl (!b), H', I', rfl, qz⟩
/-- x op y, both instances of the class at C, a comparison -/
def rOwn2 (C : Addr) (sp : Sp) : R2 := fun x y H Q => ∃ a dx fs b dy gs, x = .ref a ∧ y = .ref b ∧ H a = some (.ins C dx fs) ∧ H b = some (.ins C dy gs) ∧ sp [.ref a, .ref b] H Q E0
theorem op_ownCmp {op : CmpOp} (hop : ∀ a b, compareOp op a b = richCompare op a b) (hn : PySem.W.notFirst X.K C (.ref C) = true) (M : Mn X.prog X.w X.K X.mg X.base k C (cmpInfo op).2.1 ps sp) (hr : Room k X.A) : OpR X (compareOp op) (rOwn2 C sp) := by
  intro pins s σ H x y v u Q I rx ry h
  obtain ⟨a, dx, fs, b, dy, gs, rfl, rfl, ha, hb, q⟩ := h
  obtain rfl : v = Value.ref a := rx
  obtain rfl : u = Value.ref b := ry
  obtain ⟨g, fd, h1, h2, h3⟩ := M
  obtain ⟨od, J⟩ := inst_of I ha
  obtain ⟨od', J'⟩ := inst_of I hb
  obtain ⟨m, hF⟩ := I.fr
  rw [hop]
  refine PySem.W.cmp_K (op := op) (tb := .ref C) hr.units0 hF I.ok.mod.kin J J'.type hn h1.at_ h1.fn ?_
  refine wpAny_mono (run_fn (us := [.ref a, .ref b]) (vs := [.ref a, .ref b]) (dvs := []) h3 hr h2 .nil pass0 I (.cons rfl (.cons rfl .nil)) q) (fun w s' z => ?_) fun _ _ x => x
  obtain ⟨z', H', I', rz, qz⟩ := z
  exact SlX.cmpback rz ⟨z', H', I', rz, qz⟩
theorem op_ownBin {op : Operator} (hc : PySem.W.selfFirst X.K C = true) (M : Mn X.prog X.w X.K X.mg X.base k C (PySem.dunder op.info.2) ps sp) (hr : Room k X.A) : OpR X (binaryOp op) (rOwn2 C sp) := by
  intro pins s σ H x y v u Q I rx ry h
  obtain ⟨a, dx, fs, b, dy, gs, rfl, rfl, ha, hb, q⟩ := h
  obtain rfl : v = Value.ref a := rx
  obtain rfl : u = Value.ref b := ry
  obtain ⟨g, fd, h1, h2, h3⟩ := M
  obtain ⟨od, J⟩ := inst_of I ha
  obtain ⟨od', J'⟩ := inst_of I hb
  obtain ⟨m, hF⟩ := I.fr
  refine PySem.W.binop_K (op := op) hF I.ok.mod.kin J J'.type hc h1.at_ h1.fn ?_
  refine wpAny_mono (run_fn (us := [.ref a, .ref b]) (vs := [.ref a, .ref b]) (dvs := []) h3 hr h2 .nil pass0 I (.cons rfl (.cons rfl .nil)) q) (fun w s' z => ?_) fun _ _ x => x
  obtain ⟨z', H', I', rz, qz⟩ := z
  exact SlX.cmpback rz ⟨z', H', I', rz, qz⟩
end
end Fp

/-! loops and comprehensions over a row of values -/
namespace Fp
open PySem PySem.Spec PyProof.Rows L2
/-- the iterator gives the values xs, one a turn, while S holds of the heap -/
structure JSeq (J : It) (xs : List V) (S : Hp → Prop) : Prop where
  go : ∀ i H, S H → i < xs.length → J.go i H
  yld : ∀ i H x H', S H → i < xs.length → J.yld i H x H' → H' = H ∧ xs[i]? = some x
  stop : ∀ i H, S H → xs.length ≤ i → J.stop i H
  same : ∀ H H', S H → Same H H' → S H'
theorem jseq_list (K : PySem.W.Frag) (a : Addr) (xs : List V) : JSeq (Itl K a) xs (fun H => SqL K H a xs) :=
  ⟨fun i H h hi => ⟨xs, xs[i], h, List.getElem?_eq_getElem hi⟩, fun i H x H' h _ y => ⟨y.1, y.2 xs h⟩, fun i H h hi => ⟨xs, h, hi⟩, fun H H' h e => e.seq h⟩
theorem same_tup {K : PySem.W.Frag} {H H' : Hp} {a : Addr} {xs : List V} (e : Same H H') (h : SqT K H a xs) : SqT K H' a xs := by
  rcases h with (h | ⟨o, h⟩) | h
  · exact .inl (.inl (e _ _ h))
  · exact .inl (.inr ⟨o, e _ _ h⟩)
  · exact .inr h
theorem jseq_tup (K : PySem.W.Frag) (a : Addr) (xs : List V) : JSeq (Itt K a) xs (fun H => SqT K H a xs) :=
  ⟨fun i H h hi => ⟨xs, xs[i], h, List.getElem?_eq_getElem hi⟩, fun i H x H' h _ y => ⟨y.1, y.2 xs h⟩, fun i H h hi => ⟨xs, h, hi⟩, fun H H' h e => same_tup e h⟩
theorem jseq_kk (zs : List Str) : JSeq (ItKK zs) (zs.map V.str) (fun _ => True) :=
  ⟨fun i H h hi => by rw [List.length_map] at hi; exact hi, fun i H x H' h _ y => by
    obtain ⟨e, z, h1, rfl⟩ := y
    exact ⟨e, by rw [List.getElem?_map, h1]; rfl⟩, fun i H h hi => by rw [List.length_map] at hi; exact hi, fun _ _ h _ => h⟩
def rngV (lo : Int) (n : Nat) : List V := (List.range n).map fun (i : Nat) => V.int (lo + i)
theorem rngV_len (lo : Int) (n : Nat) : (rngV lo n).length = n := by
  unfold rngV
  rw [List.length_map, List.length_range]
theorem rngV_at {lo : Int} {n i : Nat} (h : i < n) : (rngV lo n)[i]? = some (.int (lo + i)) := by
  unfold rngV
  rw [List.getElem?_map, List.getElem?_range h]
  rfl
theorem jseq_rng (lo : Int) (n : Nat) : JSeq (Itr lo n) (rngV lo n) (fun _ => True) :=
  ⟨fun i H _ hi => by rw [rngV_len] at hi; exact hi, fun i H x H' _ hi y => by
    obtain ⟨h1, h2⟩ := y
    rw [rngV_len] at hi
    exact ⟨h1, by rw [rngV_at hi, h2]⟩, fun i H _ hi => by rw [rngV_len] at hi; exact hi, fun _ _ h _ => h⟩

/-! ### the walk, once the iterator is there -/
def LcG (J : It) (g : TG) (tt : TT) (te : TE) (vs : List Nat) (σ : L2.St) (H : Hp) (Q : VK) : Prop := tLc (fun _ H R => R J H) g tt te vs σ H Q
def ForG (J : It) (g : TG) (tb : TS) (D : Ends) (σ : L2.St) (H : Hp) : Prop := tFor (fun _ H R => R J H) g tb D σ H
section
variable {K : PySem.W.Frag} {tl : TE} {ta : TA} {g : TG} {tt : TT} {te : TE} {tb : TS} {D : Ends} {vs : List Nat} {σ : L2.St} {H : Hp} {Q : VK}
theorem lc_iL : tLc (iList K tl) g tt te vs σ H Q = tl σ H (fun x H1 => ∃ a, x = .ref a ∧ (∃ xs, SqL K H1 a xs) ∧ LcG (Itl K a) g tt te vs σ H1 Q) := rfl
theorem lc_iT : tLc (iTup K tl) g tt te vs σ H Q = tl σ H (fun x H1 => ∃ a, x = .ref a ∧ (∃ xs, SqT K H1 a xs) ∧ LcG (Itt K a) g tt te vs σ H1 Q) := rfl
theorem lc_iK : tLc (iKK K tl) g tt te vs σ H Q = tl σ H (fun x H1 => ∃ d zs, x = .ref d ∧ KKeys K d zs ∧ LcG (ItKK zs) g tt te vs σ H1 Q) := rfl
theorem lc_iR : tLc (iRng1 ta) g tt te vs σ H Q = ta σ H (fun zs H1 => ∃ j : Int, zs = [.int j] ∧ -(2 ^ 62) ≤ j ∧ j < 2 ^ 62 ∧ LcG (Itr 0 j.toNat) g tt te vs σ H1 Q) := rfl
theorem fr_iL : tFor (iList K tl) g tb D σ H = tl σ H (fun x H1 => ∃ a, x = .ref a ∧ (∃ xs, SqL K H1 a xs) ∧ ForG (Itl K a) g tb D σ H1) := rfl
theorem fr_iT : tFor (iTup K tl) g tb D σ H = tl σ H (fun x H1 => ∃ a, x = .ref a ∧ (∃ xs, SqT K H1 a xs) ∧ ForG (Itt K a) g tb D σ H1) := rfl
theorem fr_iR : tFor (iRng1 ta) g tb D σ H = ta σ H (fun zs H1 => ∃ j : Int, zs = [.int j] ∧ -(2 ^ 62) ≤ j ∧ j < 2 ^ 62 ∧ ForG (Itr 0 j.toNat) g tb D σ H1) := rfl
variable {J : It} {xs : List V} {S : Hp → Prop}
/-- a comprehension by a word P of: the turn, the list so far (it stands at D), the heap -/
theorem lcg_by (hJ : JSeq J xs S) (P : Addr → Nat → List V → Hp → Prop) (h0 : ∀ D, H D = none → P D 0 [] (upd H D (.lst [])))
    (hP : ∀ D i acc H', H D = none → i ≤ xs.length → P D i acc H' → S H')
    (hs : ∀ D i x acc H', H D = none → xs[i]? = some x → P D i acc H' → g x (wipe σ vs) H' fun σ2 H2 => wipe σ2 vs = wipe σ vs ∧ tt σ2 H2 fun b H3 =>
      if b = true then te σ2 H3 fun y H4 => ∃ acc, H4 D = some (.lst acc) ∧ acc.length < sizeLine ∧ (∃ acc', P D (i + 1) acc' (upd H4 D (.lst (acc ++ [y])))) else ∃ acc', P D (i + 1) acc' H3)
    (hd : ∀ D acc H', H D = none → P D xs.length acc H' → Q (.ref D) H') : LcG J g tt te vs σ H Q := by
  intro D hD
  refine ⟨fun i m H' => m = xs.length - i ∧ i ≤ xs.length ∧ ∃ acc, P D i acc H', ⟨xs.length, by simp, Nat.zero_le _, [], h0 D hD⟩, ?_⟩
  rintro i m H' ⟨rfl, hi, acc, p⟩
  have hS := hP D i acc H' hD hi p
  by_cases hlt : i < xs.length
  · refine .inr ⟨hJ.go i H' hS hlt, fun H'' => ∃ acc, P D (i + 1) acc H'', fun H'' ⟨acc', p'⟩ => ⟨xs.length - (i + 1), by omega, rfl, hlt, acc', p'⟩, fun x H'' y => ?_⟩
    obtain ⟨rfl, hx⟩ := hJ.yld i H' x H'' hS hlt y
    exact hs D i x acc _ hD hx p
  · have e : i = xs.length := by omega
    subst e
    exact .inl ⟨hJ.stop _ H' hS (Nat.le_refl _), hd D acc H' hD p⟩
theorem filter_map_take {fb : V → Bool} {fv : V → V} {i : Nat} {x : V} (hx : xs[i]? = some x) :
    ((xs.take (i + 1)).filter fb).map fv = ((xs.take i).filter fb).map fv ++ (if fb x = true then [fv x] else []) := by
  rw [List.take_add_one, hx, List.filter_append, List.map_append]
  cases h : fb x with
  | true => simp [h]
  | false => simp [h]
/-- a comprehension whose tests and items change nothing that stands -/
theorem lcg_pure (hJ : JSeq J xs S) (hS : S H) (hz : xs.length < 100000) (fb : V → Bool) (fv : V → V)
    (hs : ∀ x, x ∈ xs → ∀ H', Same H H' → ∀ (R1 : V → Hp → Prop) (R0 : Hp → Prop), (fb x = true → ∀ H'', Same H' H'' → R1 (fv x) H'') → (fb x = false → ∀ H'', Same H' H'' → R0 H'') →
      g x (wipe σ vs) H' fun σ2 H2 => wipe σ2 vs = wipe σ vs ∧ tt σ2 H2 fun b H3 => if b = true then te σ2 H3 R1 else R0 H3)
    (hd : ∀ D H', H D = none → Same H H' → H' D = some (.lst ((xs.filter fb).map fv)) → Q (.ref D) H') : LcG J g tt te vs σ H Q := by
  refine lcg_by hJ (fun D i acc H' => Same H H' ∧ H' D = some (.lst acc) ∧ acc = ((xs.take i).filter fb).map fv) (fun D hD => ⟨same_new hD, upd_same, rfl⟩)
    (fun D i acc H' _ _ p => hJ.same _ _ hS p.1) (fun D i x acc H' hD hx p => ?_) (fun D acc H' hD p => ?_)
  · obtain ⟨p1, p2, rfl⟩ := p
    have hi : i < xs.length := (List.getElem?_eq_some_iff.mp hx).1
    refine hs x (List.mem_of_getElem? hx) H' p1 _ _ (fun hb H'' e => ?_) (fun hb H'' e => ?_)
    · refine ⟨((xs.take i).filter fb).map fv, e _ _ p2, ?_, _, Same.mut (p1.trans e) hD, upd_same, ?_⟩
      · refine Nat.lt_of_lt_of_le (Nat.lt_of_le_of_lt (?_ : _ ≤ xs.length) hz) (by decide)
        rw [List.length_map]
        exact Nat.le_trans (List.length_filter_le _ _) (by rw [List.length_take]; exact Nat.min_le_right _ _)
      · rw [filter_map_take hx, if_pos hb]
    · refine ⟨_, p1.trans e, e _ _ p2, ?_⟩
      rw [filter_map_take hx, if_neg (by rw [hb]; decide), List.append_nil]
  · obtain ⟨p1, p2, rfl⟩ := p
    rw [List.take_length] at p2
    exact hd D H' hD p1 p2
/-- a for by a word P of: the turn, the slots, the heap -/
theorem forg_by (hJ : JSeq J xs S) (P : Nat → L2.St → Hp → Prop) (h0 : P 0 σ H) (hP : ∀ i σ' H', i ≤ xs.length → P i σ' H' → S H')
    (hs : ∀ i x σ' H', xs[i]? = some x → P i σ' H' → g x σ' H' fun σ2 H2 => tb { D with nx := P (i + 1), ct := P (i + 1), bk := D.nx } σ2 H2) (hd : ∀ σ' H', P xs.length σ' H' → D.nx σ' H') : ForG J g tb D σ H := by
  refine ⟨fun i m σ' H' => m = xs.length - i ∧ i ≤ xs.length ∧ P i σ' H', ⟨xs.length, by simp, Nat.zero_le _, h0⟩, ?_⟩
  rintro i m σ' H' ⟨rfl, hi, p⟩
  have hS := hP i σ' H' hi p
  by_cases hlt : i < xs.length
  · refine .inr ⟨hJ.go i H' hS hlt, P (i + 1), fun σ'' H'' p' => ⟨xs.length - (i + 1), by omega, rfl, hlt, p'⟩, fun x H'' y => ?_⟩
    obtain ⟨rfl, hx⟩ := hJ.yld i H' x H'' hS hlt y
    exact hs i x σ' _ hx p
  · have e : i = xs.length := by omega
    subst e
    exact .inl ⟨hJ.stop _ H' hS (Nat.le_refl _), hd σ' H' p⟩
end
end Fp

/-! data that stands in the heap: lists and tuples of ints, texts, bools, None, nested -/
namespace Fp
open PySem PySem.Spec PyProof.Rows L2
mutual
inductive Dt (H : Hp) : V → PyData → Prop
  | non : Dt H .non .none
  | bl (b : Bool) : Dt H (.bl b) (.bool b)
  | int (i : Int) : Dt H (.int i) (.int i)
  | str (x : Str) : Dt H (.str x) (.str x)
  | lst {a : Addr} {xs : List V} {ds : List PyData} : H a = some (.lst xs) → Dts H xs ds → Dt H (.ref a) (.list ds)
  | tup {a : Addr} {xs : List V} {ds : List PyData} : H a = some (.tup xs) → Dts H xs ds → Dt H (.ref a) (.tuple ds)
inductive Dts (H : Hp) : List V → List PyData → Prop
  | nil : Dts H [] []
  | cons {v : V} {vs : List V} {d : PyData} {ds : List PyData} : Dt H v d → Dts H vs ds → Dts H (v :: vs) (d :: ds)
end
mutual
theorem Dt.same {H H' : Hp} (e : Same H H') : ∀ {d : PyData} {v : V}, Dt H v d → Dt H' v d
  | .none, _, .non => .non
  | .bool _, _, .bl b => .bl b
  | .int _, _, .int i => .int i
  | .str _, _, .str x => .str x
  | .list ds, _, .lst h t => .lst (e _ _ h) (Dts.same e t)
  | .tuple ds, _, .tup h t => .tup (e _ _ h) (Dts.same e t)
theorem Dts.same {H H' : Hp} (e : Same H H') : ∀ {ds : List PyData} {vs : List V}, Dts H vs ds → Dts H' vs ds
  | [], _, .nil => .nil
  | _ :: _, _, .cons h t => .cons (Dt.same e h) (Dts.same e t)
end
mutual
/-- a dict that changes is no part of data -/
theorem Dt.but {H H' : Hp} {p : Addr} {kvs : List (Key × V)} (hp : H p = some (.dK kvs)) (e : But p H H') : ∀ {d : PyData} {v : V}, Dt H v d → Dt H' v d
  | .none, _, .non => .non
  | .bool _, _, .bl b => .bl b
  | .int _, _, .int i => .int i
  | .str _, _, .str x => .str x
  | .list ds, _, .lst h t => .lst (e.1 _ _ h (ne_of h hp (by intro z; cases z))) (Dts.but hp e t)
  | .tuple ds, _, .tup h t => .tup (e.1 _ _ h (ne_of h hp (by intro z; cases z))) (Dts.but hp e t)
theorem Dts.but {H H' : Hp} {p : Addr} {kvs : List (Key × V)} (hp : H p = some (.dK kvs)) (e : But p H H') : ∀ {ds : List PyData} {vs : List V}, Dts H vs ds → Dts H' vs ds
  | [], _, .nil => .nil
  | _ :: _, _, .cons h t => .cons (Dt.but hp e h) (Dts.but hp e t)
end
mutual
theorem Dt.dp {K : PySem.W.Frag} {H : Hp} : ∀ {d : PyData} {v : V}, Dt H v d → Dp K H v d
  | .none, _, .non => .non
  | .bool _, _, .bl b => .bl b
  | .int _, _, .int i => .int i
  | .str _, _, .str x => .str x
  | .list ds, _, .lst h t => .lst (.inl (.inl h)) (Dts.dp t)
  | .tuple ds, _, .tup h t => .tup (.inl (.inl h)) (Dts.dp t)
theorem Dts.dp {K : PySem.W.Frag} {H : Hp} : ∀ {ds : List PyData} {vs : List V}, Dts H vs ds → DpAll K H vs ds
  | [], _, .nil => .nil
  | _ :: _, _, .cons h t => .cons (Dt.dp h) (Dts.dp t)
end
theorem Dts.len {H : Hp} : ∀ {ds : List PyData} {vs : List V}, Dts H vs ds → vs.length = ds.length
  | _, _, .nil => rfl
  | _, _, .cons _ t => by rw [List.length_cons, List.length_cons, Dts.len t]
theorem Dts.app {H : Hp} : ∀ {ds es : List PyData} {vs ws : List V}, Dts H vs ds → Dts H ws es → Dts H (vs ++ ws) (ds ++ es)
  | _, _, _, _, .nil, s => s
  | _, _, _, _, .cons h t, s => .cons h (Dts.app t s)
theorem Dts.get {H : Hp} : ∀ {ds : List PyData} {vs : List V} {i : Nat} {d : PyData}, Dts H vs ds → ds[i]? = some d → ∃ v, vs[i]? = some v ∧ Dt H v d
  | _, _, i, d, .nil, h => by simp at h
  | _, _, 0, d, .cons h t, e => by cases e; exact ⟨_, rfl, h⟩
  | _, _, i + 1, d, .cons h t, e => Dts.get (i := i) t e
theorem Dts.erase {H : Hp} : ∀ {ds : List PyData} {vs : List V} (i : Nat), Dts H vs ds → Dts H (vs.eraseIdx i) (ds.eraseIdx i)
  | _, _, _, .nil => .nil
  | _, _, 0, .cons _ t => t
  | _, _, i + 1, .cons h t => .cons h (Dts.erase i t)
theorem Dts.strs {H : Hp} : ∀ {zs : List Str} {vs : List V}, Dts H vs (zs.map PyData.str) → vs = zs.map V.str
  | [], _, .nil => rfl
  | z :: r, _, .cons (.str _) t => by rw [Dts.strs t]; rfl
theorem Dts.ints {H : Hp} : ∀ {zs : List Int} {vs : List V}, Dts H vs (zs.map PyData.int) → vs = zs.map V.int
  | [], _, .nil => rfl
  | z :: r, _, .cons (.int _) t => by rw [Dts.ints t]; rfl
theorem dts_strs {H : Hp} : ∀ zs : List Str, Dts H (zs.map V.str) (zs.map PyData.str)
  | [] => .nil
  | z :: r => .cons (.str z) (dts_strs r)
theorem dts_ints {H : Hp} : ∀ zs : List Int, Dts H (zs.map V.int) (zs.map PyData.int)
  | [] => .nil
  | z :: r => .cons (.int z) (dts_ints r)

theorem Dt.pair {H : Hp} {v : V} {d e : PyData} (h : Dt H v (.tuple [d, e])) : ∃ a x y, v = .ref a ∧ H a = some (.tup [x, y]) ∧ Dt H x d ∧ Dt H y e := by
  cases h with
  | tup h1 t1 =>
    cases t1 with
    | cons h2 t2 =>
      cases t2 with
      | cons h3 t3 =>
        cases t3
        exact ⟨_, _, _, rfl, h1, h2, h3⟩
theorem Dt.txt {H : Hp} {v : V} {z : Str} (h : Dt H v (.str z)) : v = .str z := by
  cases h
  rfl
theorem Dt.num {H : Hp} {v : V} {z : Int} (h : Dt H v (.int z)) : v = .int z := by
  cases h
  rfl
theorem Dt.list {H : Hp} {v : V} {ds : List PyData} (h : Dt H v (.list ds)) : ∃ a xs, v = .ref a ∧ H a = some (.lst xs) ∧ Dts H xs ds := by
  cases h with
  | lst h1 t1 => exact ⟨_, _, rfl, h1, t1⟩
theorem Dt.tuple {H : Hp} {v : V} {ds : List PyData} (h : Dt H v (.tuple ds)) : ∃ a xs, v = .ref a ∧ H a = some (.tup xs) ∧ Dts H xs ds := by
  cases h with
  | tup h1 t1 => exact ⟨_, _, rfl, h1, t1⟩

/-! ### what evaluates to data, leaving all that stands -/
def EvD (te : TE) (σ : L2.St) (H : Hp) (d : PyData) : Prop := ∀ H1, Same H H1 → ∀ Q : VK, (∀ v H2, Same H1 H2 → Dt H2 v d → Q v H2) → te σ H1 Q
def EvDs (ta : TA) (σ : L2.St) (H : Hp) (ds : List PyData) : Prop := ∀ H1, Same H H1 → ∀ Q : List V → Hp → Prop, (∀ vs H2, Same H1 H2 → Dts H2 vs ds → Q vs H2) → ta σ H1 Q
section
variable {K : PySem.W.Frag} {σ : L2.St} {H H' : Hp} {ta tb te : TE} {tr : TA} {d e : PyData} {ds es : List PyData}
theorem d_str {z : Str} : EvD (tC (.str z)) σ H (.str z) := fun H1 _ Q q => q _ H1 (Same.refl _) (.str z)
theorem d_int {z : Int} : EvD (tC (.int z)) σ H (.int z) := fun H1 _ Q q => q _ H1 (Same.refl _) (.int z)
theorem d_non : EvD (tC .non) σ H .none := fun H1 _ Q q => q _ H1 (Same.refl _) .non
theorem d_var {i : Nat} {v : V} (h : σ[i]? = some (some v)) (hd : Dt H v d) : EvD (tVar i) σ H d := fun H1 e Q q => ⟨v, h, q _ H1 (Same.refl _) (hd.same e)⟩
theorem d_nil : EvDs tNil σ H [] := fun H1 _ Q q => q _ H1 (Same.refl _) .nil
theorem d_cons (h : EvD ta σ H d) (t : EvDs tr σ H ds) : EvDs (tCons ta tr) σ H (d :: ds) := fun H1 e1 Q q =>
  h H1 e1 _ fun v H2 e2 hv => t H2 (e1.trans e2) _ fun vs H3 e3 hvs => q _ H3 (e2.trans e3) (.cons (hv.same e3) hvs)
theorem d_tup (t : EvDs tr σ H ds) (hl : ds.length ≤ 1000) : EvD (tTup tr) σ H (.tuple ds) := fun H1 e1 Q q =>
  t H1 e1 _ fun vs H2 e2 hvs => ⟨Nat.le_of_lt (small1000 (by rw [hvs.len]; exact hl)), fun p hp => q _ _ (Same.new e2 hp) (.tup upd_same (hvs.same (same_new hp)))⟩
theorem d_lst (t : EvDs tr σ H ds) (hl : ds.length ≤ 1000) : EvD (tLst tr) σ H (.list ds) := fun H1 e1 Q q =>
  t H1 e1 _ fun vs H2 e2 hvs => ⟨Nat.le_of_lt (small1000 (by rw [hvs.len]; exact hl)), fun p hp => q _ _ (Same.new e2 hp) (.lst upd_same (hvs.same (same_new hp)))⟩
theorem d_cat (ha : EvD ta σ H (.list ds)) (hb : EvD tb σ H (.list es)) (hl : ds.length + es.length ≤ 1000) : EvD (tOp rCat ta tb) σ H (.list (ds ++ es)) := fun H1 e1 Q q =>
  ha H1 e1 _ fun v H2 e2 hv => hb H2 (e1.trans e2) _ fun w H3 e3 hw => by
    cases hv with
    | lst h1 t1 =>
      cases hw with
      | lst h2 t2 =>
        exact ⟨_, _, _, _, rfl, rfl, e3 _ _ h1, h2, Nat.le_of_lt (small1000 (by rw [t1.len, t2.len]; exact hl)), fun p hp => q _ _ (Same.new (e2.trans e3) hp) (.lst upd_same (((t1.same e3).app t2).same (same_new hp)))⟩
theorem EvD.mono (h : EvD te σ H d) (e : Same H H') : EvD te σ H' d := fun H1 e1 Q q => h H1 (e.trans e1) Q q
theorem EvD.go {Q : VK} (h : EvD te σ H d) (q : ∀ v H2, Same H H2 → Dt H2 v d → Q v H2) : te σ H Q := h H (Same.refl _) Q q
/-- a call of a def that gives data -/
theorem d_call {sp : Sp} (h : EvDs tr σ H ds) (hs : ∀ vs H1, Same H H1 → Dts H1 vs ds → ∀ Q : VK, (∀ v H2, Same H1 H2 → Dt H2 v d → Q v H2) → sp vs H1 Q E0) : EvD (tCall sp [] E0 tr) σ H d := fun H1 e1 Q q =>
  h H1 e1 _ fun vs H2 e2 hvs => by
    rw [List.append_nil]
    exact hs vs H2 (e1.trans e2) hvs Q fun v H3 e3 hv => q v H3 (e2.trans e3) hv
end
section
variable {σ : L2.St} {H : Hp} {D : Ends} {te : TE} {d : PyData} {u : TS} {i : Nat}
theorem s_asgD (h : EvD te σ H d) (k : ∀ v H1, Same H H1 → Dt H1 v d → D.nx (σ.set i (some v)) H1) : tAsg te (gName i) D σ H := h.go fun v H1 e hv => k v H1 e hv
theorem q_asgD (h : EvD te σ H d) (k : ∀ v H1, Same H H1 → Dt H1 v d → u D (σ.set i (some v)) H1) : tSeq (tAsg te (gName i)) u D σ H := h.go fun v H1 e hv => k v H1 e hv
theorem s_retD (h : EvD te σ H d) (k : ∀ v H1, Same H H1 → Dt H1 v d → D.rt v H1) : tRet te D σ H := h.go fun v H1 e hv => k v H1 e hv
end
theorem eq_nilD {K : PySem.W.Frag} {H : Hp} {v : V} {q : Addr} {ds : List PyData} {Q : VK} (h : Dt H v (.list ds)) (hs : SeqAt.shaped (.list ds) = true) (hq : H q = some (.lst [])) (k : Q (.bl ds.isEmpty) H) : rEqD K v (.ref q) H Q := by
  obtain ⟨a, xs, rfl, ha, ht⟩ := h.list
  refine eq_nil (.inl (.inl ha)) ht.dp hs hq ?_
  have hl := ht.len
  cases ds with
  | nil => rw [List.length_eq_zero_iff.mp hl]; exact k
  | cons d r =>
    cases xs with
    | nil => cases hl
    | cons x y => exact k
theorem ne_nilD {K : PySem.W.Frag} {H : Hp} {v : V} {q : Addr} {ds : List PyData} {Q : VK} (h : Dt H v (.list ds)) (hs : SeqAt.shaped (.list ds) = true) (hq : H q = some (.lst [])) (k : Q (.bl (!ds.isEmpty)) H) : rNeD K v (.ref q) H Q := by
  obtain ⟨a, xs, rfl, ha, ht⟩ := h.list
  refine ne_nil (.inl (.inl ha)) ht.dp hs hq ?_
  have hl := ht.len
  cases ds with
  | nil => rw [List.length_eq_zero_iff.mp hl]; exact k
  | cons d r =>
    cases xs with
    | nil => cases hl
    | cons x y => exact k
/-! ### texts in lists -/
theorem flat_strs (zs : List Str) : (zs.map V.str).all flatV = true := by
  rw [List.all_map]
  exact List.all_eq_true.mpr fun z _ => rfl
theorem inV_strs (z : Str) (zs : List Str) : inV (.str z) (zs.map V.str) = decide (z ∈ zs) := by
  unfold inV
  rw [List.any_map]
  induction zs with
  | nil => rfl
  | cons y r ih =>
    rw [List.any_cons, ih]
    by_cases h : z = y
    · subst h
      simp [eqV]
    · simp [eqV, h]
      intro e
      exact absurd e.symm h
/-! ### comprehensions over data, whose items stood before -/
section
variable {K : PySem.W.Frag} {g : TG} {tt : TT} {te : TE} {vs : List Nat} {σ : L2.St} {H : Hp} {Q : VK} {J : It} {xs : List V} {S : Hp → Prop} {α : Type}
theorem lcg_old (hJ : JSeq J xs S) (hS : S H) (as : List α) (dat : α → PyData) (hxs : Dts H xs (as.map dat)) (hz : as.length < 100000) (fb : α → Bool) (fv : α → PyData)
    (hs : ∀ x a, a ∈ as → Dt H x (dat a) → ∀ H', Same H H' → ∀ (R1 : V → Hp → Prop) (R0 : Hp → Prop), (fb a = true → ∀ v H'', Same H' H'' → Dt H v (fv a) → R1 v H'') → (fb a = false → ∀ H'', Same H' H'' → R0 H'') →
      g x (wipe σ vs) H' fun σ2 H2 => wipe σ2 vs = wipe σ vs ∧ tt σ2 H2 fun b H3 => if b = true then te σ2 H3 R1 else R0 H3)
    (hd : ∀ D H', H D = none → Same H H' → Dt H' (.ref D) (.list ((as.filter fb).map fv)) → Q (.ref D) H') : LcG J g tt te vs σ H Q := by
  have hlen : xs.length = as.length := by rw [hxs.len, List.length_map]
  refine lcg_by hJ (fun D i acc H' => Same H H' ∧ H' D = some (.lst acc) ∧ Dts H acc (((as.take i).filter fb).map fv)) (fun D hD => ⟨same_new hD, upd_same, .nil⟩)
    (fun D i acc H' _ _ p => hJ.same _ _ hS p.1) (fun D i x acc H' hD hx p => ?_) (fun D acc H' hD p => ?_)
  · obtain ⟨p1, p2, p3⟩ := p
    have hi : i < as.length := hlen ▸ (List.getElem?_eq_some_iff.mp hx).1
    have ha : as[i]? = some as[i] := List.getElem?_eq_getElem hi
    obtain ⟨x', hx', hdx⟩ := hxs.get (i := i) (d := dat as[i]) (by rw [List.getElem?_map, ha]; rfl)
    rw [hx] at hx'
    cases hx'
    have tk : (((as.take (i + 1)).filter fb).map fv) = ((as.take i).filter fb).map fv ++ (if fb as[i] = true then [fv as[i]] else []) := by
      rw [List.take_add_one, ha, List.filter_append, List.map_append]
      cases h : fb as[i] with
      | true => simp [h]
      | false => simp [h]
    refine hs x as[i] (List.getElem_mem hi) hdx H' p1 _ _ (fun hb v H'' e hv => ?_) (fun hb H'' e => ?_)
    · refine ⟨acc, e _ _ p2, ?_, acc ++ [v], Same.mut (p1.trans e) hD, upd_same, ?_⟩
      · refine Nat.lt_of_lt_of_le (Nat.lt_of_le_of_lt (?_ : _ ≤ as.length) hz) (by decide)
        rw [p3.len, List.length_map]
        exact Nat.le_trans (List.length_filter_le _ _) (by rw [List.length_take]; exact Nat.min_le_right _ _)
      · rw [tk, if_pos hb]
        exact p3.app (.cons hv .nil)
    · refine ⟨acc, p1.trans e, e _ _ p2, ?_⟩
      rw [tk, if_neg (by rw [hb]; decide), List.append_nil]
      exact p3
  · obtain ⟨p1, p2, p3⟩ := p
    rw [hlen, List.take_length] at p3
    exact hd D H' hD p1 (.lst p2 (p3.same p1))
end
/-- a promise: from data to data -/
def spD (F : List PyData → Option PyData) : Sp := fun vs H Q _ => ∃ ds d, Dts H vs ds ∧ F ds = some d ∧ ∀ v H', Same H H' → Dt H' v d → Q v H'
theorem d_callF {σ : L2.St} {H : Hp} {tr : TA} {ds : List PyData} {d : PyData} {F : List PyData → Option PyData} (h : EvDs tr σ H ds) (hF : F ds = some d) : EvD (tCall (spD F) [] E0 tr) σ H d :=
  d_call h fun vs H1 e1 hvs Q q => ⟨ds, d, hvs, hF, q⟩
end Fp

/-! the rules with the written part told by name -/
namespace Fp
open PySem PySem.Spec PyProof.Rows L2
section
variable {X : Cx} (K : PySem.W.Frag)
theorem op_inK (hK : X.K = K := by rfl) : OpR X (compareOp .In) (rIn K false) := hK ▸ op_in_seq
theorem op_notInK (hK : X.K = K := by rfl) : OpR X (compareOp .NotIn) (rIn K true) := hK ▸ op_notIn_seq
theorem op_eqDK (hu : X.A.units + 64 < cLine) (hK : X.K = K := by rfl) : OpR X (compareOp .Eq) (rEqD K) := hK ▸ op_eqD hu
theorem op_neDK (hu : X.A.units + 64 < cLine) (hK : X.K = K := by rfl) : OpR X (compareOp .NotEq) (rNeD K) := hK ▸ op_neD hu
theorem call_lenK (hK : X.K = K := by rfl) : CallR X (.builtin "len") (rLenL K) := hK ▸ call_lenL
theorem call_listK (hK : X.K = K := by rfl) : CallR X (.type "list") (rListL K) := hK ▸ call_listL
theorem call_listTK (hK : X.K = K := by rfl) : CallR X (.type "list") (rListT K) := hK ▸ call_listT
def rTupL (K : PySem.W.Frag) : List V → Hp → VK → Prop := fun xs H Q => ∃ p ys, xs = [.ref p] ∧ SqL K H p ys ∧ ∀ l, H l = none → Q (.ref l) (upd H l (.tup ys))
theorem call_tupleK (hK : X.K = K := by rfl) : CallR X (.type "tuple") (rTupL K) := by
  subst hK
  intro pins s σ H xs us Q I r h
  obtain ⟨p, ys, e, h1, q⟩ := h
  exact call_tuple_of pins s σ H xs us Q I r ⟨p, ys, e, .inl ⟨h1, q⟩⟩
theorem call_allK (hc : X.calm = true) (hK : X.K = K := by rfl) : CallR X (.builtin "all") (rAll K) := hK ▸ cr_all hc
theorem ix_listK (hK : X.K = K := by rfl) : IxR X (rIxL K) := hK ▸ ix_list
theorem ix_tupK (hK : X.K = K := by rfl) : IxR X (rIxT K) := hK ▸ ix_tup
theorem ix_kdK (w : World) (hK : X.K = K := by rfl) (hw : X.w = w := by rfl) : IxR X (rIxD K w) := by
  subst hK hw
  exact ix_kdict
theorem sl_listK (hK : X.K = K := by rfl) : SlR X (rSlL K) := hK ▸ sl_list
variable {tg e o : Expr} {td : TE} {t : TA}
theorem pi_listK (he : PE X e td) (hK : X.K = K := by rfl) : PI X tg e (iList K td) := hK ▸ pi_list he
theorem pi_tupK (he : PE X e td) (hK : X.K = K := by rfl) : PI X tg e (iTup K td) := hK ▸ pi_tup he
theorem pi_kkK (he : PE X e td) (hK : X.K = K := by rfl) : PI X tg e (iKK K td) := hK ▸ pi_kk he
theorem pe_fldK {f : Str} {pos : Pos} (ho : PE X o td) (hb : attributeBase o f X.env (eval o X.env) = eval o X.env) (hK : X.K = K := by rfl) : PE X (.Attribute o f pos) (tFld K td f) := hK ▸ pe_fld ho hb
theorem ps_fldK {f : Str} {pos pos' : Pos} {v : Expr} {tv : TE} (ho : PE X o td) (hv : PE X v tv) (hs : swapsWith v (some (.Attribute o f pos')) pos.line X.env = pure false) (hK : X.K = K := by rfl) : PS X (.Assign [.Attribute o f pos'] v pos) (sFld K td tv f) := hK ▸ ps_fld ho hv hs
theorem pg_tupK {es : List Expr} {k n : Nat} {pos : Pos} {u : List V → L2.St → Hp → (L2.St → Hp → Prop) → Prop} (h : PG X (.Tuple es k pos) (gTup X.K n u)) (hK : X.K = K := by rfl) : PG X (.Tuple es k pos) (gTup K n u) := hK ▸ h
section
variable {T : String} {name : Str} {id : String} {to : TE} {r : V → List V → Hp → VK → Prop} {apos cpos : Pos} {es : List Expr}
theorem pe_bmK (hK : X.K = K := by rfl) (h : PE X (.Call (.Attribute o name apos) es [] cpos) (tBM X.K T r to t)) : PE X (.Call (.Attribute o name apos) es [] cpos) (tBM K T r to t) := hK ▸ h
theorem pe_bm0K (hK : X.K = K := by rfl) (h : PE X (.Call (.Attribute o name apos) es [] cpos) (tBM0 X.K T r to)) : PE X (.Call (.Attribute o name apos) es [] cpos) (tBM0 K T r to) := hK ▸ h
end
end
end Fp

/-! x != y where the class has an own __eq__ and no own __ne__ -/
namespace Fp
open PySem PySem.Spec PyProof.Rows L2
section
variable {X : Cx} {k : Nat} {C : Addr} {ps : List Str} {sp : Sp}
def rOwnNe (C : Addr) (sp : Sp) : R2 := fun x y H Q => ∃ a dx fs b dy gs, x = .ref a ∧ y = .ref b ∧ H a = some (.ins C dx fs) ∧ H b = some (.ins C dy gs) ∧ sp [.ref a, .ref b] H (fun v H' => ∃ r, v = .bl r ∧ Q (.bl (!r)) H') E0
theorem op_ownNe (hne : PySem.W.findIn X.K (.ref C) "__ne__" = some (some (.builtin "object.__ne__"))) (hm : PySem.W.mroIn X.K C (.type "object") = some true)
    (M : Mn X.prog X.w X.K X.mg X.base k C "__eq__" ps sp) (hr : Room (k + 1) X.A) : OpR X (compareOp .NotEq) (rOwnNe C sp) := by
  intro pins s σ H x y v u Q I rx ry h
  obtain ⟨a, dx, fs, b, dy, gs, rfl, rfl, ha, hb, q⟩ := h
  obtain rfl : v = Value.ref a := rx
  obtain rfl : u = Value.ref b := ry
  obtain ⟨g, fd, h1, h2, h3⟩ := M
  obtain ⟨od, J⟩ := inst_of I ha
  obtain ⟨od', J'⟩ := inst_of I hb
  have XK := I.kIn
  have SN := PySem.F.cmp_object.ne
  -- the def's own run, one deeper
  have run : codeAny (model X.prog X.w) X.A.in1 (.call (.ref g) ⟨[.ref a, .ref b], []⟩) (CR (fun _ _ _ _ _ _ => False) X.stack X.prog X.w H s (fun v H' => ∃ r, v = .bl r ∧ Q (.bl (!r)) H') E0) s := by
    have r2 : Vals [V.ref a, V.ref b] [Value.ref a, Value.ref b] := .cons rfl (.cons rfl .nil)
    have hl := h3.len _ _ _ _ q
    exact h3.run X.A.in1 X.stack s H ⟨[.ref a, .ref b], []⟩ [.ref a, .ref b] [.ref a, .ref b] _ E0 hr.in1 I.env0.in1 (h2 s [.ref a, .ref b] I.kIn hl) r2 q
  have body : wpAny (model X.prog X.w) X.A (call (.builtin "object.__ne__") [.ref a, .ref b]) (fun r s' => ∃ t, r = Value.bool t ∧ EP X pins σ Q (.bool t) s') X.xe s := by
    have sub : PySem.W.Looks (model X.prog X.w) s.heap (isInstance (.ref a) (.type "object")) true := J.type.andThen (PySem.W.looks_mroIn XK hm)
    refine wpAny_call (codeAny_call_builtin SN.plain PySem.F.cmpEntry_ne (@PySem.W.check_slot (model X.prog X.w) _ _ s "object.__ne__" "object" "__ne__" (.ref a) [.ref b] [] _ PySem.F.cmpKind_ne PySem.F.cmpSplit_ne sub (PySem.F.cmpArgs_ne _ _) ?_))
    unfold Builtin.«object.__ne__»
    refine wpAny_bind (wpAny_pure ?_)
    have hu : X.A.in1.units < cLine := hr.in1.units0
    refine wpAny_bind (wpAny_cRoomFor hu ?_)
    refine wpAny_bind (PySem.W.ifBound_K (od := some od) XK J h1.at_ h1.fn (wpAny_call (codeAny_mono run fun r s' hq => ?_)))
    cases r with
    | error e => exact hq.elim
    | ok fl =>
      cases fl with
      | ret u =>
        obtain ⟨v', H', I', rz, t, rfl, qz⟩ := I.after hq
        cases rz
        refine wpAny_bind (wpAny_truthy_bool ?_)
        exact wpAny_pure ⟨!t, rfl, .bl (!t), H', I', rfl, qz⟩
      | next => exact False.elim hq
      | brk => exact False.elim hq
      | cont => exact False.elim hq
  have one : wpAny (model X.prog X.w) X.A (tryCompare (.ref a) "__ne__" (.ref b)) (fun r s' => ∃ v, r = some v ∧ EP X pins σ Q v s') X.xe s := by
    unfold tryCompare
    refine wpAny_bind ?_
    simp only [callSpecialIfBound?, bindSpecialIfBound?]
    refine wpAny_holding (wpAny_bind (wpAny_bind (wpAny_bind (J.type.here ((PySem.W.looks_findIn XK hne).here ?_)))))
    have fin : wpAny (model X.prog X.w) X.A (call (.builtin "object.__ne__") ([.ref a] ++ [.ref b]) >>= fun v => pure (some v)) (fun r s' => wpAny (model X.prog X.w) X.A (match r with | some .notImplemented | none => pure none | some v => pure (some v)) (fun r s' => ∃ v, r = some v ∧ EP X pins σ Q v s') X.xe s') X.xe s :=
      wpAny_bind (wpAny_mono body (fun r s' hr' => by obtain ⟨t, rfl, e⟩ := hr'; exact wpAny_pure (wpAny_pure ⟨_, rfl, e⟩)) fun _ _ z => z)
    refine wpAny_bind (wpAny_askSetting (wpAny_ite ?_))
    split
    · rw [SN.bind]
      exact wpAny_bind (wpAny_pure (wpAny_pure fin))
    · rw [SN.bind]
      exact wpAny_tryCatch (wpAny_bind (wpAny_pure (wpAny_pure fin)))
  show wpAny _ _ (richCompare .NotEq _ _) _ _ _
  unfold richCompare
  simp only [PySem.oneThing_ref]
  have e0 : ((Value.ref C != Value.ref C) = true) = False := by simp
  refine wpAny_holding (wpAny_bind (wpAny_cRoomFor hr.units0 (wpAny_bind (J.type.here (wpAny_bind (J'.type.here ?_))))))
  simp only [e0, if_false]
  refine wpAny_bind (wpAny_pure ?_)
  simp only [Bool.false_eq_true, if_false]
  refine wpAny_bind (wpAny_mono one (fun r s' z => ?_) fun _ _ e => e)
  obtain ⟨v, rfl, hq⟩ := z
  exact wpAny_pure hq
end
end Fp

namespace Fp
open PySem PySem.Spec PyProof.Rows L2
local macro_rules | `(tactic| walk_at "rd") => `(tactic| simp only [cxK, cxKn, tRet, tRetN, rIntI, rIntB, rLenL, rListL, rListT, rAbs, tDisp, tPairs, tC, tCB, tCons, tNil, tSl, tVar, tNoPart, tPart, rSlL, tOp, tAsg, gName, tIfS, tDrop, tTest, tAnd, tOr, Evl.tCut, tNot, tB, rI0, rI, rIxL, rIxT, rIxD, tDGet, sDPut, tLst, tTup, tBM, tBM0, tPar, rAppend, rPopAt, rPop, rExtend, rTupL, tCall, tNext, rAll, rOwnIn, rOwn2, rCat, lc_iL, lc_iT, lc_iK, lc_iR, fr_iL, fr_iT, fr_iR, tYes, rIn, rEq, rNe, gTup, gCons, gNil, wipe, tMeth, tFld, sFld, tMake, tProp, tIf, tAndV, tOrV, tNotV, if_true, if_false, Bool.false_eq_true, List.map_cons, List.map_nil, List.nil_append, List.append_nil, List.cons_append, List.getElem?_cons_zero, List.getElem?_cons_succ, Option.some.injEq, exists_and_left, exists_eq_left', exists_eq_left, List.cons.injEq, and_true, true_and, V.ref.injEq, V.int.injEq, V.str.injEq, V.bl.injEq, List.set_cons_zero, List.set_cons_succ])
theorem seqi {t u : TS} {D : Ends} {σ : L2.St} {H : Hp} (h : ∀ k : L2.St → Hp → Prop, k = u D → t { D with nx := k } σ H) : tSeq t u D σ H := h _ rfl
theorem tSeq_eq {t u : TS} {D : Ends} {σ : L2.St} {H : Hp} : tSeq t u D σ H = t { D with nx := u D } σ H := rfl
section
variable {K : PySem.W.Frag} {P : Program} {w : World} {base : Heap} {mg : Str → Option Value}
theorem cxK {CX : CXT} {N : List Str} {qual : Str} {sc : Scope} {f : Addr} {cdv : Value} {A : Around} {outer : List Env} {s : Shared} {H : Hp} {E : XK} : (cxOf CX P w K mg base N qual sc f cdv A outer s H E).K = K := rfl
theorem cxKn {CX : CXT} {N : List Str} {qual : Str} {sc : Scope} {f : Addr} {cdv : Value} {A : Around} {outer : List Env} {s : Shared} {H : Hp} {E : XK} : (cxOf CX P w K mg base N qual sc f cdv A outer s H E).nox.K = K := rfl
end
section
variable {K : PySem.W.Frag} {P : Program} {w : World} {base : Heap} {mg : Str → Option Value}
end

/-! ### the mathematics: rules by number -/
def rn (i : Nat) : Str := (["grouping", "order", "middle", "first", "last", "ends", "keep", "take", "vanish"] : List Str).getD i ""
def kn (i : Nat) : Str := (["trees", "pairs", "words", "bags", "parity", "middles", "heads", "tails", "sets", "outer", "lefts", "rights", "one"] : List Str).getD i ""
def KR (i : Nat) : List Nat := [[], [1], [0], [0, 1], [0, 1, 8], [0, 2], [0, 2, 3], [0, 2, 4], [0, 1, 2, 3, 4], [0, 2, 5], [0, 2, 3, 5, 6], [0, 2, 4, 5, 7], [0, 1, 2, 3, 4, 5, 6, 7, 8]].getD i []
abbrev R9 : List Nat := [0, 1, 2, 3, 4, 5, 6, 7, 8]
abbrev K13 : List Nat := [0, 1, 2, 3, 4, 5, 6, 7, 8, 9, 10, 11, 12]
def ruD (l : List Nat) : PyData := .list (l.map fun i => .str (rn i))
def kiD (i : Nat) : PyData := .tuple [.str (kn i), ruD (KR i)]
def thD : PyData := .list (K13.map kiD)
section
variable {K : PySem.W.Frag} {P : Program} {w : World} {base : Heap} {mg : Str → Option Value}
def spNine : Sp := fun vs H Q _ => vs = [] ∧ ∀ v H', Same H H' → Dt H' v (ruD R9) → Q v H'
def spThir : Sp := fun vs H Q _ => vs = [] ∧ ∀ v H', Same H H' → Dt H' v thD → Q v H'
end

/-! ### more mathematics -/
def hasB (k : Nat) (ns : List Nat) : Bool := ns.all fun n => decide (n ∈ KR k)
def clos (ns : List Nat) : List Nat := R9.filter fun r => ((K13.filter fun k => hasB k ns).filter fun k => !decide (r ∈ KR k)).isEmpty
theorem rn_inj : ∀ i ∈ R9, ∀ j ∈ R9, rn i = rn j → i = j := by decide
def rS (l : List Nat) : List Str := l.map rn
theorem mem_rS {i : Nat} {l : List Nat} (hi : i ∈ R9) (hl : ∀ j ∈ l, j ∈ R9) : (rn i ∈ rS l) = (i ∈ l) := propext ⟨fun h => by
  obtain ⟨j, hj, e⟩ := List.mem_map.mp h
  rw [← rn_inj j (hl j hj) i hi e]
  exact hj, fun h => List.mem_map_of_mem h⟩
theorem KR_in : ∀ k ∈ K13, ∀ j ∈ KR k, j ∈ R9 := by decide
theorem ruD_eq (l : List Nat) : ruD l = .list ((rS l).map PyData.str) := by
  unfold ruD rS
  rw [List.map_map]
  rfl
theorem shp_rn : ∀ i ∈ R9, (PyData.str (rn i)).canLay0 = true ∧ (PyData.str (rn i)).depth ≤ 0 := by decide +kernel
theorem shp_ru {l : List Nat} (h : ∀ j ∈ l, j ∈ R9) : Shp 1 (ruD l) := shp_lst fun d hd => by
  obtain ⟨i, hi, rfl⟩ := List.mem_map.mp hd
  exact shp_rn i (h i hi)
theorem filter_empty {α : Type} (p : α → Bool) : ∀ l : List α, (l.filter fun x => !p x).isEmpty = l.all p
  | [] => rfl
  | x :: r => by
    rw [List.filter_cons, List.all_cons, ← filter_empty p r]
    cases p x with
    | true => rfl
    | false => rfl
theorem map_empty {α β : Type} (f : α → β) (l : List α) : (l.map f).isEmpty = l.isEmpty := by cases l <;> rfl
theorem dts_rS {H : Hp} : ∀ l : List Nat, Dts H ((rS l).map V.str) (l.map fun n => PyData.str (rn n))
  | [] => .nil
  | n :: r => .cons (.str _) (dts_rS r)
theorem Dt.rules {H : Hp} {v : V} {l : List Nat} (h : Dt H v (ruD l)) : ∃ a, v = .ref a ∧ H a = some (.lst ((rS l).map V.str)) := by
  rw [ruD_eq] at h
  cases h with
  | lst h1 t => exact ⟨_, rfl, by rw [h1, Dts.strs t]⟩
section
variable {K : PySem.W.Frag} {P : Program} {w : World} {base : Heap} {mg : Str → Option Value}
/-- names: rules by number -/
def spClos : Sp := fun vs H Q _ => ∃ v ns, vs = [v] ∧ Dt H v (ruD ns) ∧ (∀ n ∈ ns, n ∈ R9) ∧ ns.length ≤ 9 ∧ ∀ v H', Same H H' → Dt H' v (ruD (clos ns)) → Q v H'
end

theorem perm_erase {α : Type} : ∀ (l : List α) (i : Nat) (x : α), l[i]? = some x → (x :: l.eraseIdx i).Perm l
  | [], _, _, h => by simp at h
  | y :: r, 0, x, h => by
    cases h
    exact List.Perm.refl _
  | y :: r, i + 1, x, h => by
    have ih := perm_erase r i x h
    exact (List.Perm.swap y x _).trans (ih.cons y)
section
variable {K : PySem.W.Frag} {P : Program} {w : World} {base : Heap} {mg : Str → Option Value}
def spShuf : Sp := fun vs H Q _ => ∃ p c v t ds n, vs = [.ref p, v] ∧ PenOk H p c t ∧ Dt H v (.list ds) ∧ (∀ d ∈ ds, Shp n d) ∧ n ≤ 60 ∧ ds.length ≤ 900 ∧ t ≤ 900000000 ∧
  ∀ a H' es, es.Perm ds → PenOk H' p c (t + ds.length) → But p H H' → Dt H' (.ref a) (.list es) → Q (.ref a) H'
end
/-! ### the mathematics of closing -/
def sub (b : Nat) : List Nat := R9.filter fun i => b.testBit i
def weak (ns : List Nat) : Nat := (K13.filter fun k => hasB k ns).headD 0
def allOk (b : Nat) : Bool :=
  decide (KR (weak (sub b)) = clos (sub b)) && decide ((K13.filter fun k => decide (KR k = clos (sub b))) = [weak (sub b)])
theorem all_ok : (List.range 512).all allOk = true := by decide +kernel
theorem sub_ok {b : Nat} (h : b < 512) : KR (weak (sub b)) = clos (sub b) ∧ (K13.filter fun k => decide (KR k = clos (sub b))) = [weak (sub b)] := by
  have h1 := List.all_eq_true.mp all_ok b (List.mem_range.mpr h)
  unfold allOk at h1
  rw [Bool.and_eq_true, decide_eq_true_eq, decide_eq_true_eq] at h1
  exact h1
theorem sub_in {b i : Nat} (h : i ∈ sub b) : i ∈ R9 := (List.mem_filter.mp h).1
theorem sub_len (b : Nat) : (sub b).length ≤ 9 := List.length_filter_le _ _
theorem clos_in {ns : List Nat} {i : Nat} (h : i ∈ clos ns) : i ∈ R9 := (List.mem_filter.mp h).1
theorem has_one {ns : List Nat} (h : ∀ n ∈ ns, n ∈ R9) : hasB 12 ns = true := List.all_eq_true.mpr fun n hn => decide_eq_true (h n hn)
theorem weak_head {ns : List Nat} (h : ∀ n ∈ ns, n ∈ R9) : (K13.filter fun k => hasB k ns)[0]? = some (weak ns) ∧ weak ns ∈ K13 := by
  have hm : 12 ∈ K13.filter fun k => hasB k ns := List.mem_filter.mpr ⟨by decide, has_one h⟩
  unfold weak
  cases e : (K13.filter fun k => hasB k ns) with
  | nil => rw [e] at hm; cases hm
  | cons k r => exact ⟨rfl, (List.mem_filter.mp (show k ∈ K13.filter fun k => hasB k ns by rw [e]; exact List.mem_cons_self)).1⟩
theorem kinds_ok : K13.all (fun k => decide (weak (KR k) = k)) = true := by decide +kernel
theorem weak_KR {k : Nat} (h : k ∈ K13) : weak (KR k) = k := of_decide_eq_true (List.all_eq_true.mp kinds_ok k h)
theorem KR_sorted : K13.all (fun k => decide (R9.filter (fun i => decide (i ∈ KR k)) = KR k)) = true := by decide +kernel
theorem KR_filter {k : Nat} (h : k ∈ K13) : R9.filter (fun i => decide (i ∈ KR k)) = KR k := of_decide_eq_true (List.all_eq_true.mp KR_sorted k h)
theorem sub_filter (b : Nat) : R9.filter (fun i => decide (i ∈ sub b)) = sub b := by
  unfold sub
  refine List.filter_congr fun i hi => ?_
  cases h : b.testBit i with
  | true => exact decide_eq_true (List.mem_filter.mpr ⟨hi, h⟩)
  | false => exact decide_eq_false fun z => absurd (List.mem_filter.mp z).2 (by rw [h]; decide)
theorem kn_rn : K13.all (fun k => R9.all fun i => !decide (kn k = rn i)) = true := by decide +kernel
theorem eqv_strs : ∀ a b : List Str, PyData.eqvAll (a.map PyData.str) (b.map PyData.str) = decide (a = b)
  | [], [] => rfl
  | [], _ :: _ => rfl
  | _ :: _, [] => rfl
  | x :: a, y :: b => by
    show ((x == y) && PyData.eqvAll (a.map PyData.str) (b.map PyData.str)) = _
    rw [eqv_strs a b]
    by_cases h : x = y
    · subst h
      simp
    · simp [h]
theorem rS_inj : ∀ {a b : List Nat}, (∀ n ∈ a, n ∈ R9) → (∀ n ∈ b, n ∈ R9) → (rS a = rS b) = (a = b)
  | [], [], _, _ => by simp
  | [], _ :: _, _, _ => by simp [rS]
  | _ :: _, [], _, _ => by simp [rS]
  | x :: a, y :: b, ha, hb => by
    have ih := rS_inj (a := a) (b := b) (fun n hn => ha n (List.mem_cons_of_mem _ hn)) (fun n hn => hb n (List.mem_cons_of_mem _ hn))
    have hx := ha x List.mem_cons_self
    have hy := hb y List.mem_cons_self
    have e1 : (rn x = rn y) = (x = y) := propext ⟨fun e => rn_inj x hx y hy e, fun e => by rw [e]⟩
    show (rn x :: rS a = rn y :: rS b) = _
    simp only [List.cons.injEq]
    rw [e1, ih]
theorem eqv_ru {a b : List Nat} (ha : ∀ n ∈ a, n ∈ R9) (hb : ∀ n ∈ b, n ∈ R9) : PyData.eqv (ruD a) (ruD b) = decide (a = b) := by
  rw [ruD_eq, ruD_eq]
  show PyData.eqvAll _ _ = _
  rw [eqv_strs, decide_eq_decide.mpr (iff_of_eq (rS_inj ha hb))]

/-! ### what the top has written of rules -/
def kS : List Str := K13.map kn
structure TxR (K : PySem.W.Frag) (w : World) (mg : Str → Option Value) (aR aD C : Addr) (T : Nat → Addr) : Prop where
  mR : mg "_RULES" = some (.ref aR)
  mD : mg "_RULES_OF" = some (.ref aD)
  mC : mg "Rules" = some (.ref C)
  sR : ∀ H, SqT K H aR ((rS R9).map V.str)
  kk : KKeys K aD kS
  dD : ∃ es n, KDict K w aD es n
  dI : ∀ k ∈ K13, KDct K w aD (kn k) (.ref (T k))
  sT : ∀ k ∈ K13, ∀ H, SqT K H (T k) ((rS (KR k)).map V.str)
  cl : Cls K C
  nN : NoAttr K C "_names"
  nK : NoAttr K C "_kind"
  m_list : mg "list" = none
  m_all : mg "all" = none
  m_tuple : mg "tuple" = none
  m_isi : mg "isinstance" = none
section
variable {K : PySem.W.Frag} {P : Program} {w : World} {base : Heap} {mg : Str → Option Value} {aR aD C : Addr} {T : Nat → Addr}
def spRulesOf : Sp := fun vs H Q _ => ∃ k ∈ K13, vs = [.str (kn k)] ∧ ∀ v H', Same H H' → Dt H' v (ruD (KR k)) → Q v H'
def spHas (K : PySem.W.Frag) : Sp := fun vs H Q _ => ∃ a b k ns, vs = [.ref a, .ref b] ∧ k ∈ K13 ∧ (∀ n ∈ ns, n ∈ R9) ∧ ns.length ≤ 9 ∧ SqT K H a ((rS (KR k)).map V.str) ∧ SqT K H b ((rS ns).map V.str) ∧
  ∀ H', Same H H' → Q (.bl (hasB k ns)) H'
def spWeak (K : PySem.W.Frag) : Sp := fun vs H Q _ => ∃ b ns, vs = [.ref b] ∧ (∀ n ∈ ns, n ∈ R9) ∧ ns.length ≤ 9 ∧ SqT K H b ((rS ns).map V.str) ∧ ∀ H', Same H H' → Q (.str (kn (weak ns))) H'
theorem dts_bools {H : Hp} : ∀ {bs : List Bool} {vs : List V}, Dts H vs (bs.map PyData.bool) → vs = bs.map V.bl
  | [], _, .nil => rfl
  | z :: r, _, .cons (.bl _) t => by rw [dts_bools t]; rfl
end

def rFl (t : Addr) (k : Str) : List (Str × V) := putF "_kind" (.str k) (putF "_names" (.ref t) [])
theorem s_nk : ¬ (("_names" : Str) = "_kind") := by decide +kernel
theorem rFl_names (t : Addr) (k : Str) : (rFl t k).lookup ("_names" : Str) = some (.ref t) := by
  unfold rFl
  rw [lookup_putF, if_neg s_nk, lookup_putF, if_pos rfl]
theorem rFl_kind (t : Addr) (k : Str) : (rFl t k).lookup ("_kind" : Str) = some (.str k) := by
  unfold rFl
  rw [lookup_putF, if_pos rfl]
theorem rFl_no (t : Addr) (k m : Str) (h1 : ¬ m = "_kind") (h2 : ¬ m = "_names") : (rFl t k).lookup m = none := by
  unfold rFl
  rw [lookup_putF, if_neg h1, lookup_putF, if_neg h2]
  rfl
/-- a set of rules stands at p -/
def RuAt (H : Hp) (C p : Addr) (s : List Nat) : Prop := ∃ dx t, H p = some (.ins C dx (rFl t (kn (weak s)))) ∧ H t = some (.tup ((rS s).map V.str))
theorem RuAt.same {H H' : Hp} {C p : Addr} {s : List Nat} (h : RuAt H C p s) (e : Same H H') : RuAt H' C p s := by
  obtain ⟨dx, t, h1, h2⟩ := h
  exact ⟨dx, t, e _ _ h1, e _ _ h2⟩
section
variable {K : PySem.W.Frag} {P : Program} {w : World} {base : Heap} {mg : Str → Option Value} {aR aD C : Addr} {T : Nat → Addr}
def spInit (C : Addr) : Sp := fun vs H Q _ => ∃ p dx v ns, vs = [.ref p, v] ∧ H p = some (.ins C dx []) ∧ Dt H v (ruD ns) ∧ (∀ n ∈ ns, n ∈ R9) ∧ ns.length ≤ 9 ∧
  ∀ H', (∀ b o, H b = some o → b ≠ p → H' b = some o) → RuAt H' C p (R9.filter fun i => decide (i ∈ ns)) → Q .non H'
end

theorem Same.but {p : Addr} {H H' : Hp} (e : Same H H') : But p H H' := But.of e
section
variable {K : PySem.W.Frag} {P : Program} {w : World} {base : Heap} {mg : Str → Option Value} {aR aD C : Addr} {T : Nat → Addr}
def spListed (C : Addr) : Sp := fun vs H Q _ => ∃ p s, vs = [.ref p] ∧ RuAt H C p s ∧ ∀ v H', Same H H' → Dt H' v (ruD s) → Q v H'
def spKind (C : Addr) : Sp := fun vs H Q _ => ∃ p s, vs = [.ref p] ∧ RuAt H C p s ∧ ∀ H', Same H H' → Q (.str (kn (weak s))) H'
def spClosed (C : Addr) : Sp := fun vs H Q _ => ∃ p s, vs = [.ref p] ∧ RuAt H C p s ∧ weak s ∈ K13 ∧ ∀ p' H', Same H H' → RuAt H' C p' (KR (weak s)) → Q (.ref p') H'
def spCont (C : Addr) : Sp := fun vs H Q _ => ∃ p s z, vs = [.ref p, .str z] ∧ RuAt H C p s ∧ weak s ∈ K13 ∧ ∀ H', Same H H' → Q (.bl (decide (z ∈ rS (KR (weak s))))) H'
def spEq (C : Addr) : Sp := fun vs H Q _ => ∃ p s p' s', vs = [.ref p, .ref p'] ∧ RuAt H C p s ∧ RuAt H C p' s' ∧ (∀ n ∈ s, n ∈ R9) ∧ (∀ n ∈ s', n ∈ R9) ∧ ∀ H', Same H H' → Q (.bl (decide (s = s'))) H'
/-- the kind whose rules are closed under names -/
def spKW : Sp := fun vs H Q _ => ∃ v b, vs = [v] ∧ b < 512 ∧ Dt H v (ruD (sub b)) ∧ ∀ H', Same H H' → Q (.str (kn (weak (sub b)))) H'
end

/-! ### which rules are drawn -/
theorem mk_rules {C : Addr} {H : Hp} {v : V} {l : List Nat} {Q : VK} (hv : Dt H v (ruD l)) (hl : ∀ n ∈ l, n ∈ R9) (hn : l.length ≤ 9) (q : ∀ p H', Same H H' → RuAt H' C p (R9.filter fun i => decide (i ∈ l)) → Q (.ref p) H') :
    ∀ x dx, H x = none → H dx = none → dx ≠ x → spInit C [.ref x, v] (upd (upd H dx (.own x)) x (.ins C dx [])) (fun v H2 => v = .non ∧ Q (.ref x) H2) E0 := by
  intro x dx nx ndx ne
  have e2 : Same H (upd (upd H dx (.own x)) x (.ins C dx [])) := fun b o hb => by
    rw [upd_ne (ne_of_none hb nx), upd_ne (ne_of_none hb ndx)]
    exact hb
  exact ⟨x, dx, v, l, rfl, upd_same, hv.same e2, hl, hn, fun H2 k2 r2 => ⟨rfl, q _ _ (fun b o hb => k2 b o (e2 _ _ hb) (ne_of_none hb nx)) r2⟩⟩
def pick : List Bool → List Nat → List Nat
  | b :: bs, x :: xs => if b = true then x :: pick bs xs else pick bs xs
  | _, _ => []
theorem pick_snoc : ∀ (bs : List Bool) (xs : List Nat) (b : Bool) (x : Nat), xs[bs.length]? = some x → pick (bs ++ [b]) xs = pick bs xs ++ (if b = true then [x] else [])
  | [], [], _, _, h => by simp at h
  | [], y :: r, b, x, h => by
    cases h
    cases b <;> rfl
  | c :: bs, [], _, _, h => by simp at h
  | c :: bs, y :: r, b, x, h => by
    have ih := pick_snoc bs r b x h
    cases c with
    | true =>
      show y :: pick (bs ++ [b]) r = y :: pick bs r ++ _
      rw [ih]
      rfl
    | false => exact ih
def bitsOf : List Bool → Nat
  | [] => 0
  | b :: r => (if b = true then 1 else 0) + 2 * bitsOf r
theorem pick9 : ∀ b0 b1 b2 b3 b4 b5 b6 b7 b8 : Bool, pick [b0, b1, b2, b3, b4, b5, b6, b7, b8] R9 = sub (bitsOf [b0, b1, b2, b3, b4, b5, b6, b7, b8]) ∧ bitsOf [b0, b1, b2, b3, b4, b5, b6, b7, b8] < 512 := by decide +kernel
theorem pick_sub {bs : List Bool} (h : bs.length = 9) : ∃ b, b < 512 ∧ pick bs R9 = sub b := by
  match bs, h with
  | [b0, b1, b2, b3, b4, b5, b6, b7, b8], _ => exact ⟨_, (pick9 b0 b1 b2 b3 b4 b5 b6 b7 b8).2, (pick9 b0 b1 b2 b3 b4 b5 b6 b7 b8).1⟩
theorem pick_len : ∀ (bs : List Bool) (xs : List Nat), (pick bs xs).length ≤ bs.length
  | [], _ => Nat.le_of_eq (by cases ‹List Nat› <;> rfl)
  | _ :: _, [] => Nat.zero_le _
  | b :: bs, x :: xs => by
    have ih := pick_len bs xs
    cases b with
    | true => exact Nat.succ_le_succ ih
    | false => exact Nat.le_succ_of_le ih
theorem perm_map_inv {α β : Type} {f : α → β} {es m : List β} (h : es.Perm m) : ∀ l : List α, m = l.map f → ∃ l' : List α, l'.Perm l ∧ es = l'.map f := by
  induction h with
  | nil => exact fun l e => ⟨l, List.Perm.refl _, e⟩
  | cons x _ ih =>
    intro l e
    cases l with
    | nil => cases e
    | cons a r =>
      injection e with e1 e2
      obtain ⟨r', p, e3⟩ := ih r e2
      exact ⟨a :: r', p.cons a, by rw [e1, e3]; rfl⟩
  | swap x y l0 =>
    intro l e
    match l, e with
    | a :: b :: r, e =>
      injection e with e1 e2
      injection e2 with e2 e3
      exact ⟨b :: a :: r, List.Perm.swap a b r, by rw [e1, e2, e3]; rfl⟩
  | trans _ _ ih1 ih2 =>
    intro l e
    obtain ⟨l2, p2, e2⟩ := ih2 l e
    obtain ⟨l1, p1, e1⟩ := ih1 l2 e2
    exact ⟨l1, p1.trans p2, e1⟩
theorem filter_perm {a b : List Nat} (h : a.Perm b) : R9.filter (fun i => decide (i ∈ a)) = R9.filter fun i => decide (i ∈ b) :=
  List.filter_congr fun i _ => decide_eq_decide.mpr h.mem_iff
def kS2 : List Str := kS ++ [("" : Str), ("q" : Str)]
theorem kS2_no : K13.all (fun k => kS2.all fun z => !decide (z ∈ rS (KR k))) = true := by decide +kernel
theorem weak_in (b : Nat) : weak (sub b) ∈ K13 := (weak_head fun n hn => sub_in hn).2
theorem shp_kS2 : ∀ z ∈ kS2, Shp 0 (.str z) := by
  have h : kS2.all (fun z => (PyData.str z).canLay0) = true := by decide +kernel
  exact fun z hz => ⟨List.all_eq_true.mp h z hz, Nat.le_refl _⟩
theorem RuAt.but {p : Addr} {kvs : List (Key × V)} {H H' : Hp} {C q : Addr} {s : List Nat} (hp : H p = some (.dK kvs)) (h : RuAt H C q s) (e : But p H H') : RuAt H' C q s := by
  obtain ⟨dx, t, h1, h2⟩ := h
  exact ⟨dx, t, e.1 _ _ h1 (ne_of h1 hp (by intro z; cases z)), e.1 _ _ h2 (ne_of h2 hp (by intro z; cases z))⟩
section
variable {K : PySem.W.Frag} {P : Program} {w : World} {base : Heap} {mg : Str → Option Value} {aR aD C : Addr} {T : Nat → Addr}
def spLaw (K : PySem.W.Frag) : Sp := fun vs H Q _ => ∃ (a : Addr) (ns : List Int), vs = [.ref a] ∧ SqL K H a (ns.map V.int) ∧ ns.length ≤ 63 ∧ ∀ H', Q (.bl true) H'
end

end Fp

/-! more rules at a written part K -/
namespace Fp
open PySem PySem.Spec PyProof.Rows L2
section
variable {X : Cx} {K : PySem.W.Frag}
/-- == of data, the one side flat enough -/
def rEqC (K : PySem.W.Frag) : R2 := fun x y H Q => ∃ d e, Dp K H x d ∧ Dp K H y e ∧ d.canLay0 = true ∧ e.canLay0 = true ∧ min d.depth e.depth ≤ 64 ∧ Q (.bl (PyData.eqv d e)) H
def rNeC (K : PySem.W.Frag) : R2 := fun x y H Q => ∃ d e, Dp K H x d ∧ Dp K H y e ∧ d.canLay0 = true ∧ e.canLay0 = true ∧ min d.depth e.depth ≤ 64 ∧ Q (.bl (!PyData.eqv d e)) H
theorem op_eqC (hu : X.A.units + 64 < cLine) (hK : X.K = K := by rfl) : OpR X (compareOp .Eq) (rEqC K) := by
  subst hK
  intro pins s σ H x y v u Q I rx ry h
  obtain ⟨d, e, hd, he, sd, se, hm, q⟩ := h
  obtain ⟨as, r1⟩ := Dp.reads I d x v hd rx
  obtain ⟨bs, r2⟩ := Dp.reads I e y u he ry
  exact SeqAt.compareEq_reads r1 r2 sd se (by omega) ⟨.bl _, H, I, rfl, q⟩
theorem op_neC (hu : X.A.units + 64 < cLine) (hK : X.K = K := by rfl) : OpR X (compareOp .NotEq) (rNeC K) := by
  subst hK
  intro pins s σ H x y v u Q I rx ry h
  obtain ⟨d, e, hd, he, sd, se, hm, q⟩ := h
  obtain ⟨as, r1⟩ := Dp.reads I d x v hd rx
  obtain ⟨bs, r2⟩ := Dp.reads I e y u he ry
  exact SeqAt.compareNe_reads r1 r2 sd se (by omega) ⟨.bl _, H, I, rfl, q⟩
theorem call_isi1 (hK : X.K = K := by rfl) : CallR X (.builtin "isinstance") (rIsi K) := hK ▸ call_isi
theorem cr_sumK (hc : X.calm = true) (hK : X.K = K := by rfl) : CallR X (.builtin "sum") (rSum K) := hK ▸ cr_sum hc
def tTru (K : PySem.W.Frag) (ta : TE) : TT := fun σ H Q => ta σ H fun x H' => ∃ k, TruV K x H' k ∧ Q k H'
theorem pt_truthK {a : Expr} {ta : TE} (ha : PE X a ta) (he : ∀ whole, isTrue a X.env whole = (do let v ← whole; standAt a.pos; holding [v] (truthy v)) := by exact fun _ => rfl) (hK : X.K = K := by rfl) : PT X a (tTru K ta) := by
  subst hK
  exact pt_truth ha he
theorem pe_revK {e : Expr} {te : TE} {k : Nat} {p1 p2 p3 pos : Pos} (he : PE X e te) (hK : X.K = K := by rfl) : PE X (.Subscript e (.Slice none none (some (.UnaryOp .USub (.Constant (.int 1) k p1) p2)) p3) pos) (tRevL K te) := by
  subst hK
  exact pe_revL he
/-- a list against the empty one -/
theorem ne_nilC {H : Hp} {v : V} {q : Addr} {ds : List PyData} {Q : VK} (h : Dt H v (.list ds)) (hs : PyData.canLayAll0 ds = true) (hq : H q = some (.lst [])) (k : Q (.bl (!ds.isEmpty)) H) : rNeC K v (.ref q) H Q := by
  refine ⟨.list ds, .list [], h.dp, .lst (.inl (.inl hq)) .nil, hs, rfl, Nat.le_trans (Nat.min_le_right _ _) (by decide), ?_⟩
  cases ds <;> exact k
end
end Fp

/-! lambdas with parameters and without captured names: made, held, called -/
namespace Fp
open PySem PySem.Spec PyProof.Rows L2 LamX
/-- what a lambda is in the text -/
structure Lm where
  qual : Str
  ps : Arguments
  bd : Expr
  sc : Scope
def LamF (f c : Addr) (l : Lm) : HO := .ext fun h => ∃ pm ctv : Value, h.get? f = some (PySem.W.kla_obj "<lambda>" l.qual l.ps l.bd l.sc [] pm c ctv)
/-- the lambda stands at f -/
def LamAt (H : Hp) (f : Addr) (l : Lm) : Prop := ∃ c, H f = some (LamF f c l) ∧ H c = some (CodeO c l.qual)
theorem LamAt.ext {H H' : Hp} {f : Addr} {l : Lm} (h : LamAt H f l) (e : ExtN H H') : LamAt H' f l := by
  obtain ⟨c, h1, h2⟩ := h
  refine ⟨c, e _ _ h1 fun ps z => ?_, e _ _ h2 codeO_ne⟩
  unfold LamF at z
  cases z
theorem LamAt.same {H H' : Hp} {f : Addr} {l : Lm} (h : LamAt H f l) (e : Same H H') : LamAt H' f l := h.ext (ExtN.of e)
section
variable {X : Cx} {pins : List (Addr × Obj)} {σ : L2.St} {H : Hp} {s : Shared}
theorem lam_lay {f c : Addr} {l : Lm} {pm ctv : Value} {hp : Heap} {tk : Nat} (I : Inv X pins σ H { s with heap := hp, toks := tk }) (ef : f = hp.objs.size) (hc : H c = some (CodeO c l.qual)) :
    Inv X pins σ (upd H f (LamF f c l)) { s with heap := hp.push (PySem.W.kla_obj "<lambda>" l.qual l.ps l.bd l.sc [] pm c ctv), toks := tk } := by
  have kp : ∀ b u, hp.get? b = some u → (hp.push (PySem.W.kla_obj "<lambda>" l.qual l.ps l.bd l.sc [] pm c ctv)).get? b = some u := fun b u z => Heap.get?_push_of_some _ z
  have gf : (hp.push (PySem.W.kla_obj "<lambda>" l.qual l.ps l.bd l.sc [] pm c ctv)).get? f = some (PySem.W.kla_obj "<lambda>" l.qual l.ps l.bd l.sc [] pm c ctv) := by
    rw [ef]
    exact Heap.get?_push_size _ rfl
  exact Inv.laid (s := { s with heap := hp, toks := tk }) (a := f) (o := LamF f c l) (t' := tk) I kp (Nat.le_of_eq ef.symm) ⟨⟨pm, ctv, gf⟩, ⟨_, gf⟩, fun h1 h2 ⟨a, b, z⟩ st => ⟨a, b, st _ z⟩⟩
/-- the table P of the code object c: which names its entries bear -/
structure Mak (base : Heap) (mg : Str → Option Value) (T : List (Addr × Str)) (cd : Value) (q : Str) : Prop where
  ex : ∃ c P, cd = .ref c ∧ TabB base mg c P ∧ (P, q) ∈ T ∧ ∀ p ∈ T, p.1 = P → p.2 = q
def tLamV (T : List (Addr × Str)) (l : Lm) : TE := fun _ H Q => Tabs T H ∧ ∀ f H1, ExtN H H1 → Tabs T H1 → LamAt H1 f l → Q (.ref f) H1
theorem pe_lamV {T : List (Addr × Str)} {qual : Str} {params : Arguments} {body : Expr} {scope : Scope} {pos : Pos} (M : Mak X.base X.mg T X.env.code qual) (hq : qual = X.env.qual ++ "<lambda>") (hdef : defaultsOf params X.env = ([], [])) (hfree : ∀ y ∈ scope.names, y.2 ≠ .free) (hcl : cloFrom X.env.cells scope.names [] = []) :
    PE X (.Lambda params body scope pos) (tLamV T ⟨qual, params, body, scope⟩) := by
  subst hq
  refine ⟨fun pins s σ H Q I hyp => ?_⟩
  obtain ⟨hT, hyp⟩ := hyp
  obtain ⟨c, P, hcode, TB, hm, hu⟩ := M.ex
  obtain ⟨ps, hP, ht, ha⟩ := hT _ hm
  refine PySem.W.kla_eval hdef ?_
  have b1 : s.heap.BuiltinsAt X.mg P := TB.bm.keeps I.bk
  have b2 : s.heap.get? P = some { cls := .none, data := .fields ps } := I.hok P _ hP
  have b3 := I.mod.glob.keeps I.bk
  have b4 := TB.code.keeps I.bk
  have clo := closure_ok (env := X.env) (scope := scope) fun y hy e => absurd e (hfree y hy)
  rw [hcl] at clo
  cases hc : codeAmong pos ps.toList with
  | none =>
    refine PySem.W.kla_makeFunction (mg := X.mg) (c := c) (P := P) (ps := ps) clo I.ok.glob b3 hcode b4 b2 ht hc TB.gP b1 fun c' ctv h' tk hx hge hlt hrec htb => ?_
    obtain ⟨c2, oc, vs, t, e2, hoc, hd, hv⟩ := hrec
    cases e2
    have nC : H c' = none := I.hok.fresh hge
    have nP : P ≠ c' := ne_of_none hP nC
    have I1 := inv_table (q := X.env.qual ++ "<lambda>") (t' := tk) (more := #[rawInt pos.line, rawInt pos.col, .ref c']) I hP hx htb hge ⟨oc, vs, t, hoc, hd, hv⟩
    have E1 : ExtN H (upd (upd H P (.tbl (ps ++ #[rawInt pos.line, rawInt pos.col, .ref c']))) c' (CodeO c' (X.env.qual ++ "<lambda>"))) := fun b o e n => by
      rw [upd_ne (ne_of_none e nC), upd_ne]
      · exact e
      · intro z
        rw [z, hP] at e
        exact n ps (Option.some.inj e).symm
    have T1 : Tabs T (upd (upd H P (.tbl (ps ++ #[rawInt pos.line, rawInt pos.col, .ref c']))) c' (CodeO c' (X.env.qual ++ "<lambda>"))) := fun p hp => by
      by_cases hb : p.1 = P
      · rw [hu p hp hb, hb]
        have eL : (ps ++ #[rawInt pos.line, rawInt pos.col, .ref c']).toList = ps.toList ++ [rawInt pos.line, rawInt pos.col, .ref c'] := by simp
        refine ⟨_, (upd_ne nP).trans upd_same, eL ▸ PySem.TriplesOk_snoc _ _ _ _ ht, fun p' cv z => ?_⟩
        rw [eL] at z
        rcases among_app _ ht z with z | z
        · obtain ⟨c0, e1, e2⟩ := ha p' cv z
          exact ⟨c0, e1, E1 _ _ e2 codeO_ne⟩
        · exact ⟨c', z, upd_same⟩
      · obtain ⟨ps', a1, a2, a3⟩ := hT p hp
        refine ⟨ps', by rw [upd_ne (ne_of_none a1 nC), upd_ne hb]; exact a1, a2, fun p' cv z => ?_⟩
        obtain ⟨c0, e1, e2⟩ := a3 p' cv z
        exact ⟨c0, e1, E1 _ _ e2 codeO_ne⟩
    have nF : (upd (upd H P (.tbl (ps ++ #[rawInt pos.line, rawInt pos.col, .ref c']))) c' (CodeO c' (X.env.qual ++ "<lambda>"))) h'.objs.size = none := I1.hok.fresh (Nat.le_refl _)
    have I2 := lam_lay (f := h'.objs.size) (c := c') (l := ⟨X.env.qual ++ "<lambda>", params, body, scope⟩) (pm := (X.mg "__name__").getD .none) (ctv := ctv) I1 rfl upd_same
    have E2 := same_new (o := LamF h'.objs.size c' ⟨X.env.qual ++ "<lambda>", params, body, scope⟩) nF
    exact ⟨.ref _, _, I2, rfl, hyp _ _ (E1.trans (ExtN.of E2)) (T1.ext E2) ⟨c', upd_same, E2 _ _ upd_same⟩⟩
  | some cv =>
    obtain ⟨c', e, hco⟩ := ha pos cv hc
    subst e
    refine PySem.W.kla_makeFunctionHit (mg := X.mg) (c := c) (P := P) (ps := ps) clo I.ok.glob b3 hcode b4 b2 ht hc b1 fun ctv h' tk hx hsz => ?_
    have I1 : Inv X pins σ H { s with heap := h', toks := tk } := I.kept hx
    have nF : H h'.objs.size = none := I1.hok.fresh (Nat.le_refl _)
    have I2 := lam_lay (f := h'.objs.size) (c := c') (l := ⟨X.env.qual ++ "<lambda>", params, body, scope⟩) (pm := (X.mg "__name__").getD .none) (ctv := ctv) I1 rfl hco
    have E2 := same_new (o := LamF h'.objs.size c' ⟨X.env.qual ++ "<lambda>", params, body, scope⟩) nF
    exact ⟨.ref _, _, I2, rfl, hyp _ _ (ExtN.of E2) (hT.ext E2) ⟨c', upd_same, E2 _ _ hco⟩⟩
end
/-! ### its call -/
/-- what the lambda promises: its body as a term -/
structure LamOk (P : Program) (w : World) (K : PySem.W.Frag) (mg : Str → Option Value) (base : Heap) (k : Nat) (l : Lm) (N : List Str) (sp : Sp) : Prop where
  scope : FnScope N N l.sc
  binds : ∀ (c : Value) (pm ctv : Value) (us : List Value), us.length = N.length → bindArgs (PySem.W.kla_fn "<lambda>" l.qual l.ps l.bd l.sc [] pm c ctv) ⟨us, []⟩ = pure (N.zip us)
  len : ∀ vs H Q, sp vs H Q E0 → vs.length = N.length
  body : ∀ (f c : Addr) (A : Around) (outer : List Env) (s : Shared) (H : Hp) (vs : List V) (Q : VK), Room k (A.deeper (envOfC l.qual l.sc s.heap.objs.size f (.ref c))) → sp vs H Q E0 →
    ∃ t, PE (cxOf CX0 P w K mg base N l.qual l.sc f (.ref c) A outer s H E0) l.bd t ∧ t (L2.start N vs) H Q
theorem vals_len : ∀ {vs : List V} {us : List Value}, Vals vs us → vs.length = us.length
  | _, _, .nil => rfl
  | _, _, .cons _ r => congrArg Nat.succ (vals_len r)
theorem run_lam {P : Program} {w : World} {K : PySem.W.Frag} {mg : Str → Option Value} {base : Heap} {k : Nat} {l : Lm} {N : List Str} {sp : Sp} {A : Around} {outer : List Env} {s : Shared} {H : Hp} {f : Addr} {us : List Value} {vs : List V} {Q : VK}
    (L : LamOk P w K mg base k l N sp) (hl : LamAt H f l) (hr : Room (k + 1) A) (e0 : Env0 P w K mg base A outer s H) (r : Vals vs us) (h : sp vs H Q E0) :
    codeAny (model P w) A (.call (.ref f) ⟨us, []⟩) (CR CX0 outer P w H s Q E0) s := by
  obtain ⟨c, h1, h2⟩ := hl
  obtain ⟨⟨pm, ctv, of⟩, _, _⟩ := e0.hok f _ h1
  obtain ⟨⟨oc, vv, t, hoc, hdc, hvc⟩, _, _⟩ := e0.hok c _ h2
  have lenU : us.length = N.length := by rw [← L.len vs H Q h]; exact (vals_len r).symm
  have lim : s.heap.NoLimit := e0.mod.nolimit.keeps fun b o e => (e0.bs b o e).1
  have hkind : ∀ y ∈ N.zip us, l.sc.names.lookup y.1 = some .local ∨ (l.sc.names.lookup y.1 = some .cell ∧ ((cellsFrom (s.heap.objs.size + 1) l.sc.names []).lookup y.1).isSome = true) := fun ⟨n, v⟩ hy => by
    rcases L.scope.par n (List.of_mem_zip hy).1 with q | q
    · exact .inl q
    · exact .inr ⟨q, PySem.W.cellsFrom_some _ _ _ (.inl q)⟩
  refine PySem.W.kla_callFunE hr.depth of rfl L.scope.co L.scope.gen rfl ⟨c, oc, vv, t, rfl, hoc, hdc, hvc⟩ ?_
  rw [L.binds _ _ _ _ lenU]
  refine wpAny_pure (wpAny_newFunctionEnv_cells L.scope.kind hkind fun env he s1 x => ?_)
  subst he
  refine ⟨lim.keeps x.toInCall.keep, PySem.W.kla_codeExpr ?_⟩
  obtain ⟨te, ht, hq⟩ := L.body f c A outer s H vs Q (hr.deeper _) h
  have I : Inv (cxOf CX0 P w K mg base N l.qual l.sc f (.ref c) A outer s H E0) [] (L2.start N vs) H s1 := inv_start L.scope hr.hd e0 (L.len vs H Q h) r x
  refine wpAny_mono (ht.run [] s1 (L2.start N vs) H Q I hq) (fun v s' hs => ?_) fun e s' hs => hs
  obtain ⟨w', H', J, rv, q⟩ := hs
  exact ⟨w', H', J.os, J.bare, J.base, J.hok, rv, q⟩
/-- a function of the text, or a lambda, at f -/
def OpAt (P : Program) (w : World) (K : PySem.W.Frag) (mg : Str → Option Value) (base : Heap) (k : Nat) (f : Addr) (sp : Sp) (H : Hp) : Prop :=
  Held P w K mg base k f sp ∨ ∃ l N, LamAt H f l ∧ LamOk P w K mg base (k - 1) l N sp ∧ 0 < k
theorem OpAt.ext {P : Program} {w : World} {K : PySem.W.Frag} {mg : Str → Option Value} {base : Heap} {k : Nat} {f : Addr} {sp : Sp} {H H' : Hp} (h : OpAt P w K mg base k f sp H) (e : ExtN H H') : OpAt P w K mg base k f sp H' := by
  rcases h with h | ⟨l, N, a, b, c⟩
  · exact .inl h
  · exact .inr ⟨l, N, a.ext e, b, c⟩
def tCallO (P : Program) (w : World) (K : PySem.W.Frag) (mg : Str → Option Value) (base : Heap) (k i : Nat) (t : TA) : TE := fun σ H Q => ∃ f sp, σ[i]? = some (some (.ref f)) ∧ OpAt P w K mg base k f sp H ∧ t σ H fun vs H1 => ExtN H H1 ∧ sp vs H1 Q E0
theorem pe_callO {X : Cx} {k i : Nat} {x : Str} {p pos : Pos} {e : Expr} {es : List Expr} {t : TA} (hr : Room k X.A) (hN : X.N[i]? = some x) (hv : Vis X.env.scope x) (ha : PA X (e :: es) t)
    (hdb : (x == ("__debug__" : Str)) = false := by decide) (hcd : (x == ("__classdict__" : Str)) = false := by decide)
    (he : starEach (e :: es) X.env = (false, eval e X.env) :: starEach es X.env := by rfl) (hpl : (backTo pos (starEach es X.env)).any (·.1) = false := by rfl) :
    PE X (.Call (.Name x p) (e :: es) [] pos) (tCallO X.prog X.w X.K X.mg X.base k i t) := by
  refine ⟨fun pins s σ H Q I h => ?_⟩
  obtain ⟨f, sp, hs, hO, ht⟩ := h
  rcases hO with hK | ⟨l, N, hl, hL, hk⟩
  · obtain ⟨fd, ps, F, hk, hb⟩ := hK.ex
    refine wpAny_Call_Name_kw (thn ((pe_var (pos := p) hN hv hdb hcd).run pins s σ H (fun v H1 => v = .ref f ∧ H1 = H) I ⟨.ref f, hs, rfl, rfl⟩) fun u s1 ⟨v, H1, I1, r1, q1⟩ => ?_)
    obtain ⟨rfl, rfl⟩ := q1
    cases r1
    refine PySem.W.callWith_K (h₀ := X.base) I.ok.mod.kin hk (thn (ha.run pos pins s1 σ _ _ I1 ht) fun us s2 ⟨vs, H2, I2, r, q⟩ => ⟨I2.kIn, ?_⟩) he hpl
    have q2 : sp (vs ++ []) H2 Q E0 := by
      rw [List.append_nil]
      exact q.2
    exact run_fn F hr hb .nil (fun _ _ _ _ _ _ _ z => z.elim) I2 r q2
  · obtain ⟨j, rfl⟩ : ∃ j, k = j + 1 := ⟨k - 1, by omega⟩
    refine wpAny_Call_Name_kw (thn ((pe_var (pos := p) hN hv hdb hcd).run pins s σ H (fun v H1 => v = .ref f ∧ H1 = H) I ⟨.ref f, hs, rfl, rfl⟩) fun u s1 ⟨v, H1, I1, r1, q1⟩ => ?_)
    obtain ⟨rfl, rfl⟩ := q1
    cases r1
    have fnA : ∀ {Hx : Hp} {sx : Shared}, LamAt Hx f l → Inv X pins σ Hx sx → PySem.W.FnAt f sx.heap := fun {Hx sx} z J => by
      obtain ⟨c, h1, _⟩ := z
      obtain ⟨⟨pm, ctv, of⟩, _, _⟩ := J.hok f _ h1
      exact ⟨_, _, _, _, of⟩
    refine PySem.W.callWith_F (fnA hl I1) (thn (ha.run pos pins s1 σ _ _ I1 ht) fun us s2 ⟨vs, H2, I2, r, q⟩ => ⟨fnA (hl.ext q.1) I2, ?_⟩) he hpl
    refine wpAny_call (codeAny_mono (run_lam hL (hl.ext q.1) hr I2.env0 r q.2) fun r' s3 hq => ?_)
    cases r' with
    | error e => exact hq.elim
    | ok fl =>
      cases fl with
      | ret u => exact I2.after hq
      | next => exact False.elim hq
      | brk => exact False.elim hq
      | cont => exact False.elim hq
theorem pe_callOK {X : Cx} {P : Program} {w : World} {K : PySem.W.Frag} {mg : Str → Option Value} {base : Heap} {k i : Nat} {x : Str} {p pos : Pos} {e : Expr} {es : List Expr} {t : TA} (hr : Room k X.A) (hN : X.N[i]? = some x) (hv : Vis X.env.scope x) (ha : PA X (e :: es) t)
    (h1 : X.prog = P := by rfl) (h2 : X.w = w := by rfl) (h3 : X.K = K := by rfl) (h4 : X.mg = mg := by rfl) (h5 : X.base = base := by rfl)
    (hdb : (x == ("__debug__" : Str)) = false := by decide) (hcd : (x == ("__classdict__" : Str)) = false := by decide)
    (he : starEach (e :: es) X.env = (false, eval e X.env) :: starEach es X.env := by rfl) (hpl : (backTo pos (starEach es X.env)).any (·.1) = false := by rfl) :
    PE X (.Call (.Name x p) (e :: es) [] pos) (tCallO P w K mg base k i t) := by
  subst h1 h2 h3 h4 h5
  exact pe_callO hr hN hv ha hdb hcd he hpl
/-- a def whose code object is known -/
theorem fn_cd {P : Program} {w : World} {K : PySem.W.Frag} {mg : Str → Option Value} {base : Heap} {x qual : Str} {st : Stmt} {f : Addr} {N ps : List Str} {k : Nat} {sp : Sp} {oc kV doc pm cdv ct : Value} {od an : Option Addr} {osl : Array (Option Value)}
    (lk : K.lookup f = some ⟨oc, od, .func (PySem.W.fnOf x qual (defArgs st) (defBody st) (defScope st) .none kV doc pm an cdv ct), osl⟩) (hcd : PySem.W.codeIn K cdv qual = true) (S : FnScope N ps (defScope st)) (len : ∀ vs H Q E, sp vs H Q E → vs.length = ps.length)
    (hb : ∀ (A : Around) (outer : List Env) (s : Shared) (H : Hp) (vs : List V) (Q : VK) (E : XK), Room k (A.deeper (envOfC qual (defScope st) s.heap.objs.size f cdv)) → sp vs H Q E →
      ∃ t, PSs (cxOf CX0 P w K mg base N qual (defScope st) f cdv A outer s H E).nox (defBody st) t ∧ t { nx := fun _ H' => Q .non H', rt := Q } (start N vs) H) :
    FnOk P w K mg base CX0 (k + 1) f (PySem.W.fnOf x qual (defArgs st) (defBody st) (defScope st) .none kV doc pm an cdv ct) ps sp := by
  refine fn_of lk hcd S len fun A outer s H vs Q E hr hsp => ?_
  obtain ⟨t, h, q⟩ := hb A outer s H vs Q E hr hsp
  exact ⟨t, h.nox, q⟩
theorem tabs_but {T : List (Addr × Str)} {H H' : Hp} {p : Addr} {kvs : List (Key × V)} (hp : H p = some (.dK kvs)) (e : But p H H') (t : Tabs T H) : Tabs T H' := fun x hx => by
  obtain ⟨ps, h1, h2, h3⟩ := t x hx
  refine ⟨ps, e.1 _ _ h1 (ne_of h1 hp (by intro z; cases z)), h2, fun pos cv hc => ?_⟩
  obtain ⟨c, e1, e2⟩ := h3 pos cv hc
  refine ⟨c, e1, e.1 _ _ e2 (ne_of e2 hp ?_)⟩
  intro z
  unfold CodeO at z
  cases z
end Fp

/-! trees of letters -/
namespace Fp
open PySem PySem.Spec PyProof.Rows L2
inductive Tr where
  | leaf (n : Int)
  | node (l r : Tr)
def Tr.dat : Tr → PyData
  | .leaf n => .int n
  | .node l r => .tuple [l.dat, r.dat]
def Tr.post : Tr → List (Option Int)
  | .leaf n => [some n]
  | .node l r => l.post ++ r.post ++ [none]
def Tr.lets : Tr → List Int
  | .leaf n => [n]
  | .node l r => l.lets ++ r.lets
/-- nodes of both sorts, brackets twice -/
def Tr.sz : Tr → Nat
  | .leaf _ => 1
  | .node l r => l.sz + r.sz + 2
def oD : Option Int → PyData
  | none => .none
  | some n => .int n
theorem Tr.lay : ∀ t : Tr, t.dat.canLay0 = true
  | .leaf _ => rfl
  | .node l r => by
    show (l.dat.canLay0 && (r.dat.canLay0 && true)) = true
    rw [l.lay, r.lay]
    rfl
theorem Tr.post_len : ∀ t : Tr, t.post.length ≤ t.sz
  | .leaf _ => Nat.le_refl _
  | .node l r => by
    have h1 := l.post_len
    have h2 := r.post_len
    show (l.post ++ r.post ++ [none]).length ≤ l.sz + r.sz + 2
    rw [List.length_append, List.length_append, List.length_singleton]
    omega
theorem Tr.sz_lets : ∀ t : Tr, t.sz + 2 = 3 * t.lets.length
  | .leaf _ => rfl
  | .node l r => by
    have h1 := l.sz_lets
    have h2 := r.sz_lets
    show l.sz + r.sz + 2 + 2 = 3 * (l.lets ++ r.lets).length
    rw [List.length_append]
    omega
theorem Tr.post_lets : ∀ t : Tr, t.post.filterMap id = t.lets
  | .leaf _ => rfl
  | .node l r => by
    show (l.post ++ r.post ++ [none]).filterMap id = l.lets ++ r.lets
    rw [List.filterMap_append, List.filterMap_append, l.post_lets, r.post_lets]
    exact List.append_nil _
theorem post_filter : ∀ xs : List (Option Int), (xs.filter fun x => x.isSome).map oD = (xs.filterMap id).map PyData.int
  | [] => rfl
  | none :: xs => post_filter xs
  | some n :: xs => congrArg (PyData.int n :: ·) (post_filter xs)
theorem Tr.post_mem {t : Tr} {n : Int} (h : some n ∈ t.post) : n ∈ t.lets := by
  rw [← t.post_lets]
  exact List.mem_filterMap.mpr ⟨_, h, rfl⟩
theorem Tr.lets_pos : ∀ t : Tr, 0 < t.lets.length
  | .leaf _ => Nat.one_pos
  | .node l r => by
    show 0 < (l.lets ++ r.lets).length
    rw [List.length_append]
    exact Nat.lt_of_lt_of_le l.lets_pos (Nat.le_add_right _ _)
/-! ### what waits -/
def wD : Option Tr → PyData
  | none => .none
  | some t => t.dat
def wPost : Option Tr → List (Option Int)
  | none => [none]
  | some t => t.post
def wSz : Option Tr → Nat
  | none => 1
  | some t => t.sz
def oV : Option Int → V
  | none => .non
  | some n => .int n
theorem dts_o {H : Hp} : ∀ xs : List (Option Int), Dts H (xs.map oV) (xs.map oD)
  | [] => .nil
  | none :: xs => .cons .non (dts_o xs)
  | some n :: xs => .cons (.int n) (dts_o xs)
theorem dts_split {H : Hp} : ∀ {ds es : List PyData} {vs : List V}, Dts H vs (ds ++ es) → ∃ a b, vs = a ++ b ∧ Dts H a ds ∧ Dts H b es
  | [], _, vs, h => ⟨[], vs, rfl, .nil, h⟩
  | _ :: ds, es, _, .cons h t => by
    obtain ⟨a, b, e, h1, h2⟩ := dts_split (ds := ds) t
    exact ⟨_ :: a, b, by rw [e]; rfl, .cons h h1, h2⟩
theorem Dts.one {H : Hp} {d : PyData} {vs : List V} (h : Dts H vs [d]) : ∃ v, vs = [v] ∧ Dt H v d := by
  cases h with
  | cons a b =>
    cases b
    exact ⟨_, rfl, a⟩
theorem snoc_cases {α : Type} (l : List α) : l = [] ∨ ∃ a x, l = a ++ [x] := by
  rcases List.eq_nil_or_concat l with h | ⟨a, x, h⟩
  · exact .inl h
  · exact .inr ⟨a, x, by rw [h, List.concat_eq_append]⟩
def wSum (ws : List (Option Tr)) : Nat := (ws.map wSz).sum
theorem wSum_app (a b : List (Option Tr)) : wSum (a ++ b) = wSum a + wSum b := by
  unfold wSum
  rw [List.map_append, List.sum_append]
theorem wD_post (ws : List (Option Tr)) (x : Option Tr) : (ws ++ [x]).reverse.flatMap wPost = wPost x ++ ws.reverse.flatMap wPost := by
  rw [List.reverse_append]
  rfl
def tSum (ws : List Tr) : Nat := (ws.map Tr.sz).sum
theorem tSum_app (a b : List Tr) : tSum (a ++ b) = tSum a + tSum b := by
  unfold tSum
  rw [List.map_append, List.sum_append]
theorem tSum_len : ∀ l : List Tr, l.length ≤ tSum l
  | [] => Nat.le_refl _
  | t :: l => by
    have h := tSum_len l
    have h2 : 1 ≤ t.sz := by cases t <;> exact Nat.succ_le_succ (Nat.zero_le _)
    show l.length + 1 ≤ t.sz + tSum l
    omega
theorem lay_trees : ∀ ws : List Tr, PyData.canLayAll0 (ws.map Tr.dat) = true
  | [] => rfl
  | t :: ws => by
    show (t.dat.canLay0 && PyData.canLayAll0 (ws.map Tr.dat)) = true
    rw [t.lay, lay_trees ws]
    rfl
theorem snoc_lets (ws : List Tr) (x : Tr) : (ws ++ [x]).reverse.flatMap Tr.lets = x.lets ++ ws.reverse.flatMap Tr.lets := by
  rw [List.reverse_append]
  rfl
theorem split2 {α : Type} : ∀ (l : List α) (i : Nat), i + 1 < l.length → ∃ a x y b, l = a ++ x :: y :: b ∧ a.length = i
  | [], _, h => absurd h (Nat.not_lt_zero _)
  | [_], i, h => absurd h (by simp)
  | x :: y :: b, 0, _ => ⟨[], x, y, b, rfl, rfl⟩
  | z :: l, i + 1, h => by
    obtain ⟨a, x, y, b, e, ea⟩ := split2 l i (Nat.lt_of_succ_lt_succ h)
    exact ⟨z :: a, x, y, b, by rw [e]; rfl, by rw [← ea]; rfl⟩
theorem cut_from (xs : List V) (k : Nat) : cutV xs (some (k : Int)) none = xs.drop k := by
  unfold cutV
  rw [HT.sIx_none, show HT.sIx xs.length 0 (some (k : Int)) = min k xs.length from HT.sIx_nat _ _ k]
  rcases Nat.le_total k xs.length with h | h
  · rw [Nat.min_eq_left h, List.take_of_length_le (by rw [List.length_drop]; exact Nat.le_refl _)]
  · rw [Nat.min_eq_right h, List.drop_of_length_le h, List.drop_of_length_le (Nat.le_refl _)]
    exact List.take_nil
theorem dts_cons {H : Hp} {d : PyData} {ds : List PyData} {vs : List V} (h : Dts H vs (d :: ds)) : ∃ v ws, vs = v :: ws ∧ Dt H v d ∧ Dts H ws ds := by
  cases h with
  | cons a b => exact ⟨_, _, rfl, a, b⟩
theorem cut_last (xs : List V) (x : V) : cutV (xs ++ [x]) none (some (-1)) = xs := by
  unfold cutV
  have e : HT.sIx (xs ++ [x]).length (xs ++ [x]).length (some (-1)) = xs.length := by
    show (if (-1 : Int) < 0 then ((-1 : Int) + ((xs ++ [x]).length : Int)).toNat else min (-1 : Int).toNat (xs ++ [x]).length) = _
    rw [if_pos (by decide), List.length_append, List.length_singleton]
    omega
  rw [HT.sIx_none, e]
  show List.take (xs.length - 0) (xs ++ [x]) = xs
  rw [Nat.sub_zero]
  exact List.take_left
/-! ### put together again -/
def reb : List (Option Int) → List Tr → Option (List Tr)
  | [], s => some s
  | some n :: xs, s => reb xs (.leaf n :: s)
  | none :: xs, r :: l :: s => reb xs (.node l r :: s)
  | none :: _, _ => none
theorem reb_post : ∀ (t : Tr) (xs : List (Option Int)) (s : List Tr), reb (t.post ++ xs) s = reb xs (t :: s)
  | .leaf _, _, _ => rfl
  | .node l r, xs, s => by
    show reb (l.post ++ r.post ++ [none] ++ xs) s = _
    rw [List.append_assoc, List.append_assoc, reb_post l, reb_post r]
    rfl
def lvs (s : List Tr) : Nat := (s.map fun t => t.lets.length).sum
theorem reb_lvs : ∀ (xs : List (Option Int)) (s s' : List Tr), reb xs s = some s' → lvs s ≤ lvs s'
  | [], s, s', h => by
    cases h
    exact Nat.le_refl _
  | some n :: xs, s, s', h => by
    have := reb_lvs xs (.leaf n :: s) s' h
    have e : lvs (.leaf n :: s) = 1 + lvs s := rfl
    omega
  | none :: xs, [], s', h => nomatch h
  | none :: xs, [_], s', h => nomatch h
  | none :: xs, r :: l :: s, s', h => by
    have := reb_lvs xs (.node l r :: s) s' h
    have e : lvs (.node l r :: s) = (l.lets ++ r.lets).length + lvs s := rfl
    have e2 : lvs (r :: l :: s) = r.lets.length + (l.lets.length + lvs s) := rfl
    rw [List.length_append] at e
    omega
/-! ### behind a lambda's making -/
mutual
theorem Dt.ext {H H' : Hp} (e : LamX.ExtN H H') : ∀ {d : PyData} {v : V}, Dt H v d → Dt H' v d
  | .none, _, .non => .non
  | .bool _, _, .bl b => .bl b
  | .int _, _, .int i => .int i
  | .str _, _, .str x => .str x
  | .list ds, _, .lst h t => .lst (e _ _ h (by intro ps z; cases z)) (Dts.ext e t)
  | .tuple ds, _, .tup h t => .tup (e _ _ h (by intro ps z; cases z)) (Dts.ext e t)
theorem Dts.ext {H H' : Hp} (e : LamX.ExtN H H') : ∀ {ds : List PyData} {vs : List V}, Dts H vs ds → Dts H' vs ds
  | [], _, .nil => .nil
  | _ :: _, _, .cons h t => .cons (Dt.ext e h) (Dts.ext e t)
end
theorem PenOk.ext {H H' : Hp} {p c : Addr} {t : Nat} (h : PenOk H p c t) (e : LamX.ExtN H H') : PenOk H' p c t := by
  obtain ⟨cells, turn, left, h1, h2, h3⟩ := h.ex
  exact ⟨cells, turn, left, e _ _ h1 (by intro ps z; cases z), e _ _ h2 (by intro ps z; cases z), h3⟩
theorem rng_at {m : Nat} {fv : V → V} {n : Int} (h0 : 0 ≤ n) (h1 : n < (m : Int)) : (((rngV 0 m).filter fun _ => true).map fv)[n.toNat]? = some (fv (.int n)) := by
  rw [List.filter_eq_self.mpr (fun _ _ => rfl), List.getElem?_map, rngV_at (by omega)]
  show some (fv (V.int (0 + (n.toNat : Int)))) = _
  rw [show (0 : Int) + (n.toNat : Int) = n by omega]
theorem rng_mem {m : Nat} {x : V} (h : x ∈ rngV 0 m) : ∃ i : Nat, i < m ∧ x = .int (i : Int) := by
  obtain ⟨i, hi, e⟩ := List.mem_map.mp h
  exact ⟨i, List.mem_range.mp hi, by rw [← e, Int.zero_add]⟩
/-! ### texts -/
theorem es_eq : (Str.ofString "") = Str.empty := by decide +kernel
theorem es_app (a : Str) : (Str.ofString "") ++ a = a := by rw [es_eq]; exact Str.empty_append a
theorem app_es (a : Str) : a ++ (Str.ofString "") = a := by rw [es_eq]; exact Str.append_empty a
def Tr.txt : Tr → Str
  | .leaf n => Str.ofString (toString n) ++ "."
  | .node l r => "(" ++ l.txt ++ r.txt ++ ")"
def wT : Option Tr → Str
  | none => ")"
  | some t => t.txt
def wTs : List (Option Tr) → Str
  | [] => ""
  | x :: xs => wT x ++ wTs xs
def wDs : Option Tr → PyData
  | none => .str ")"
  | some t => t.dat
theorem lay_ws : ∀ ws : List (Option Tr), PyData.canLayAll0 (ws.map wDs) = true
  | [] => rfl
  | none :: ws => by
    have h : (PyData.str ")").canLay0 = true := by decide +kernel
    show ((PyData.str ")").canLay0 && PyData.canLayAll0 (ws.map wDs)) = true
    rw [h, lay_ws ws]
    rfl
  | some t :: ws => by
    show (t.dat.canLay0 && PyData.canLayAll0 (ws.map wDs)) = true
    rw [t.lay, lay_ws ws]
    rfl
theorem num_len {n : Int} (h0 : 0 ≤ n) (h1 : n < 100) : (Str.ofString (toString n)).length ≤ 2 := by
  obtain ⟨m, rfl⟩ : ∃ m : Nat, n = m := ⟨n.toNat, by omega⟩
  rw [TL.len_tl, TL.tl_num]
  exact TL.numL_len (by decide) (by omega)
theorem num_log {n : Int} (h0 : 0 ≤ n) (h1 : n < 100) : n.natAbs.log2 < 1920 := by
  have h := Nat.log2_le_self n.natAbs
  omega
theorem Tr.txt_len : ∀ t : Tr, (∀ n ∈ t.lets, 0 ≤ n ∧ n < 100) → t.txt.length + 2 ≤ 8 * t.lets.length
  | .leaf n, h => by
    obtain ⟨h0, h1⟩ := h n (List.mem_singleton.mpr rfl)
    have := num_len h0 h1
    show (Str.ofString (toString n) ++ ".").length + 2 ≤ 8 * 1
    rw [Str.length_append]
    have e : ("." : Str).length = 1 := rfl
    omega
  | .node l r, h => by
    have h1 := l.txt_len fun n hn => h n (List.mem_append_left _ hn)
    have h2 := r.txt_len fun n hn => h n (List.mem_append_right _ hn)
    show ("(" ++ l.txt ++ r.txt ++ ")").length + 2 ≤ 8 * (l.lets ++ r.lets).length
    rw [Str.length_append, Str.length_append, Str.length_append, List.length_append]
    have e1 : ("(" : Str).length = 1 := rfl
    have e2 : (")" : Str).length = 1 := rfl
    omega
def spText : Sp := fun vs H Q _ => ∃ v t, vs = [v] ∧ Dt H v t.dat ∧ Tr.sz t ≤ 10000 ∧ (∀ n ∈ t.lets, 0 ≤ n ∧ n < 100) ∧ ∀ H', Same H H' → Q (.str t.txt) H'
def rStr (n : Nat) (x : V) : Prop := ∃ z, x = .str z ∧ z.length + 2 ≤ 8 * n
def gJoin : V → V → V
  | .str a, .str b => .str ("(" ++ a ++ b ++ ")")
  | _, _ => .non
theorem gJoin_ok (n m : Nat) (x y : V) (h1 : rStr n x) (h2 : rStr m y) : rStr (n + m) (gJoin x y) := by
  obtain ⟨a, rfl, ha⟩ := h1
  obtain ⟨b, rfl, hb⟩ := h2
  refine ⟨_, rfl, ?_⟩
  rw [Str.length_append, Str.length_append, Str.length_append]
  have e1 : ("(" : Str).length = 1 := rfl
  have e2 : (")" : Str).length = 1 := rfl
  omega
/-! ### values -/
def Tr.ev (vals : List V) (g : V → V → V) : Tr → V
  | .leaf n => vals.getD n.toNat .non
  | .node l r => g (l.ev vals g) (r.ev vals g)
/-- an operation on values that are no objects; R n: a value of n letters -/
def spOpn (N : Nat) (R : Nat → V → Prop) (g : V → V → V) : Sp := fun vs H Q _ => ∃ x y n m, vs = [x, y] ∧ R n x ∧ R m y ∧ n + m ≤ N ∧ ∀ H', Same H H' → Q (g x y) H'
def spTurn : Sp := fun vs H Q _ => ∃ v t, vs = [v] ∧ Dt H v t.dat ∧ Tr.sz t ≤ 10000 ∧ ∀ a H', H a = none → Same H H' → Dt H' (.ref a) (.list (t.post.map oD)) → Q (.ref a) H'
def spLets : Sp := fun vs H Q _ => ∃ v t, vs = [v] ∧ Dt H v t.dat ∧ Tr.sz t ≤ 10000 ∧ ∀ a H', H a = none → Same H H' → Dt H' (.ref a) (.list (t.lets.map PyData.int)) → Q (.ref a) H'
def spVal (P : Program) (w : World) (K : PySem.W.Frag) (mg : Str → Option Value) (base : Heap) (k : Nat) : Sp := fun vs H Q _ => ∃ v a f t vals g R N, vs = [v, .ref a, .ref f] ∧ Dt H v t.dat ∧ Tr.sz t ≤ 10000 ∧ H a = some (.lst vals) ∧ OpAt P w K mg base k f (spOpn N R g) H ∧
  (∀ n m x y, R n x → R m y → R (n + m) (g x y)) ∧ (∀ n ∈ t.lets, 0 ≤ n ∧ ∃ x, vals[n.toNat]? = some x ∧ R 1 x) ∧ t.lets.length ≤ N ∧ ∀ H', Same H H' → Q (t.ev vals g) H'
def spPick : Sp := fun vs H Q _ => ∃ p c o t ds, vs = [.ref p, o] ∧ PenOk H p c t ∧ t ≤ 900000000 ∧ Dt H o (.list ds) ∧ 0 < ds.length ∧ ds.length ≤ 900 ∧ ∀ v H' d, d ∈ ds → Dt H' v d → PenOk H' p c (t + 1) → But p H H' → Q v H'
theorem ev_txt {vals : List V} : ∀ t : Tr, (∀ n ∈ t.lets, vals[n.toNat]? = some (.str (Str.ofString (toString n) ++ "."))) → t.ev vals gJoin = .str t.txt
  | .leaf n, h => by
    show vals.getD n.toNat .non = _
    rw [List.getD_eq_getElem?_getD, h n (List.mem_singleton.mpr rfl)]
    rfl
  | .node l r, h => by
    show gJoin (l.ev vals gJoin) (r.ev vals gJoin) = _
    rw [ev_txt l fun n hn => h n (List.mem_append_left _ hn), ev_txt r fun n hn => h n (List.mem_append_right _ hn)]
    rfl
/-! sums, the first letter -/
def rInt (_ : Nat) (x : V) : Prop := ∃ i, x = .int i
def gAdd : V → V → V
  | .int a, .int b => .int (a + b)
  | _, _ => .non
def gFst : V → V → V := fun x _ => x
theorem ev_sum {vals : List V} (nm : Int → Int) : ∀ t : Tr, (∀ n ∈ t.lets, vals[n.toNat]? = some (.int (nm n))) → t.ev vals gAdd = .int (t.lets.map nm).sum
  | .leaf n, h => by
    show vals.getD n.toNat .non = .int (nm n + 0)
    rw [List.getD_eq_getElem?_getD, h n (List.mem_singleton.mpr rfl), Int.add_zero]
    rfl
  | .node l r, h => by
    show gAdd (l.ev vals gAdd) (r.ev vals gAdd) = .int ((l.lets ++ r.lets).map nm).sum
    rw [ev_sum nm l fun n hn => h n (List.mem_append_left _ hn), ev_sum nm r fun n hn => h n (List.mem_append_right _ hn), List.map_append, List.sum_append_int]
    rfl
theorem ev_fst {vals : List V} : ∀ t : Tr, ∃ n, t.lets[0]? = some n ∧ t.ev vals gFst = vals.getD n.toNat .non
  | .leaf n => ⟨n, rfl, rfl⟩
  | .node l r => by
    obtain ⟨n, h1, h2⟩ := ev_fst (vals := vals) l
    refine ⟨n, ?_, h2⟩
    show (l.lets ++ r.lets)[0]? = some n
    rw [List.getElem?_append_left l.lets_pos]
    exact h1
/-- bracketed at drawn places -/
def spBrk : Sp := fun vs H Q _ => ∃ p c v t ns, vs = [.ref p, v] ∧ PenOk H p c t ∧ t ≤ 800000000 ∧ Dt H v (.list (ns.map PyData.int)) ∧ 0 < ns.length ∧ ns.length ≤ 300 ∧
  ∀ (v' : V) (H' : Hp) (b : Tr), b.lets = ns → Dt H' v' b.dat → PenOk H' p c (t + ns.length) → But p H H' → Q v' H'
def spComb : Sp := fun vs H Q _ => ∃ (v : V) (way : Int) (ns : List Int), vs = [v, .int way] ∧ Dt H v (.list (ns.map PyData.int)) ∧ 0 < ns.length ∧ ns.length ≤ 1000 ∧ ∀ (v' : V) (H' : Hp) (b : Tr), b.lets = ns → Same H H' → Dt H' v' b.dat → Q v' H'
end Fp

namespace Fp
open PySem PySem.Spec PyProof.Rows L2
local macro_rules | `(tactic| walk_at "rd") => `(tactic| simp only [cxK, cxKn, tRet, tRetN, rIntI, rIntB, rLenL, rListL, rListT, rAbs, tDisp, tPairs, tC, tCB, tCons, tNil, tSl, tVar, tNoPart, tPart, rSlL, tOp, tAsg, gName, tIfS, tDrop, tTest, tAnd, tOr, Evl.tCut, tNot, tB, rI0, rI, rIxL, rIxT, rIxD, tDGet, sDPut, tLst, tTup, tBM, tBM0, tPar, rAppend, rPopAt, rPop, rExtend, rTupL, tCall, tNext, rAll, rOwnIn, rOwn2, rCat, lc_iL, lc_iT, lc_iK, lc_iR, fr_iL, fr_iT, fr_iR, tYes, rIn, rEq, rNe, gTup, gCons, gNil, wipe, tMeth, tFld, sFld, tMake, tProp, tIf, tAndV, tOrV, tNotV, tTru, rIsi, rSum, tRevL, rU, tUn, if_true, if_false, Bool.false_eq_true, List.map_cons, List.map_nil, List.nil_append, List.append_nil, List.cons_append, List.getElem?_cons_zero, List.getElem?_cons_succ, Option.some.injEq, exists_and_left, exists_eq_left', exists_eq_left, List.cons.injEq, and_true, true_and, V.ref.injEq, V.int.injEq, V.str.injEq, V.bl.injEq, List.set_cons_zero, List.set_cons_succ])
def topS (i : Nat) : Stmt := PySem.Challenge.pw_foldplans_k30_letters_and_values.main.body.getD i (.Pass ⟨0, 0, 0, 0⟩)
section
variable {K : PySem.W.Frag} {P : Program} {w : World} {base : Heap} {mg : Str → Option Value} {aR aD C : Addr} {T : Nat → Addr}
abbrev s__law_pen : Stmt := topS 5
theorem sc__law_pen : FnScope ["script"] ["script"] (defScope s__law_pen) := ⟨rfl, rfl, rfl, by decide +kernel, rfl, by decide +kernel, by decide +kernel⟩
theorem ok_pen {f : Addr} {fd : FuncData} (F : Fun K "_law_pen" "_law_pen" s__law_pen f fd) (m_list : mg "list" = none) : FnOk P w K mg base CX0 1 f fd ["script"] (spPen K) := by
  refine F.ok sc__law_pen (fun vs H Q E h => ?_) (fun cdv A outer s H vs Q E hr h => ?_)
  · obtain ⟨a, ns, rfl, _⟩ := h
    rfl
  · obtain ⟨a, ns, rfl, hS, hlen, q⟩ := h
    refine ⟨_, (pss_one (ps_ret (pe_disp (pps_cons pe_str (pe_callTy call_listL (by rfl) m_list (by decide +kernel) (pa_cons (pe_slice sl_list (pv 0) po_none (po_some pe_int)) pa_nil)) (pps_cons pe_str pe_int (pps_cons pe_str pe_int pps_nil))) rfl rfl (by simp) (by decide)))), ?_⟩
    show tRet _ _ [some (.ref a)] H
    walk_at "rd"
    intro p hp
    refine ⟨_, (same_new hp).seq hS, fun c hc => ⟨_, .inl (.inl upd_same), fun l hl => ⟨?_, penK l 0 0, rfl, (show 3 ≤ 15 by decide), ?_⟩⟩⟩
    · have h1 : p ≠ l := ne_of_none (show upd (upd H p (.dK [])) c _ p = some _ by rw [upd_ne (ne_of_none upd_same hc), upd_same]) hl
      rw [upd_ne h1, upd_ne (ne_of_none upd_same hc), upd_same]
    · refine q _ p l hp ?_ ⟨ns.take 63, 0, 0, upd_same, ?_, ?_, by decide, by decide⟩
      · exact Same.mut (Same.new (Same.new (same_new hp) hc) hl) hp
      · have h1 : p ≠ l := ne_of_none (show upd (upd H p (.dK [])) c _ p = some _ by rw [upd_ne (ne_of_none upd_same hc), upd_same]) hl
        rw [upd_ne h1.symm, upd_same, show (63 : Int) = ((63 : Nat) : Int) from rfl, cut_to, List.map_take]
      · rw [List.length_take]; omega
abbrev s__law_draw : Stmt := topS 6
theorem sc__law_draw : FnScope ["pen", "span", "digit", "turn", "cell", "mixed"] ["pen", "span"] (defScope s__law_draw) := ⟨rfl, rfl, rfl, by decide +kernel, rfl, by decide +kernel, by decide +kernel⟩
theorem ok_draw {f : Addr} {fd : FuncData} (F : Fun K "_law_draw" "_law_draw" s__law_draw f fd) (m_int : mg "int" = none) (m_len : mg "len" = none) (m_abs : mg "abs" = none) : FnOk P w K mg base CX0 1 f fd ["pen", "span"] spDraw := by
  refine F.ok sc__law_draw (fun vs H Q E h => ?_) (fun cdv A outer s H vs Q E hr h => ?_)
  · obtain ⟨p, c, span, t, rfl, _⟩ := h
    rfl
  · obtain ⟨p, c, span, t, rfl, hP, ht, hs0, hs1, q⟩ := h
    have hu := hu_of hr
    have hu64 := hr.units
    refine ⟨_, (pss_cons (ps_if (pt_cmpR op_gt (pe_dget hu (pv 0) pe_str (fun _ _ => rfl)) pe_int (nomark _))
      (pss_cons (ps_set (i := 2) sc__law_draw.nd rfl (.inl rfl) (pe_op op_mod (pe_callTy call_intI (by rfl) m_int (by decide +kernel) (pa_cons (pe_dget hu (pv 0) pe_str (fun _ _ => rfl)) pa_nil)) (pv 1)))
        (pss_cons (ps_dput hu (pv 0) pe_str (pe_op op_fdivW (pe_dget hu (pv 0) pe_str (fun _ _ => rfl)) (pv 1)) rfl)
        (pss_one (ps_ret (pv 2)))))
      pss_nil)
    (pss_cons (ps_set (i := 3) sc__law_draw.nd rfl (.inl rfl) (pe_dget hu (pv 0) pe_str (fun _ _ => rfl)))
    (pss_cons (ps_dput hu (pv 0) pe_str (pe_op op_add (pv 3) pe_int) rfl)
    (pss_cons (ps_set (i := 4) sc__law_draw.nd rfl (.inl rfl) (pe_op op_add (pe_op op_mul pe_int (pv 3)) pe_int))
    (Evl.pss_cut (ps_if (pt_cmpR (op_neD hu64) (pe_dget hu (pv 0) pe_str (fun _ _ => rfl)) (pe_lst pa_nil) (nomark _))
      (pss_one (ps_set (i := 4) sc__law_draw.nd rfl (.inl rfl) (pe_ix ix_list (pe_dget hu (pv 0) pe_str (fun _ _ => rfl)) (pe_op op_mod (pe_callTy call_intI (by rfl) m_int (by decide +kernel) (pa_cons (pv 3) pa_nil)) (pe_callB call_lenL (by rfl) m_len PySem.boot_len (pa_cons (pe_dget hu (pv 0) pe_str (fun _ _ => rfl)) pa_nil))) (fun _ _ => rfl))))
      pss_nil)
    (pss_cons (ps_if (PW.pt (pw_and (pt_cmpR op_lt (pv 3) (pe_callB call_lenL (by rfl) m_len PySem.boot_len (pa_cons (pe_dget hu (pv 0) pe_str (fun _ _ => rfl)) pa_nil)) (nomark _)) (pw_and1 (pt_cmpR op_ge (pe_callB call_absI (by rfl) m_abs (by decide +kernel) (pa_cons (pv 4) pa_nil)) (pe_op op_pow pe_int pe_int) (nomark _)))))
      (pss_cons (ps_dput hu (pv 0) pe_str (pe_op op_fdivW (pe_op op_sub (pe_callB call_absI (by rfl) m_abs (by decide +kernel) (pa_cons (pv 4) pa_nil)) (pe_op op_pow pe_int pe_int)) (pv 1)) rfl)
        (pss_one (ps_ret (pe_op op_mod (pe_callTy call_intI (by rfl) m_int (by decide +kernel) (pa_cons (pe_op op_sub (pe_callB call_absI (by rfl) m_abs (by decide +kernel) (pa_cons (pv 4) pa_nil)) (pe_op op_pow pe_int pe_int)) pa_nil)) (pv 1)))))
      pss_nil)
    (pss_cons (ps_set (i := 5) sc__law_draw.nd rfl (.inl rfl) (pe_op op_mul (pe_op op_mod (pe_callTy call_intI (by rfl) m_int (by decide +kernel) (pa_cons (pv 4) pa_nil)) pe_int) pe_int))
    (pss_cons (ps_set (i := 5) sc__law_draw.nd rfl (.inl rfl) (pe_op op_mod (pe_callTy call_intI (by rfl) m_int (by decide +kernel) (pa_cons (pe_op op_add (pe_op op_add (pv 5) (pe_op op_mul (pv 3) (pe_op op_add (pe_op op_mul (pv 3) pe_int) pe_int))) pe_int) pa_nil)) pe_int))
    (pss_cons (ps_set (i := 5) sc__law_draw.nd rfl (.inl rfl) (pe_op op_mod (pe_callTy call_intI (by rfl) m_int (by decide +kernel) (pa_cons (pe_op op_mul (pv 5) (pe_op op_add (pv 5) pe_int)) pa_nil)) pe_int))
    (pss_cons (ps_set (i := 5) sc__law_draw.nd rfl (.inl rfl) (pe_op op_mod (pe_callTy call_intI (by rfl) m_int (by decide +kernel) (pa_cons (pe_op op_add (pe_op op_add (pe_op op_mul (pv 5) (pv 5)) (pe_op op_mul pe_int (pv 5))) (pe_op op_mul pe_int (pv 3))) pa_nil)) pe_int))
    (pss_one (ps_ret (pe_op op_mod (pe_callTy call_intI (by rfl) m_int (by decide +kernel) (pa_cons (pe_op op_fdivW (pe_op op_mod (pe_callTy call_intI (by rfl) m_int (by decide +kernel) (pa_cons (pe_op op_mul (pv 5) (pe_op op_add (pv 5) pe_int)) pa_nil)) pe_int) pe_int) pa_nil)) (pv 1)))))))))))))), ?_⟩
    show tSeq _ _ _ [some (.ref p), some (.int span), none, none, none, none] H
    obtain ⟨cells, turn, left, h1, h2, h3, h4, h5⟩ := hP.ex
    have hmul : ∀ x : Int, 0 ≤ x → x < 4294967296 → ∀ y, CMul x y := fun x h0 h1 y => .inl ⟨by omega, by omega⟩
    refine seqi fun k hk => ?_
    walk_at "rd"
    refine dg_s h1 (pen_left _ _ _) ⟨_, rfl, ite2 (fun hl => ?_) (fun hl => ?_)⟩
    · refine seqi fun k hk => ?_
      walk_at "rd"
      refine dg_s h1 (pen_left _ _ _) ⟨_, rfl, hs0, ?_⟩
      subst hk
      refine seqi fun k hk => ?_
      walk_at "rd"
      refine dg_s h1 (pen_left _ _ _) ⟨_, rfl, ⟨hs0, hs1⟩, ?_⟩
      refine dp_s h1 (pen_len _ _ _) ?_
      rw [pen_putL]
      subst hk
      walk_at "rd"
      refine q _ _ (Int.emod_nonneg _ (by omega)) (Int.emod_lt_of_pos _ hs0) ⟨cells, turn, _, upd_same, ?_, h3, h4, by omega⟩ ⟨fun b o hb n => by rw [upd_ne n]; exact hb, fun _ => by rw [upd_same]; intro z; cases z⟩
      rw [upd_ne (ne_of h2 h1 (by intro z; cases z))]
      exact h2
    · subst hk
      refine seqi fun k hk => ?_
      walk_at "rd"
      refine dg_s h1 (pen_turn _ _ _) ?_
      subst hk
      refine seqi fun k hk => ?_
      walk_at "rd"
      refine dp_s h1 (pen_len _ _ _) ?_
      rw [pen_putT]
      have b1 : But p H (upd H p (.dK (penK c (turn + 1) left))) := ⟨fun b o hb n => by rw [upd_ne n]; exact hb, fun _ => by rw [upd_same]; intro z; cases z⟩
      have h1' : (upd H p (.dK (penK c (turn + 1) left))) p = some (.dK (penK c (turn + 1) left)) := upd_same
      have h2' : (upd H p (.dK (penK c (turn + 1) left))) c = some (.lst (cells.map V.int)) := by
        rw [upd_ne (ne_of h2 h1 (by intro z; cases z))]
        exact h2
      revert h1' h2' b1
      generalize (upd H p (.dK (penK c (turn + 1) left))) = H1
      intro b1 h1' h2'
      subst hk
      refine seqi fun k hk => ?_
      walk_at "rd"
      subst hk
      refine ⟨.inl ⟨by decide, by decide⟩, fun σ' H' => ∃ cell : Int, σ' = [some (.ref p), some (.int span), none, some (.int turn), some (.int cell), none] ∧ Same H1 H', ?_, ?_⟩
      · walk_at "rd"
        refine dg_s h1' (pen_cells _ _ _) ⟨Nat.zero_le _, fun d hd => ?_⟩
        have s2 : Same H1 (upd H1 d (.lst [])) := same_new hd
        have hc : SqL K (upd H1 d (.lst [])) c (cells.map V.int) := .inl (.inl (s2 _ _ h2'))
        refine ne_nil hc (dp_ints _ _ _) (shaped_ints _) upd_same ⟨_, rfl, ite2 (fun hn => ?_) (fun hn => ?_)⟩
        · have h0 : cells ≠ [] := fun z => by
            subst z
            exact absurd hn (by decide)
          obtain ⟨v, hv⟩ := ix_mod (ns := cells) (t := turn) h0
          have hl0 : (0 : Int) < ((cells.map V.int).length : Nat) := by
            rw [List.length_map]
            cases cells with
            | nil => exact absurd rfl h0
            | cons x r => show (0 : Int) < ((r.length + 1 : Nat) : Int); omega
          exact dg_s (s2 _ _ h1') (pen_cells _ _ _) (dg_s (s2 _ _ h1') (pen_cells _ _ _) ⟨_, rfl, _, hc, hl0, _, rfl, _, hc, _, hv, _, rfl, s2⟩)
        · exact s2
      · rintro σ' H2 ⟨cell, rfl, s2⟩
        have h1'' := s2 _ _ h1'
        have h2'' := s2 _ _ h2'
        have b2 : But p H H2 := b1.trans (But.of s2)
        refine seqi fun k hk => ?_
        have go : k [some (V.ref p), some (V.int span), none, some (V.int turn), some (V.int cell), none] H2 := by
          subst hk
          refine seqi fun k hk => ?_
          walk_at "rd"
          refine ⟨by decide, .inr ⟨by decide, by decide⟩, ?_⟩
          subst hk
          refine seqi fun k hk => ?_
          walk_at "rd"
          refine ⟨.inr ⟨by decide, by decide⟩, .inl ⟨by omega, by omega⟩, by decide, ?_⟩
          generalize hm : (_ : Int) % 4294967029 = m
          have m0 : 0 ≤ m := by rw [← hm]; exact Int.emod_nonneg _ (by decide)
          have m1 : m < 4294967296 := by have := Int.emod_lt_of_pos (cell % 4294967087 * 48611 + turn * (turn * 27919 + 10601) + 41) (show (0 : Int) < 4294967029 by decide); omega
          clear hm
          subst hk
          refine seqi fun k hk => ?_
          walk_at "rd"
          refine ⟨hmul _ m0 m1 _, by decide, ?_⟩
          obtain ⟨m2, hm2⟩ : ∃ m2, m * (m + 75013) % 4294966997 = m2 := ⟨_, rfl⟩
          have m3 : 0 ≤ m2 := by rw [← hm2]; exact Int.emod_nonneg _ (by decide)
          have m4 : m2 < 4294967296 := by have := Int.emod_lt_of_pos (m * (m + 75013)) (show (0 : Int) < 4294966997 by decide); omega
          rw [hm2]
          subst hk
          refine seqi fun k hk => ?_
          walk_at "rd"
          refine ⟨hmul _ m3 m4 _, .inl ⟨by decide, by decide⟩, .inl ⟨by decide, by decide⟩, by decide, ?_⟩
          obtain ⟨m5, hm5⟩ : ∃ m5, (m2 * m2 + 30427 * m2 + 19 * turn) % 4294966981 = m5 := ⟨_, rfl⟩
          have m6 : 0 ≤ m5 := by rw [← hm5]; exact Int.emod_nonneg _ (by decide)
          have m7 : m5 < 4294967296 := by have := Int.emod_lt_of_pos (m2 * m2 + 30427 * m2 + 19 * turn) (show (0 : Int) < 4294966981 by decide); omega
          rw [hm5]
          subst hk
          walk_at "rd"
          refine ⟨hmul _ m6 m7 _, by decide, ⟨by decide, by decide⟩, hs0, ?_⟩
          exact q _ _ (Int.emod_nonneg _ (by omega)) (Int.emod_lt_of_pos _ hs0) ⟨cells, turn + 1, left, h1'', h2'', h3, by omega, by omega⟩ b2
        walk_at "rd"
        refine dg_s h1'' (pen_cells _ _ _) ⟨_, rfl, _, .inl (.inl h2''), ite2 (fun ht => ?_) (fun ht => go)⟩
        refine ⟨⟨by decide, by decide, by decide⟩, ite2 (fun hge => ?_) (fun hge => go)⟩
        clear go
        refine seqi fun k2 hk2 => ?_
        walk_at "rd"
        refine ⟨⟨by decide, by decide, by decide⟩, ⟨hs0, hs1⟩, dp_s h1'' (pen_len _ _ _) ?_⟩
        rw [pen_putL]
        subst hk2
        walk_at "rd"
        refine ⟨⟨by decide, by decide, by decide⟩, hs0, ?_⟩
        refine q _ _ (Int.emod_nonneg _ (by omega)) (Int.emod_lt_of_pos _ hs0) ⟨cells, turn + 1, _, upd_same, ?_, h3, by omega, by omega⟩ (b2.trans ⟨fun b o hb n => by rw [upd_ne n]; exact hb, fun _ => by rw [upd_same]; intro z; cases z⟩)
        rw [upd_ne (ne_of h2'' h1'' (by intro z; cases z))]
        exact h2''
abbrev s__law_pick : Stmt := topS 7
theorem sc__law_pick : FnScope ["pen", "options"] ["pen", "options"] (defScope s__law_pick) := ⟨rfl, rfl, rfl, by decide +kernel, rfl, by decide +kernel, by decide +kernel⟩
theorem ok_pick {f : Addr} {fd : FuncData} (F : Fun K "_law_pick" "_law_pick" s__law_pick f fd) (D_law_draw : Dn P w K mg base 1 "_law_draw" ["pen", "span"] spDraw) (m_len : mg "len" = none) : FnOk P w K mg base CX0 2 f fd ["pen", "options"] spPick := by
  refine F.ok sc__law_pick (fun vs H Q E h => ?_) (fun cdv A outer s H vs Q E hr h => ?_)
  · obtain ⟨p, c, o, t, ds, rfl, _⟩ := h
    rfl
  · obtain ⟨p, c, o, t, ds, rfl, hP, ht, ho, h0, hl, q⟩ := h
    obtain ⟨ao, xs, rfl, hao, hxs⟩ := ho.list
    obtain ⟨kvs, hpk⟩ := hP.dict
    refine ⟨_, (pss_one (ps_ret (pe_ix (ix_listK K) (pv 1) (pd D_law_draw (hr.mono (by decide)) (by rfl) (pa_cons (pv 0) (pa_cons (pe_callB (call_lenK K) (by rfl) m_len PySem.boot_len (pa_cons (pv 1) pa_nil)) pa_nil))) (fun _ _ => rfl)))), ?_⟩
    show tRet _ _ [some (.ref p), some (.ref ao)] H
    have lx := hxs.len
    walk_at "rd"
    refine ⟨_, .inl (.inl hao), p, c, _, t, rfl, hP, by omega, by omega, lg_small (by omega), fun r H2 r0 r1 P2 b2 => ?_⟩
    obtain ⟨j, rfl⟩ : ∃ j : Nat, r = j := ⟨r.toNat, by omega⟩
    have hj : j < ds.length := by omega
    obtain ⟨v, hv, hd⟩ := hxs.get (List.getElem?_eq_getElem hj)
    exact ⟨_, _, rfl, .inl (.inl (b2.1 _ _ hao (ne_of hao hpk (by intro z; cases z)))), _, atI_nat (j := j) hv, q _ _ _ (List.getElem_mem hj) (hd.but hpk b2) P2 b2⟩
abbrev s__in_turn : Stmt := topS 1
theorem sc__in_turn : FnScope ["tree", "found", "waiting", "part", "left", "right"] ["tree"] (defScope s__in_turn) := ⟨rfl, rfl, rfl, by decide +kernel, rfl, by decide +kernel, by decide +kernel⟩
theorem ok_turn {f : Addr} {fd : FuncData} (F : Fun K "_in_turn" "_in_turn" s__in_turn f fd) (m_isinstance : mg "isinstance" = none) (m_tuple : mg "tuple" = none) : FnOk P w K mg base CX0 1 f fd ["tree"] spTurn := by
  refine F.ok sc__in_turn (fun vs H Q E h => ?_) (fun cdv A outer s H vs Q E hr h => ?_)
  · obtain ⟨v, t, rfl, _⟩ := h
    rfl
  · obtain ⟨v, t, rfl, hv, hsz, q⟩ := h
    refine ⟨_, (pss_cons (ps_set (i := 1) sc__in_turn.nd rfl (.inl rfl) (pe_lst pa_nil))
    (pss_cons (ps_set (i := 2) sc__in_turn.nd rfl (.inl rfl) (pe_lst (pa_cons (pv 0) pa_nil)))
    (pss_cons (ps_while PassesOwn.never (pt_truthK (K := K) (pv 2))
      (pss_cons (ps_set (i := 3) sc__in_turn.nd rfl (.inl rfl) (pe_bm0K K (by rfl) (pe_bm0 PySem.F.plainAttrs_list PySem.F.slot_list_pop PySem.F.type_list_pop mt_pop (pv 2))))
        (pss_one (ps_if (pt_val (pe_callB (call_isi1 (K := K)) (by rfl) m_isinstance (by decide +kernel) (pa_cons (pv 3) (pa_cons (pe_bltn (v := .ty "tuple") rfl m_tuple (by decide +kernel) rfl) pa_nil))))
      (pss_cons (ps_asg (pv 3) (pg_tupK K (pg_tup (n := 2) rfl (pgs_cons (pg_name (i := 4) sc__in_turn.nd rfl (.inl rfl)) (pgs_cons (pg_name (i := 5) sc__in_turn.nd rfl (.inl rfl)) pgs_nil)))))
        (pss_one (ps_expr (pe_bmK K (by rfl) (pe_bm PySem.F.plainAttrs_list PySem.F.slot_list_extend PySem.F.type_list_extend mt_extend (pv 2) (pa_cons (pe_lst (pa_cons pe_non (pa_cons (pv 5) (pa_cons (pv 4) pa_nil)))) pa_nil))))))
      (pss_one (ps_expr (pe_bmK K (by rfl) (pe_bm PySem.F.plainAttrs_list PySem.F.slot_list_append PySem.F.type_list_append mt_append (pv 1) (pa_cons (pv 3) pa_nil)))))))))
    (pss_one (ps_ret (pv 1)))))), ?_⟩
    show tSeq _ _ _ [some v, none, none, none, none, none] H
    refine seqi fun k hk => ?_
    walk_at "rd"
    refine ⟨Nat.zero_le _, fun f1 hf1 => ?_⟩
    subst hk
    refine seqi fun k hk => ?_
    walk_at "rd"
    refine ⟨(by show 1 ≤ sizeLine; decide), fun w1 hw1 => ?_⟩
    subst hk
    have nwf : f1 ≠ w1 := ne_of_none upd_same hw1
    have hwH : H w1 = none := (same_new hf1).free hw1
    refine seqi fun k hk => ?_
    refine ⟨fun m σ' H' => ∃ (fs : List (Option Int)) (ws : List (Option Tr)) (W : List V) (y3 y4 y5 : Option V), σ' = [some v, some (.ref f1), some (.ref w1), y3, y4, y5] ∧ m = wSum ws ∧ H' f1 = some (.lst (fs.map oV)) ∧ H' w1 = some (.lst W) ∧ Dts H W (ws.map wD) ∧ fs ++ ws.reverse.flatMap wPost = t.post ∧ Same H H' ∧ fs.length + wSum ws ≤ 10000,
      ⟨_, [], [some t], [v], none, none, none, rfl, rfl, (upd_ne nwf).trans upd_same, upd_same, .cons hv .nil, ?_, Same.new (same_new hf1) hw1, ?_⟩, ?_⟩
    · exact List.append_nil _
    · show 0 + (t.sz + 0) ≤ 10000
      omega
    · rintro m σ' H1 ⟨fs, ws, W, y3, y4, y5, rfl, rfl, h1, h2, hW, hp, e1, hb⟩
      walk_at "rd"
      refine ⟨!W.isEmpty, .inl ⟨W, .inl (.inl h2), rfl⟩, ?_⟩
      rcases snoc_cases ws with rfl | ⟨ws, x, rfl⟩
      · cases hW
        refine iteF ?_
        subst hk
        walk_at "rd"
        have hp : fs = t.post := by rw [← hp]; exact (List.append_nil _).symm
        exact q f1 _ hf1 e1 (.lst h1 (by rw [← hp]; exact dts_o fs))
      · rw [List.map_append] at hW
        obtain ⟨W, b, rfl, hWs, hx⟩ := dts_split hW
        obtain ⟨y, rfl, hy⟩ := hx.one
        rw [wSum_app] at hb
        rw [wD_post] at hp
        have ne : (!(W ++ [y]).isEmpty) = true := by cases W <;> rfl
        rw [ne]
        refine iteT ⟨fun σ2 H2 => ∃ (fs : List (Option Int)) (ws' : List (Option Tr)) (W' : List V) (y3 y4 y5 : Option V), σ2 = [some v, some (.ref f1), some (.ref w1), y3, y4, y5] ∧ wSum ws' < wSum (ws ++ [x]) ∧ H2 f1 = some (.lst (fs.map oV)) ∧ H2 w1 = some (.lst W') ∧ Dts H W' (ws'.map wD) ∧ fs ++ ws'.reverse.flatMap wPost = t.post ∧ Same H H2 ∧ fs.length + wSum ws' ≤ 10000,
          fun σ2 H2 ⟨fs, ws', W', y3, y4, y5, a1, a2, a3, a4, a5, a6, a7, a8⟩ => ⟨_, a2, fs, ws', W', y3, y4, y5, a1, rfl, a3, a4, a5, a6, a7, a8⟩, ?_⟩
        refine seqi fun k1 hk1 => ?_
        walk_at "rd"
        refine ⟨.inl ⟨rfl, _, .inl (.inl h2)⟩, _, h2, y, by rw [List.length_append, List.length_singleton, Nat.add_sub_cancel, List.getElem?_append_right (Nat.le_refl _), Nat.sub_self]; rfl, ?_⟩
        rw [List.dropLast_concat]
        have m1 : ∀ o, Same H (upd H1 w1 o) := fun o => Same.mut e1 hwH
        have g1 : ∀ o, (upd H1 w1 o) f1 = some (.lst (fs.map oV)) := fun o => (upd_ne nwf).trans h1
        subst hk1
        walk_at "rd"
        cases x with
        | none =>
          have ey : y = .non := by cases hy; rfl
          subst ey
          refine ⟨_, _, ⟨rfl, rfl⟩, .type "NoneType", .type "tuple", .ty _, .base .non, false, kit_ty (by decide +kernel), iteF ?_⟩
          refine ⟨.inl ⟨rfl, _, .inl (.inl (g1 _))⟩, _, g1 _, ?_, fs ++ [none], ws, W, _, _, _, ⟨rfl, rfl, rfl⟩, ?_, ?_, (upd_ne nwf.symm).trans upd_same, hWs, ?_, Same.mut (m1 _) hf1, ?_⟩
          · rw [List.length_map]
            exact Nat.lt_of_lt_of_le (Nat.lt_succ_of_le (Nat.le_trans (Nat.le_add_right _ _) hb)) (by show 10001 ≤ sizeLine; decide)
          · rw [wSum_app]
            exact Nat.lt_succ_self _
          · rw [upd_same, List.map_append]
            rfl
          · rw [List.append_assoc]
            exact hp
          · have e : wSum [none] = 1 := rfl
            rw [List.length_append, List.length_singleton]
            omega
        | some t =>
          cases t with
          | leaf n =>
            have ey : y = .int n := Dt.num hy
            subst ey
            refine ⟨_, _, ⟨rfl, rfl⟩, .type "int", .type "tuple", .ty _, .base (.int _), false, kit_ty (by decide +kernel), iteF ?_⟩
            refine ⟨.inl ⟨rfl, _, .inl (.inl (g1 _))⟩, _, g1 _, ?_, fs ++ [some n], ws, W, _, _, _, ⟨rfl, rfl, rfl⟩, ?_, ?_, (upd_ne nwf.symm).trans upd_same, hWs, ?_, Same.mut (m1 _) hf1, ?_⟩
            · rw [List.length_map]
              exact Nat.lt_of_lt_of_le (Nat.lt_succ_of_le (Nat.le_trans (Nat.le_add_right _ _) hb)) (by show 10001 ≤ sizeLine; decide)
            · rw [wSum_app]
              exact Nat.lt_succ_self _
            · rw [upd_same, List.map_append]
              rfl
            · rw [List.append_assoc]
              exact hp
            · have e : wSum [some (Tr.leaf n)] = 1 := rfl
              rw [List.length_append, List.length_singleton]
              omega
          | node l r =>
            obtain ⟨ay, x1, x2, rfl, hay, d1, d2⟩ := Dt.pair hy
            have hay' := m1 (.lst W) _ _ hay
            refine ⟨_, _, ⟨rfl, rfl⟩, .type "tuple", .type "tuple", .ty _, .base (.tup hay'), true, kit_ty (by decide +kernel), iteT ?_⟩
            refine seqi fun k1 hk1 => ?_
            walk_at "rd"
            refine ⟨_, .inl (.inl hay'), rfl, _, _, rfl, _, _, rfl, rfl, ?_⟩
            subst hk1
            walk_at "rd"
            have g2 : (upd H1 w1 (.lst W)) w1 = some (.lst W) := upd_same
            refine ⟨.inl ⟨rfl, _, .inl (.inl g2)⟩, (by show 3 ≤ sizeLine; decide), fun q1 hq1 => ?_⟩
            have nwq : w1 ≠ q1 := ne_of_none g2 hq1
            have nfq : f1 ≠ q1 := ne_of_none (g1 _) hq1
            have lW : W.length ≤ 10000 := by
              have e1 := hWs.len
              rw [List.length_map] at e1
              have e2 : ∀ l : List (Option Tr), l.length ≤ wSum l := fun l => by
                induction l with
                | nil => exact Nat.le_refl _
                | cons a l ih =>
                  have : 1 ≤ wSz a := by
                    cases a with
                    | none => exact Nat.le_refl _
                    | some t => cases t <;> exact Nat.succ_le_succ (Nat.zero_le _)
                  show l.length + 1 ≤ wSz a + wSum l
                  omega
              have := e2 ws
              omega
            refine ⟨_, (upd_ne nwq).trans g2, _, upd_same, (by show W.length + 3 ≤ sizeLine; exact Nat.le_trans (Nat.add_le_add_right lW 3) (by show 10003 ≤ sizeLine; decide)), fs, ws ++ [none, some r, some l], W ++ [.non, x2, x1], _, _, _, ⟨rfl, rfl, rfl⟩, ?_, ?_, upd_same, ?_, ?_, ?_, ?_⟩
            · rw [wSum_app, wSum_app]
              have e1 : wSum [none, some r, some l] = 1 + (r.sz + (l.sz + 0)) := rfl
              have e2 : wSum [some (Tr.node l r)] = l.sz + r.sz + 2 + 0 := rfl
              omega
            · exact (upd_ne nwf).trans ((upd_ne nfq).trans (g1 _))
            · rw [List.map_append]
              exact hWs.app (.cons .non (.cons d2 (.cons d1 .nil)))
            · rw [List.reverse_append]
              show fs ++ (l.post ++ (r.post ++ ([none] ++ _))) = _
              rw [← hp]
              show _ = fs ++ ((l.post ++ r.post ++ [none]) ++ _)
              rw [List.append_assoc, List.append_assoc]
              rfl
            · exact Same.mut (Same.new (m1 _) hq1) hwH
            · rw [wSum_app]
              have e1 : wSum [none, some r, some l] = 1 + (r.sz + (l.sz + 0)) := rfl
              have e2 : wSum [some (Tr.node l r)] = l.sz + r.sz + 2 + 0 := rfl
              omega
abbrev s_letters : Stmt := topS 2
theorem sc_letters : FnScope ["tree", "step"] ["tree"] (defScope s_letters) := ⟨rfl, rfl, rfl, by decide +kernel, rfl, by decide +kernel, by decide +kernel⟩
theorem ok_letters {f : Addr} {fd : FuncData} (F : Fun K "letters" "letters" s_letters f fd) (D_in_turn : Dn P w K mg base 1 "_in_turn" ["tree"] spTurn) : FnOk P w K mg base CX0 2 f fd ["tree"] spLets := by
  refine F.ok sc_letters (fun vs H Q E h => ?_) (fun cdv A outer s H vs Q E hr h => ?_)
  · obtain ⟨v, t, rfl, _⟩ := h
    rfl
  · obtain ⟨v, t, rfl, hv, hsz, q⟩ := h
    refine ⟨_, (pss_one (ps_ret (pe_lc (own := [("step", 1)]) rfl sc_letters.nd (pi_listK K (pd D_in_turn (hr.mono (by decide)) (by rfl) (pa_cons (pv 0) pa_nil))) (blkOk_by (by kernel_rfl)) (fun _ _ _ _ _ => (pg_name (i := 1) sc_letters.nd rfl (.inl rfl))) (fun _ _ _ _ _ => pts_one (pt_cmpR op_notN (pv 1) pe_non (nomark _))) (fun _ _ _ _ _ => (pv 1))))), ?_⟩
    show tRet _ _ [some v, none] H
    walk_at "rd"
    refine ⟨v, t, rfl, hv, hsz, fun a1 H1 n1 e1 h1 => ?_⟩
    obtain ⟨a, xs, e, ha, hxs⟩ := h1.list
    cases e
    refine ⟨_, rfl, ⟨_, .inl (.inl ha)⟩, ?_⟩
    have pl := t.post_len
    refine lcg_old (jseq_list K a1 xs) (.inl (.inl ha)) t.post oD hxs (by omega) (fun x => x.isSome) oD (fun z n hn hz H6 e6 S1 S0 s1 s0 => ?_) (fun D6 H6 hD6 e6 h6 => ?_)
    · walk_at "rd"
      cases n with
      | none =>
        cases hz
        exact iteF (s0 rfl _ (Same.refl _))
      | some n =>
        obtain rfl : z = .int n := Dt.num hz
        exact iteT (s1 rfl _ _ (Same.refl _) (.int n))
    · rw [post_filter, t.post_lets] at h6
      exact q D6 H6 (by
        cases hz : H D6 with
        | none => rfl
        | some o => rw [e1 _ _ hz] at hD6; cases hD6) (e1.trans e6) h6
end
end Fp

namespace Fp
open PySem PySem.Spec PyProof.Rows L2
local macro_rules | `(tactic| walk_at "rd") => `(tactic| simp only [cxK, cxKn, tRet, tRetN, rIntI, rIntB, rLenL, rListL, rListT, rAbs, tDisp, tPairs, tC, tCB, tCons, tNil, tSl, tVar, tNoPart, tPart, rSlL, tOp, tAsg, gName, tIfS, tDrop, tTest, tAnd, tOr, Evl.tCut, tNot, tB, rI0, rI, rIxL, rIxT, rIxD, tDGet, sDPut, tLst, tTup, tBM, tBM0, tPar, rAppend, rPopAt, rPop, rExtend, rTupL, tCall, tNext, rAll, rOwnIn, rOwn2, rCat, lc_iL, lc_iT, lc_iK, lc_iR, fr_iL, fr_iT, fr_iR, tYes, rIn, rEq, rNe, gTup, gCons, gNil, wipe, tMeth, tFld, sFld, tMake, tProp, tIf, tAndV, tOrV, tNotV, tTru, rIsi, rSum, tRevL, if_true, if_false, Bool.false_eq_true, List.map_cons, List.map_nil, List.nil_append, List.append_nil, List.cons_append, List.getElem?_cons_zero, List.getElem?_cons_succ, Option.some.injEq, exists_and_left, exists_eq_left', exists_eq_left, List.cons.injEq, and_true, true_and, V.ref.injEq, V.int.injEq, V.str.injEq, V.bl.injEq, List.set_cons_zero, List.set_cons_succ])
section
variable {K : PySem.W.Frag} {P : Program} {w : World} {base : Heap} {mg : Str → Option Value} {aR aD C : Addr}
abbrev s_value_of : Stmt := topS 3
theorem sc_value_of : FnScope ["tree", "values", "operation", "held", "step", "right", "left"] ["tree", "values", "operation"] (defScope s_value_of) := ⟨rfl, rfl, rfl, by decide +kernel, rfl, by decide +kernel, by decide +kernel⟩
theorem ok_value {f : Addr} {fd : FuncData} (F : Fun K "value_of" "value_of" s_value_of f fd) (D_in_turn : Dn P w K mg base 1 "_in_turn" ["tree"] spTurn) : FnOk P w K mg base CX0 3 f fd ["tree", "values", "operation"] (spVal P w K mg base 2) := by
  refine F.ok sc_value_of (fun vs H Q E h => ?_) (fun cdv A outer s H vs Q E hr h => ?_)
  · obtain ⟨v, a, f, t, vals, g, R, N, rfl, _⟩ := h
    rfl
  · obtain ⟨v, av, fo, t, vals, g, R, N, rfl, hv, hsz, hav, hO, cl, hlv, hN, q⟩ := h
    refine ⟨_, (pss_cons (ps_set (i := 3) sc_value_of.nd rfl (.inl rfl) (pe_lst pa_nil))
    (pss_cons (ps_for PassesOwn.never rfl (pi_listK K (pd D_in_turn (hr.mono (by decide)) (by rfl) (pa_cons (pv 0) pa_nil))) (pg_name (i := 4) sc_value_of.nd rfl (.inl rfl))
      (pss_one (ps_if (pt_cmpR op_isN (pv 4) pe_non (nomark _))
      (pss_cons (ps_set (i := 5) sc_value_of.nd rfl (.inl rfl) (pe_bm0K K (by rfl) (pe_bm0 PySem.F.plainAttrs_list PySem.F.slot_list_pop PySem.F.type_list_pop mt_pop (pv 3))))
        (pss_cons (ps_set (i := 6) sc_value_of.nd rfl (.inl rfl) (pe_bm0K K (by rfl) (pe_bm0 PySem.F.plainAttrs_list PySem.F.slot_list_pop PySem.F.type_list_pop mt_pop (pv 3))))
        (pss_one (ps_expr (pe_bmK K (by rfl) (pe_bm PySem.F.plainAttrs_list PySem.F.slot_list_append PySem.F.type_list_append mt_append (pv 3) (pa_cons (pe_callOK (P := P) (w := w) (K := K) (mg := mg) (base := base) (k := 2) (i := 2) (hr.mono (by decide)) rfl (.inl rfl) (pa_cons (pv 6) (pa_cons (pv 5) pa_nil))) pa_nil)))))))
      (pss_one (ps_expr (pe_bmK K (by rfl) (pe_bm PySem.F.plainAttrs_list PySem.F.slot_list_append PySem.F.type_list_append mt_append (pv 3) (pa_cons (pe_ix (ix_listK K) (pv 1) (pv 4) (fun _ _ => rfl)) pa_nil))))))))
    (pss_one (ps_ret (pe_ix (ix_listK K) (pv 3) pe_int (fun _ _ => rfl)))))), ?_⟩
    show tSeq _ _ _ [some v, some (.ref av), some (.ref fo), none, none, none, none] H
    refine seqi fun k hk => ?_
    walk_at "rd"
    refine ⟨Nat.zero_le _, fun h1 hh1 => ?_⟩
    have e0 : Same H (upd H h1 (.lst [])) := same_new hh1
    subst hk
    refine seqi fun k hk => ?_
    walk_at "rd"
    refine ⟨v, t, rfl, hv.same e0, hsz, fun a1 H1 n1 e1 hd1 => ?_⟩
    obtain ⟨a, xs, e, ha, hxs⟩ := hd1.list
    cases e
    obtain rfl : xs = t.post.map oV := by
      have : ∀ (ps : List (Option Int)) (vs : List V), Dts H1 vs (ps.map oD) → vs = ps.map oV := fun ps => by
        induction ps with
        | nil => intro vs h; cases h; rfl
        | cons p ps ih =>
          intro vs h
          cases h with
          | cons x y =>
            rw [ih _ y]
            cases p with
            | none => cases x; rfl
            | some n => cases x; rfl
      exact this _ _ hxs
    refine ⟨_, rfl, ⟨_, .inl (.inl ha)⟩, ?_⟩
    have nha : h1 ≠ a1 := fun z => by
      rw [← z, upd_same] at n1
      cases n1
    have e01 := e0.trans e1
    have gh : H1 h1 = some (.lst []) := e1 _ _ upd_same
    refine forg_by (jseq_list K a1 (t.post.map oV)) (fun i σ' H' => ∃ (st : List Tr) (y4 y5 y6 : Option V), σ' = [some v, some (.ref av), some (.ref fo), some (.ref h1), y4, y5, y6] ∧ reb (t.post.drop i) st = some [t] ∧ H' h1 = some (.lst (st.map fun u => u.ev vals g).reverse) ∧ H' a1 = some (.lst (t.post.map oV)) ∧ Same H H' ∧ (∀ u ∈ st, R u.lets.length (u.ev vals g)) ∧ st.length ≤ i)
      ⟨[], none, none, none, rfl, ?_, gh, ha, e01, fun u hu => absurd hu List.not_mem_nil, Nat.le_refl _⟩ (fun i σ' H' _ h => ?_) (fun i x σ' H2 hx h => ?_) (fun σ' H' h => ?_)
    · have := reb_post t [] []
      rw [List.append_nil] at this
      exact this
    · obtain ⟨_, _, _, _, _, _, _, h, _⟩ := h
      exact .inl (.inl h)
    · obtain ⟨st, y4, y5, y6, rfl, hreb, hh, ha2, e2, hR, hsl⟩ := h
      walk_at "rd"
      have hil : i < t.post.length := by
        have := (List.getElem?_eq_some_iff.mp hx).1
        rw [List.length_map] at this
        exact this
      have hdr : t.post.drop i = t.post[i] :: t.post.drop (i + 1) := List.drop_eq_getElem_cons hil
      have hxo : x = oV t.post[i] := by
        rw [List.getElem?_map, List.getElem?_eq_getElem hil] at hx
        exact (Option.some.inj hx).symm
      have hmem : t.post[i] ∈ t.post := List.getElem_mem hil
      rw [hdr] at hreb
      clear hx hdr
      subst hxo
      have hpl := t.post_len
      revert hreb hmem
      cases t.post[i] with
      | none =>
        intro hreb hmem
        match st, hreb, hR, hh, hsl with
        | [], hreb, _, _, _ => cases hreb
        | [_], hreb, _, _, _ => cases hreb
        | r :: l :: s, hreb, hR, hh, hsl =>
          have hreb : reb (t.post.drop (i + 1)) (.node l r :: s) = some [t] := hreb
          have hh : H2 h1 = some (.lst ((s.map fun u => u.ev vals g).reverse ++ [l.ev vals g] ++ [r.ev vals g])) := by
            rw [hh, List.map_cons, List.map_cons, List.reverse_cons, List.reverse_cons]
          have hRn := cl _ _ _ _ (hR l (by simp)) (hR r (by simp))
          have lb : l.lets.length + r.lets.length ≤ N := by
            have h1 := reb_lvs _ _ _ hreb
            have e1 : lvs (.node l r :: s) = (l.lets ++ r.lets).length + lvs s := rfl
            have e2 : lvs [t] = t.lets.length + 0 := rfl
            rw [List.length_append] at e1
            omega
          refine iteT ?_
          refine seqi fun k1 hk1 => ?_
          walk_at "rd"
          refine ⟨.inl ⟨rfl, _, .inl (.inl hh)⟩, _, hh, r.ev vals g, by rw [List.length_append, List.length_singleton, Nat.add_sub_cancel, List.getElem?_append_right (Nat.le_refl _), Nat.sub_self]; rfl, ?_⟩
          rw [List.dropLast_concat]
          have hh2 : (upd H2 h1 (.lst ((s.map fun u => u.ev vals g).reverse ++ [l.ev vals g]))) h1 = _ := upd_same
          have e3 : Same H (upd H2 h1 (.lst ((s.map fun u => u.ev vals g).reverse ++ [l.ev vals g]))) := Same.mut e2 hh1
          have ha3 : (upd H2 h1 (.lst ((s.map fun u => u.ev vals g).reverse ++ [l.ev vals g]))) a1 = _ := (upd_ne nha.symm).trans ha2
          generalize upd H2 h1 (.lst ((s.map fun u => u.ev vals g).reverse ++ [l.ev vals g])) = H3 at hh2 e3 ha3
          subst hk1
          refine seqi fun k1 hk1 => ?_
          walk_at "rd"
          refine ⟨.inl ⟨rfl, _, .inl (.inl hh2)⟩, _, hh2, l.ev vals g, by rw [List.length_append, List.length_singleton, Nat.add_sub_cancel, List.getElem?_append_right (Nat.le_refl _), Nat.sub_self]; rfl, ?_⟩
          rw [List.dropLast_concat]
          have hh4 : (upd H3 h1 (.lst (s.map fun u => u.ev vals g).reverse)) h1 = _ := upd_same
          have e4 : Same H (upd H3 h1 (.lst (s.map fun u => u.ev vals g).reverse)) := Same.mut e3 hh1
          have ha4 : (upd H3 h1 (.lst (s.map fun u => u.ev vals g).reverse)) a1 = _ := (upd_ne nha.symm).trans ha3
          generalize upd H3 h1 (.lst (s.map fun u => u.ev vals g).reverse) = H4 at hh4 e4 ha4
          subst hk1
          walk_at "rd"
          refine ⟨.inl ⟨rfl, _, .inl (.inl hh4)⟩, fo, _, rfl, hO.ext (LamX.ExtN.of e4), ?_⟩
          walk_at "rd"
          refine ⟨LamX.ExtN.refl _, l.ev vals g, r.ev vals g, _, _, rfl, hR l (by simp), hR r (by simp), lb, fun H5 e5 => ?_⟩
          have hh5 := e5 _ _ hh4
          have nh5 : h1 ≠ a1 := nha
          refine ⟨_, hh5, ?_, .node l r :: s, _, _, _, ⟨rfl, rfl, rfl⟩, hreb, ?_, (upd_ne nha.symm).trans (e5 _ _ ha4), Same.mut (e4.trans e5) hh1, fun u hu => ?_, ?_⟩
          · have : (s.map fun u => u.ev vals g).reverse.length ≤ 10000 := by
              rw [List.length_reverse, List.length_map]
              have : s.length + 2 ≤ i := hsl
              omega
            exact Nat.lt_of_le_of_lt this (by show 10000 < sizeLine; decide)
          · rw [upd_same, List.map_cons, List.reverse_cons]
            rfl
          · rcases List.mem_cons.mp hu with z | z
            · rw [z]
              have e1 : (Tr.node l r).lets = l.lets ++ r.lets := rfl
              rw [e1, List.length_append]
              exact hRn
            · exact hR u (List.mem_cons_of_mem _ (List.mem_cons_of_mem _ z))
          · have : s.length + 2 ≤ i := hsl
            show s.length + 1 ≤ i + 1
            omega
      | some n =>
        intro hreb hmem
        refine iteF ?_
        have hln : n ∈ t.lets := Tr.post_mem hmem
        obtain ⟨n0, x, hx, hRx⟩ := hlv n hln
        have hat : atI vals n = some x := by
          obtain ⟨j, rfl⟩ : ∃ j : Nat, n = j := ⟨n.toNat, by omega⟩
          exact atI_nat (j := j) hx
        have evn : (Tr.leaf n).ev vals g = x := by
          show vals.getD n.toNat .non = x
          rw [List.getD_eq_getElem?_getD, hx]
          rfl
        refine ⟨.inl ⟨rfl, _, .inl (.inl hh)⟩, _, n, rfl, .inl (.inl (e2 _ _ hav)), x, hat, _, hh, ?_, .leaf n :: st, _, _, _, ⟨rfl, rfl, rfl⟩, hreb, ?_, (upd_ne nha.symm).trans ha2, Same.mut e2 hh1, fun u hu => ?_, Nat.succ_le_succ hsl⟩
        · have : (st.map fun u => u.ev vals g).reverse.length ≤ 10000 := by
            rw [List.length_reverse, List.length_map]
            omega
          exact Nat.lt_of_le_of_lt this (by show 10000 < sizeLine; decide)
        · rw [upd_same, List.map_cons, List.reverse_cons, evn]
        · rcases List.mem_cons.mp hu with z | z
          · rw [z, evn]
            exact hRx
          · exact hR u z
    · obtain ⟨st, y4, y5, y6, rfl, hreb, hh, ha2, e2, hR, hsl⟩ := h
      have hd : t.post.drop (t.post.map oV).length = [] := by rw [List.length_map, List.drop_length]
      rw [hd] at hreb
      have es : st = [t] := Option.some.inj hreb
      subst es
      subst hk
      walk_at "rd"
      exact ⟨_, .inl (.inl hh), _, rfl, q _ e2⟩
end
end Fp

namespace Fp
open PySem PySem.Spec PyProof.Rows L2
local macro_rules | `(tactic| walk_at "rd") => `(tactic| simp only [cxK, cxKn, tRet, tRetN, rIntI, rIntB, rLenL, rListL, rListT, rAbs, tDisp, tPairs, tC, tCB, tCons, tNil, tSl, tVar, tNoPart, tPart, rSlL, tOp, tAsg, gName, tIfS, tDrop, tTest, tAnd, tOr, Evl.tCut, tNot, tB, rI0, rI, rIxL, rIxT, rIxD, tDGet, sDPut, tLst, tTup, tBM, tBM0, tPar, rAppend, rPopAt, rPop, rExtend, rTupL, tCall, tNext, rAll, rOwnIn, rOwn2, rCat, lc_iL, lc_iT, lc_iK, lc_iR, fr_iL, fr_iT, fr_iR, tYes, rIn, rEq, rNe, gTup, gCons, gNil, wipe, tMeth, tFld, sFld, tMake, tProp, tIf, tAndV, tOrV, tNotV, tTru, rIsi, rSum, tRevL, if_true, if_false, Bool.false_eq_true, List.map_cons, List.map_nil, List.nil_append, List.append_nil, List.cons_append, List.getElem?_cons_zero, List.getElem?_cons_succ, Option.some.injEq, exists_and_left, exists_eq_left', exists_eq_left, List.cons.injEq, and_true, true_and, V.ref.injEq, V.int.injEq, V.str.injEq, V.bl.injEq, List.set_cons_zero, List.set_cons_succ])
section
variable {K : PySem.W.Frag} {P : Program} {w : World} {base : Heap} {mg : Str → Option Value} {aR aD C : Addr}
abbrev s__law_leaves : Stmt := topS 8
theorem sc__law_leaves : FnScope ["part", "todo", "found", "one"] ["part"] (defScope s__law_leaves) := ⟨rfl, rfl, rfl, by decide +kernel, rfl, by decide +kernel, by decide +kernel⟩
theorem ok_leaves {f : Addr} {fd : FuncData} (F : Fun K "_law_leaves" "_law_leaves" s__law_leaves f fd) (m_isinstance : mg "isinstance" = none) (m_tuple : mg "tuple" = none) : FnOk P w K mg base CX0 1 f fd ["part"] spLets := by
  refine F.ok sc__law_leaves (fun vs H Q E h => ?_) (fun cdv A outer s H vs Q E hr h => ?_)
  · obtain ⟨v, t, rfl, _⟩ := h
    rfl
  · obtain ⟨v, t, rfl, hv, hsz, q⟩ := h
    have hu64 := hr.units
    refine ⟨_, (pss_cons (ps_par (i := 1) (j := 2) rfl sc__law_leaves.nd rfl rfl (by decide) rfl rfl (pa_cons (pe_lst (pa_cons (pv 0) pa_nil)) (pa_cons (pe_lst pa_nil) pa_nil)) rfl)
    (pss_cons (ps_while PassesOwn.never (pt_cmpR (op_neC (K := K) hu64) (pv 1) (pe_lst pa_nil) (nomark _))
      (pss_cons (ps_set (i := 3) sc__law_leaves.nd rfl (.inl rfl) (pe_bm0K K (by rfl) (pe_bm0 PySem.F.plainAttrs_list PySem.F.slot_list_pop PySem.F.type_list_pop mt_pop (pv 1))))
        (pss_one (ps_if (pt_val (pe_callB (call_isi1 (K := K)) (by rfl) m_isinstance (by decide +kernel) (pa_cons (pv 3) (pa_cons (pe_bltn (v := .ty "tuple") rfl m_tuple (by decide +kernel) rfl) pa_nil))))
      (pss_one (ps_expr (pe_bmK K (by rfl) (pe_bm PySem.F.plainAttrs_list PySem.F.slot_list_extend PySem.F.type_list_extend mt_extend (pv 1) (pa_cons (pe_lst (pa_cons (pe_ix (ix_tupK K) (pv 3) pe_int (fun _ _ => rfl)) (pa_cons (pe_ix (ix_tupK K) (pv 3) pe_int (fun _ _ => rfl)) pa_nil))) pa_nil)))))
      (pss_one (ps_expr (pe_bmK K (by rfl) (pe_bm PySem.F.plainAttrs_list PySem.F.slot_list_append PySem.F.type_list_append mt_append (pv 2) (pa_cons (pv 3) pa_nil)))))))))
    (pss_one (ps_ret (pv 2))))), ?_⟩
    show tSeq _ _ _ [some v, none, none, none] H
    refine seqi fun k hk => ?_
    walk_at "rd"
    refine ⟨(by show 1 ≤ sizeLine; decide), fun w1 hw1 => ⟨Nat.zero_le _, fun f1 hf1 => ⟨_, _, ⟨rfl, rfl⟩, ?_⟩⟩⟩
    have nwf : w1 ≠ f1 := ne_of_none upd_same hf1
    have hfH : H f1 = none := (same_new hw1).free hf1
    subst hk
    refine seqi fun k hk => ?_
    refine ⟨fun m σ' H' => ∃ (fs : List Int) (ws : List Tr) (W : List V) (y3 : Option V), σ' = [some v, some (.ref w1), some (.ref f1), y3] ∧ m = tSum ws ∧ H' f1 = some (.lst (fs.map V.int)) ∧ H' w1 = some (.lst W) ∧ Dts H W (ws.map Tr.dat) ∧ fs ++ ws.reverse.flatMap Tr.lets = t.lets ∧ Same H H' ∧ fs.length + tSum ws ≤ 10000,
      ⟨_, [], [t], [v], none, rfl, rfl, upd_same, (upd_ne nwf).trans upd_same, .cons hv .nil, ?_, Same.new (same_new hw1) hf1, ?_⟩, ?_⟩
    · exact List.append_nil _
    · show 0 + (t.sz + 0) ≤ 10000
      omega
    · rintro m σ' H1 ⟨fs, ws, W, y3, rfl, rfl, h1, h2, hW, hp, e1, hb⟩
      walk_at "rd"
      refine ⟨Nat.zero_le _, fun q1 hq1 => ?_⟩
      have e2 := Same.new (o := .lst []) e1 hq1
      have h1 := same_new (o := .lst []) hq1 _ _ h1
      have h2 := same_new (o := .lst []) hq1 _ _ h2
      refine ne_nilC (ds := ws.map Tr.dat) (.lst h2 (hW.same e2)) (lay_trees _) upd_same ⟨_, rfl, ?_⟩
      generalize upd H1 q1 (.lst []) = H1 at e2 h1 h2
      rcases snoc_cases ws with rfl | ⟨ws, x, rfl⟩
      · cases hW
        refine iteF ?_
        subst hk
        walk_at "rd"
        have hp : fs = t.lets := by rw [← hp]; exact (List.append_nil _).symm
        exact q f1 _ hfH e2 (.lst h1 (by rw [← hp]; exact dts_ints fs))
      · rw [List.map_append] at hW
        obtain ⟨W, b, rfl, hWs, hx⟩ := dts_split hW
        obtain ⟨y, rfl, hy⟩ := hx.one
        rw [tSum_app] at hb
        rw [snoc_lets] at hp
        have ne : (!((ws ++ [x]).map Tr.dat).isEmpty) = true := by cases ws <;> rfl
        rw [ne]
        refine iteT ⟨fun σ2 H2 => ∃ (fs : List Int) (ws' : List Tr) (W' : List V) (y3 : Option V), σ2 = [some v, some (.ref w1), some (.ref f1), y3] ∧ tSum ws' < tSum (ws ++ [x]) ∧ H2 f1 = some (.lst (fs.map V.int)) ∧ H2 w1 = some (.lst W') ∧ Dts H W' (ws'.map Tr.dat) ∧ fs ++ ws'.reverse.flatMap Tr.lets = t.lets ∧ Same H H2 ∧ fs.length + tSum ws' ≤ 10000,
          fun σ2 H2 ⟨fs, ws', W', y3, a1, a2, a3, a4, a5, a6, a7, a8⟩ => ⟨_, a2, fs, ws', W', y3, a1, rfl, a3, a4, a5, a6, a7, a8⟩, ?_⟩
        refine seqi fun k1 hk1 => ?_
        walk_at "rd"
        refine ⟨.inl ⟨rfl, _, .inl (.inl h2)⟩, _, h2, y, by rw [List.length_append, List.length_singleton, Nat.add_sub_cancel, List.getElem?_append_right (Nat.le_refl _), Nat.sub_self]; rfl, ?_⟩
        rw [List.dropLast_concat]
        have m1 : ∀ o, Same H (upd H1 w1 o) := fun o => Same.mut e2 hw1
        have g1 : ∀ o, (upd H1 w1 o) f1 = some (.lst (fs.map V.int)) := fun o => (upd_ne nwf.symm).trans h1
        subst hk1
        walk_at "rd"
        cases x with
        | leaf n =>
          have ey : y = .int n := Dt.num hy
          subst ey
          refine ⟨_, _, ⟨rfl, rfl⟩, .type "int", .type "tuple", .ty _, .base (.int _), false, kit_ty (by decide +kernel), iteF ?_⟩
          refine ⟨.inl ⟨rfl, _, .inl (.inl (g1 _))⟩, _, g1 _, ?_, fs ++ [n], ws, ?_, ?_, W, (upd_ne nwf).trans upd_same, hWs, ?_, Same.mut (m1 _) hfH, ?_⟩
          · rw [List.length_map]
            exact Nat.lt_of_lt_of_le (Nat.lt_succ_of_le (Nat.le_trans (Nat.le_add_right _ _) hb)) (by show 10001 ≤ sizeLine; decide)
          · rw [tSum_app]
            exact Nat.lt_succ_self _
          · rw [upd_same, List.map_append]
            rfl
          · rw [List.append_assoc]
            exact hp
          · have e : tSum [Tr.leaf n] = 1 := rfl
            rw [List.length_append, List.length_singleton]
            omega
        | node l r =>
          obtain ⟨ay, x1, x2, rfl, hay, d1, d2⟩ := Dt.pair hy
          have hay' := m1 (.lst W) _ _ hay
          refine ⟨_, _, ⟨rfl, rfl⟩, .type "tuple", .type "tuple", .ty _, .base (.tup hay'), true, kit_ty (by decide +kernel), iteT ?_⟩
          have g2 : (upd H1 w1 (.lst W)) w1 = some (.lst W) := upd_same
          refine ⟨.inl ⟨rfl, _, .inl (.inl g2)⟩, _, rfl, _, .inl (.inl hay'), x2, rfl, _, rfl, _, .inl (.inl hay'), x1, rfl, (by show 2 ≤ sizeLine; decide), fun q1 hq1 => ?_⟩
          have nwq : w1 ≠ q1 := ne_of_none g2 hq1
          have nfq : f1 ≠ q1 := ne_of_none (g1 _) hq1
          have lW : W.length ≤ 10000 := by
            have e1 := hWs.len
            rw [List.length_map] at e1
            have := tSum_len ws
            omega
          have e1 : tSum [r, l] = r.sz + (l.sz + 0) := rfl
          have e3 : tSum [Tr.node l r] = l.sz + r.sz + 2 + 0 := rfl
          refine ⟨_, (upd_ne nwq).trans g2, _, upd_same, Nat.le_trans (Nat.add_le_add_right lW 2) (by show 10002 ≤ sizeLine; decide), fs, ws ++ [r, l], ?_, ?_, W ++ [x2, x1], upd_same, ?_, ?_, Same.mut (Same.new (m1 _) hq1) hw1, ?_⟩
          · rw [tSum_app, tSum_app]
            omega
          · exact (upd_ne nwf.symm).trans ((upd_ne nfq).trans (g1 _))
          · rw [List.map_append]
            exact hWs.app (.cons d2 (.cons d1 .nil))
          · rw [List.reverse_append]
            show fs ++ (l.lets ++ (r.lets ++ _)) = _
            rw [← hp]
            show _ = fs ++ ((l.lets ++ r.lets) ++ _)
            rw [List.append_assoc]
            rfl
          · rw [tSum_app]
            omega
end
end Fp

namespace Fp
open PySem PySem.Spec PyProof.Rows L2
local macro_rules | `(tactic| walk_at "rd") => `(tactic| simp only [cxK, cxKn, tRet, tRetN, rIntI, rIntB, rLenL, rListL, rListT, rAbs, tDisp, tPairs, tC, tCB, tCons, tNil, tSl, tVar, tNoPart, tPart, rSlL, tOp, tAsg, gName, tIfS, tDrop, tTest, tAnd, tOr, Evl.tCut, tNot, tB, rI0, rI, rIxL, rIxT, rIxD, tDGet, sDPut, tLst, tTup, tBM, tBM0, tPar, rAppend, rPopAt, rPop, rExtend, rTupL, tCall, tNext, rAll, rOwnIn, rOwn2, rCat, lc_iL, lc_iT, lc_iK, lc_iR, fr_iL, fr_iT, fr_iR, tYes, rIn, rEq, rNe, gTup, gCons, gNil, wipe, tMeth, tFld, sFld, tMake, tProp, tIf, tAndV, tOrV, tNotV, tTru, rIsi, rSum, tRevL, if_true, if_false, Bool.false_eq_true, List.map_cons, List.map_nil, List.nil_append, List.append_nil, List.cons_append, List.getElem?_cons_zero, List.getElem?_cons_succ, Option.some.injEq, exists_and_left, exists_eq_left', exists_eq_left, List.cons.injEq, and_true, true_and, V.ref.injEq, V.int.injEq, V.str.injEq, V.bl.injEq, List.set_cons_zero, List.set_cons_succ])
section
variable {K : PySem.W.Frag} {P : Program} {w : World} {base : Heap} {mg : Str → Option Value} {aR aD C : Addr}
abbrev s__law_bracketed : Stmt := topS 9
theorem sc__law_bracketed : FnScope ["pen", "words", "row", "at"] ["pen", "words"] (defScope s__law_bracketed) := ⟨rfl, rfl, rfl, by decide +kernel, rfl, by decide +kernel, by decide +kernel⟩
theorem ok_brk {f : Addr} {fd : FuncData} (F : Fun K "_law_bracketed" "_law_bracketed" s__law_bracketed f fd) (D_law_draw : Dn P w K mg base 1 "_law_draw" ["pen", "span"] spDraw) (m_len : mg "len" = none) (m_list : mg "list" = none) : FnOk P w K mg base CX0 2 f fd ["pen", "words"] spBrk := by
  refine F.ok sc__law_bracketed (fun vs H Q E h => ?_) (fun cdv A outer s H vs Q E hr h => ?_)
  · obtain ⟨p, c, v, t, ns, rfl, _⟩ := h
    rfl
  · obtain ⟨p, c, v, t, ns, rfl, hP, ht, hv, h0, h3, q⟩ := h
    refine ⟨_, (pss_cons (ps_set (i := 2) sc__law_bracketed.nd rfl (.inl rfl) (pe_callTy (call_listK K) (by rfl) m_list (by decide +kernel) (pa_cons (pv 1) pa_nil)))
    (pss_cons (ps_while PassesOwn.never (pt_cmpR op_gt (pe_callB (call_lenK K) (by rfl) m_len PySem.boot_len (pa_cons (pv 2) pa_nil)) pe_int (nomark _))
      (pss_cons (ps_set (i := 3) sc__law_bracketed.nd rfl (.inl rfl) (pd D_law_draw (hr.mono (by decide)) (by rfl) (pa_cons (pv 0) (pa_cons (pe_op op_sub (pe_callB (call_lenK K) (by rfl) m_len PySem.boot_len (pa_cons (pv 2) pa_nil)) pe_int) pa_nil))))
        (pss_one (ps_set (i := 2) sc__law_bracketed.nd rfl (.inl rfl) (pe_op op_cat (pe_op op_cat (pe_slice (sl_listK K) (pv 2) po_none (po_some (pv 3))) (pe_lst (pa_cons (pe_tup (pa_cons (pe_ix (ix_listK K) (pv 2) (pv 3) (fun _ _ => rfl)) (pa_cons (pe_ix (ix_listK K) (pv 2) (pe_op op_add (pv 3) pe_int) (fun _ _ => rfl)) pa_nil))) pa_nil))) (pe_slice (sl_listK K) (pv 2) (po_some (pe_op op_add (pv 3) pe_int)) po_none))))))
    (pss_one (ps_ret (pe_ix (ix_listK K) (pv 2) pe_int (fun _ _ => rfl)))))), ?_⟩
    show tSeq _ _ _ [some (.ref p), some v, none, none] H
    obtain ⟨av, xs, rfl, hav, hxs⟩ := hv.list
    obtain ⟨kvs, hpk⟩ := hP.dict
    refine seqi fun k hk => ?_
    walk_at "rd"
    refine ⟨_, .inl (.inl hav), fun l hl0 => ?_⟩
    have e1 : Same H (upd H l (.lst xs)) := same_new hl0
    subst hk
    refine seqi fun k hk => ?_
    have hml : ∀ ns : List Int, (ns.map Tr.leaf).map Tr.dat = ns.map PyData.int := fun ns => by rw [List.map_map]; rfl
    have hfl : ∀ ns : List Int, (ns.map Tr.leaf).flatMap Tr.lets = ns := fun ns => by
      induction ns with
      | nil => rfl
      | cons n ns ih => show n :: (ns.map Tr.leaf).flatMap Tr.lets = _; rw [ih]
    refine ⟨fun m σ' H' => ∃ (rv : Addr) (xs : List V) (ts : List Tr) (y3 : Option V), σ' = [some (.ref p), some (.ref av), some (.ref rv), y3] ∧ m = ts.length ∧ H' rv = some (.lst xs) ∧ Dts H' xs (ts.map Tr.dat) ∧ ts.flatMap Tr.lets = ns ∧ 0 < ts.length ∧ ts.length ≤ ns.length ∧ PenOk H' p c (t + (ns.length - ts.length)) ∧ But p H H',
      ⟨_, l, xs, ns.map Tr.leaf, none, rfl, rfl, upd_same, ?_, hfl ns, ?_, ?_, ?_, But.of e1⟩, ?_⟩
    · rw [hml]
      exact hxs.same e1
    · rw [List.length_map]
      exact h0
    · rw [List.length_map]
      exact Nat.le_refl _
    · rw [List.length_map, Nat.sub_self]
      exact hP.same e1
    · rintro m σ' H1 ⟨rv, xs, ts, y3, rfl, rfl, hrv, hts, hfm, hpos, hle, P1, b1⟩
      obtain ⟨kvs1, hp1⟩ := P1.dict
      have lx := hts.len
      rw [List.length_map] at lx
      walk_at "rd"
      refine ⟨_, .inl (.inl hrv), ?_⟩
      by_cases h1 : ts.length = 1
      · match ts, h1, hfm, hts with
        | [b], _, hfm, hts =>
          obtain ⟨vb, rfl, hb⟩ := hts.one
          refine iteF ?_
          subst hk
          walk_at "rd"
          have hfm : b.lets = ns := by rw [← hfm]; exact (List.append_nil _).symm
          exact ⟨_, .inl (.inl hrv), _, rfl, q _ _ b hfm hb (P1.mono (by omega)) b1⟩
      · have hd : decide ((xs.length : Int) > 1) = true := decide_eq_true (by omega)
        rw [hd]
        refine iteT ?_
        refine ⟨fun σ' H' => ∃ (rv : Addr) (xs : List V) (ts' : List Tr) (y3 : Option V), σ' = [some (.ref p), some (.ref av), some (.ref rv), y3] ∧ ts'.length < ts.length ∧ H' rv = some (.lst xs) ∧ Dts H' xs (ts'.map Tr.dat) ∧ ts'.flatMap Tr.lets = ns ∧ 0 < ts'.length ∧ ts'.length ≤ ns.length ∧ PenOk H' p c (t + (ns.length - ts'.length)) ∧ But p H H',
          fun σ' H' ⟨rv, xs, ts', y3, a1, a2, a3, a4, a5, a6, a7, a8, a9⟩ => ⟨_, a2, rv, xs, ts', y3, a1, rfl, a3, a4, a5, a6, a7, a8, a9⟩, ?_⟩
        refine seqi fun k1 hk1 => ?_
        walk_at "rd"
        refine ⟨_, .inl (.inl hrv), p, c, (ts.length : Int) - 1, t + (ns.length - ts.length), by rw [lx], P1, by omega, by omega, ?_, fun r H2 r0 r1 P2 b2 => ?_⟩
        · obtain ⟨m, hm⟩ : ∃ m : Nat, (ts.length : Int) - 1 = m := ⟨ts.length - 1, by omega⟩
          rw [hm]
          exact lg_small (by omega)
        obtain ⟨j, rfl⟩ : ∃ j : Nat, r = j := ⟨r.toNat, by omega⟩
        have hj : j + 1 < ts.length := by omega
        have nrp : rv ≠ p := (ne_of hrv hp1 (by intro z; cases z))
        have hrv2 := b2.1 _ _ hrv nrp
        have hts2 := hts.but hp1 b2
        have b02 := b1.trans b2
        obtain ⟨a, x, y, b, ets, ea⟩ := split2 ts j hj
        rw [ets, List.map_append] at hts2
        obtain ⟨A, B, rfl, hA, hB⟩ := dts_split hts2
        obtain ⟨vx, B, rfl, hx, hB⟩ := dts_cons hB
        obtain ⟨vy, B, rfl, hy, hB⟩ := dts_cons hB
        have lA : A.length = j := by
          have := hA.len
          rw [List.length_map] at this
          omega
        subst hk1
        walk_at "rd"
        have tk : (A ++ vx :: vy :: B).take j = A := by rw [← lA]; exact List.take_left
        have dk : (A ++ vx :: vy :: B).drop (j + 2) = B := by rw [← lA, List.drop_append, List.drop_of_length_le (by omega), Nat.add_sub_cancel_left]; exact rfl
        have g0 : (A ++ vx :: vy :: B)[j]? = some vx := by rw [List.getElem?_append_right (by omega), lA, Nat.sub_self]; rfl
        have g1 : (A ++ vx :: vy :: B)[j + 1]? = some vy := by rw [List.getElem?_append_right (by omega), lA, Nat.add_sub_cancel_left]; rfl
        refine ⟨_, .inl (.inl hrv2), fun a1 n1 => ?_⟩
        rw [cut_to, tk]
        have e3 : Same H2 (upd H2 a1 (.lst A)) := same_new n1
        have q1 : (upd H2 a1 (.lst A)) a1 = _ := upd_same
        generalize upd H2 a1 (.lst A) = H3 at e3 q1
        refine ⟨_, .inl (.inl (e3 _ _ hrv2)), vx, atI_nat (j := j) g0, _, .inl (.inl (e3 _ _ hrv2)), vy, atI_nat (j := j + 1) g1, (by show 2 ≤ sizeLine; decide), fun a2 n2 => ⟨(by show 1 ≤ sizeLine; decide), fun a3 n3 => ?_⟩⟩
        have e4 := Same.new (o := .tup [vx, vy]) e3 n2
        have q2 : (upd H3 a2 (.tup [vx, vy])) a2 = _ := upd_same
        have q1 := same_new (o := .tup [vx, vy]) n2 _ _ q1
        generalize upd H3 a2 (.tup [vx, vy]) = H4 at e4 q1 q2 n3
        have e5 := Same.new (o := .lst [.ref a2]) e4 n3
        have q3 : (upd H4 a3 (.lst [.ref a2])) a3 = _ := upd_same
        have q1 := same_new (o := .lst [.ref a2]) n3 _ _ q1
        have q2 := same_new (o := .lst [.ref a2]) n3 _ _ q2
        generalize upd H4 a3 (.lst [.ref a2]) = H5 at e5 q1 q2 q3
        have lts : ts.length = a.length + (b.length + 1 + 1) := by rw [ets, List.length_append]; rfl
        have lB : B.length = b.length := by
          have := hB.len
          rw [List.length_map] at this
          exact this
        refine ⟨A, q1, _, q3, Nat.le_trans (show A.length + 1 ≤ 1000 by omega) (by decide), fun a4 n4 => ?_⟩
        have e6 := Same.new (o := .lst (A ++ [.ref a2])) e5 n4
        have q4 : (upd H5 a4 (.lst (A ++ [.ref a2]))) a4 = _ := upd_same
        have q2 := same_new (o := .lst (A ++ [.ref a2])) n4 _ _ q2
        generalize upd H5 a4 (.lst (A ++ [.ref a2])) = H6 at e6 q2 q4
        refine ⟨_, .inl (.inl (e6 _ _ hrv2)), fun a5 n5 => ?_⟩
        rw [show ((j : Int) + 2) = ((j + 2 : Nat) : Int) from rfl, cut_from, dk]
        have e7 := Same.new (o := .lst B) e6 n5
        have q5 : (upd H6 a5 (.lst B)) a5 = _ := upd_same
        have q2 := same_new (o := .lst B) n5 _ _ q2
        have q4 := same_new (o := .lst B) n5 _ _ q4
        generalize upd H6 a5 (.lst B) = H7 at e7 q2 q4 q5
        refine ⟨_, q4, _, q5, Nat.le_trans (show (A ++ [V.ref a2]).length + B.length ≤ 1000 by rw [List.length_append, List.length_singleton]; omega) (by decide), fun a6 n6 => ?_⟩
        have e8 := Same.new (o := .lst (A ++ [.ref a2] ++ B)) e7 n6
        have q2 := same_new (o := .lst (A ++ [.ref a2] ++ B)) n6 _ _ q2
        have lnew : (a ++ Tr.node x y :: b).length = a.length + (b.length + 1) := by rw [List.length_append]; rfl
        refine ⟨a6, _, a ++ Tr.node x y :: b, _, ⟨rfl, rfl⟩, ?_, upd_same, ?_, ?_, ?_, ?_, ?_, b02.trans (But.of e8)⟩
        · omega
        · have ea : A ++ [V.ref a2] ++ B = A ++ V.ref a2 :: B := by rw [List.append_assoc]; rfl
          rw [List.map_append]
          show Dts (upd H7 a6 (HO.lst (A ++ [V.ref a2] ++ B))) (A ++ [V.ref a2] ++ B) _
          generalize (upd H7 a6 (HO.lst (A ++ [V.ref a2] ++ B))) = H8 at e8 q2
          rw [ea]
          exact (hA.same e8).app (.cons (.tup q2 (.cons (hx.same e8) (.cons (hy.same e8) .nil))) (hB.same e8))
        · rw [← hfm, ets, List.flatMap_append, List.flatMap_append]
          show a.flatMap Tr.lets ++ ((x.lets ++ y.lets) ++ b.flatMap Tr.lets) = a.flatMap Tr.lets ++ (x.lets ++ (y.lets ++ b.flatMap Tr.lets))
          rw [List.append_assoc]
        · omega
        · omega
        · exact (P2.same e8).mono (by omega)
end
end Fp

namespace Fp
open PySem PySem.Spec PyProof.Rows L2
local macro_rules | `(tactic| walk_at "rd") => `(tactic| simp only [cxK, cxKn, tRet, tRetN, rIntI, rIntB, rLenL, rListL, rListT, rAbs, tDisp, tPairs, tC, tCB, tCons, tNil, tSl, tVar, tNoPart, tPart, rSlL, tOp, tAsg, gName, tIfS, tDrop, tTest, tAnd, tOr, Evl.tCut, tNot, tB, rI0, rI, rIxL, rIxT, rIxD, tDGet, sDPut, tLst, tTup, tBM, tBM0, tPar, rAppend, rPopAt, rPop, rExtend, rTupL, tCall, tNext, rAll, rOwnIn, rOwn2, rCat, lc_iL, lc_iT, lc_iK, lc_iR, fr_iL, fr_iT, fr_iR, tYes, rIn, rEq, rNe, gTup, gCons, gNil, wipe, tMeth, tFld, sFld, tMake, tProp, tIf, tAndV, tOrV, tNotV, tTru, rIsi, rSum, tRevL, rU, tUn, if_true, if_false, Bool.false_eq_true, List.map_cons, List.map_nil, List.nil_append, List.append_nil, List.cons_append, List.getElem?_cons_zero, List.getElem?_cons_succ, Option.some.injEq, exists_and_left, exists_eq_left', exists_eq_left, List.cons.injEq, and_true, true_and, V.ref.injEq, V.int.injEq, V.str.injEq, V.bl.injEq, List.set_cons_zero, List.set_cons_succ])
section
variable {K : PySem.W.Frag} {P : Program} {w : World} {base : Heap} {mg : Str → Option Value} {aR aD C : Addr}
abbrev s__law_comb : Stmt := topS 10
theorem sc__law_comb : FnScope ["row", "way", "found", "letter"] ["row", "way"] (defScope s__law_comb) := ⟨rfl, rfl, rfl, by decide +kernel, rfl, by decide +kernel, by decide +kernel⟩
theorem ok_comb {f : Addr} {fd : FuncData} (F : Fun K "_law_comb" "_law_comb" s__law_comb f fd) : FnOk P w K mg base CX0 1 f fd ["row", "way"] spComb := by
  refine F.ok sc__law_comb (fun vs H Q E h => ?_) (fun cdv A outer s H vs Q E hr h => ?_)
  · obtain ⟨v, way, ns, rfl, _⟩ := h
    rfl
  · obtain ⟨v, way, ns, rfl, hv, h0, h3, q⟩ := h
    refine ⟨_, (pss_cons (ps_set (i := 2) sc__law_comb.nd rfl (.inl rfl) (pe_ifExp (pt_cmpR op_eq (pv 1) pe_int (nomark _)) (pe_ix (ix_listK K) (pv 0) pe_int (fun _ _ => rfl)) (pe_ix (ix_listK K) (pv 0) (pe_un un_neg pe_int) (fun _ _ => rfl))))
    (pss_cons (ps_for PassesOwn.never rfl (pi_listK K (pe_ifExp (pt_cmpR op_eq (pv 1) pe_int (nomark _)) (pe_slice (sl_listK K) (pv 0) (po_some pe_int) po_none) (pe_revK (K := K) (pe_slice (sl_listK K) (pv 0) po_none (po_some (pe_un un_neg pe_int)))))) (pg_name (i := 3) sc__law_comb.nd rfl (.inl rfl))
      (pss_one (ps_set (i := 2) sc__law_comb.nd rfl (.inl rfl) (pe_ifExp (pt_cmpR op_eq (pv 1) pe_int (nomark _)) (pe_tup (pa_cons (pv 2) (pa_cons (pv 3) pa_nil))) (pe_tup (pa_cons (pv 3) (pa_cons (pv 2) pa_nil)))))))
    (pss_one (ps_ret (pv 2))))), ?_⟩
    show tSeq _ _ _ [some v, some (.int way), none, none] H
    obtain ⟨av, xs, rfl, hav, hxs⟩ := hv.list
    obtain rfl := hxs.ints
    by_cases hw : way = 0
    · subst hw
      match ns, h0, h3, hav, hxs, hv, q with
      | n0 :: nr, h0, h3, hav, hxs, hv, q =>
        refine seqi fun k hk => ?_
        walk_at "rd"
        refine ⟨rfl, iteT ⟨_, .inl (.inl hav), .int n0, atI_nat (j := 0) rfl, ?_⟩⟩
        subst hk
        refine seqi fun k hk => ?_
        walk_at "rd"
        refine ⟨rfl, iteT ⟨_, .inl (.inl hav), fun a1 n1 => ?_⟩⟩
        have e1 : Same H (upd H a1 (.lst (cutV ((n0 :: nr).map V.int) (some 1) none))) := same_new n1
        have g1 : (upd H a1 (.lst (cutV ((n0 :: nr).map V.int) (some 1) none))) a1 = some (.lst (nr.map V.int)) := by
          rw [upd_same, show (1 : Int) = ((1 : Nat) : Int) from rfl, cut_from]
          rfl
        generalize upd H a1 (.lst (cutV ((n0 :: nr).map V.int) (some 1) none)) = H1 at e1 g1
        refine ⟨⟨_, .inl (.inl g1)⟩, ?_⟩
        refine forg_by (jseq_list K a1 (nr.map V.int)) (fun i σ' H' => ∃ (vf : V) (b : Tr) (y3 : Option V), σ' = [some (.ref av), some (.int 0), some vf, y3] ∧ Dt H' vf b.dat ∧ b.lets = n0 :: nr.take i ∧ Same H1 H')
          ⟨_, .leaf n0, none, rfl, .int n0, rfl, Same.refl _⟩ (fun i σ' H' _ h => ?_) (fun i x σ' H2 hx h => ?_) (fun σ' H' h => ?_)
        · obtain ⟨_, _, _, _, _, _, e⟩ := h
          exact .inl (.inl (e _ _ g1))
        · obtain ⟨vf, b, y3, rfl, hb, hbl, e2⟩ := h
          obtain ⟨n, hn, rfl⟩ : ∃ n, nr[i]? = some n ∧ x = .int n := by
            rw [List.getElem?_map] at hx
            cases h9 : nr[i]? with
            | none => rw [h9] at hx; cases hx
            | some n => rw [h9] at hx; cases hx; exact ⟨n, rfl, rfl⟩
          walk_at "rd"
          refine ⟨rfl, iteT ⟨(by show 2 ≤ sizeLine; decide), fun p np => ?_⟩⟩
          have e3 := same_new (o := .tup [vf, .int n]) np
          refine ⟨_, .node b (.leaf n), _, ⟨rfl, rfl⟩, .tup upd_same (.cons (hb.same e3) (.cons (.int n) .nil)), ?_, e2.trans e3⟩
          show b.lets ++ [n] = _
          rw [hbl, List.take_add_one, hn]
          rfl
        · obtain ⟨vf, b, y3, rfl, hb, hbl, e2⟩ := h
          subst hk
          walk_at "rd"
          refine q _ _ b ?_ (e1.trans e2) hb
          rw [hbl, List.length_map, List.take_length]
    · rcases snoc_cases ns with rfl | ⟨nr, n0, rfl⟩
      · exact absurd h0 (by decide)
      rw [List.map_append] at hav
      have hwd : decide (way = 0) = false := decide_eq_false hw
      refine seqi fun k hk => ?_
      walk_at "rd"
      rw [hwd]
      refine ⟨rfl, iteF ?_⟩
      refine ⟨_, .inl (.inl hav), .int n0, atI_last _ _, ?_⟩
      subst hk
      refine seqi fun k hk => ?_
      walk_at "rd"
      rw [hwd]
      refine ⟨rfl, iteF ⟨_, .inl (.inl hav), fun a0 m0 => ?_⟩⟩
      have c0 : cutV (nr.map V.int ++ [n0].map V.int) none (some (-1)) = nr.map V.int := cut_last _ _
      rw [c0]
      have e0 : Same H (upd H a0 (.lst (nr.map V.int))) := same_new m0
      refine ⟨_, .inl (.inl upd_same), fun a1 n1 => ?_⟩
      have e1 := Same.new (o := .lst (nr.map V.int).reverse) e0 n1
      have g1 : (upd (upd H a0 (.lst (nr.map V.int))) a1 (.lst (nr.map V.int).reverse)) a1 = some (.lst (nr.reverse.map V.int)) := by
        rw [upd_same, List.map_reverse]
      generalize upd (upd H a0 (.lst (nr.map V.int))) a1 (.lst (nr.map V.int).reverse) = H1 at e1 g1
      refine ⟨⟨_, .inl (.inl g1)⟩, ?_⟩
      refine forg_by (jseq_list K a1 (nr.reverse.map V.int)) (fun i σ' H' => ∃ (vf : V) (b : Tr) (y3 : Option V), σ' = [some (.ref av), some (.int way), some vf, y3] ∧ Dt H' vf b.dat ∧ b.lets = (nr.reverse.take i).reverse ++ [n0] ∧ Same H1 H')
        ⟨_, .leaf n0, none, rfl, .int n0, rfl, Same.refl _⟩ (fun i σ' H' _ h => ?_) (fun i x σ' H2 hx h => ?_) (fun σ' H' h => ?_)
      · obtain ⟨_, _, _, _, _, _, e⟩ := h
        exact .inl (.inl (e _ _ g1))
      · obtain ⟨vf, b, y3, rfl, hb, hbl, e2⟩ := h
        obtain ⟨n, hn, rfl⟩ : ∃ n, nr.reverse[i]? = some n ∧ x = .int n := by
          rw [List.getElem?_map] at hx
          cases h9 : nr.reverse[i]? with
          | none => rw [h9] at hx; cases hx
          | some n => rw [h9] at hx; cases hx; exact ⟨n, rfl, rfl⟩
        walk_at "rd"
        rw [hwd]
        refine ⟨rfl, iteF ⟨(by show 2 ≤ sizeLine; decide), fun p np => ?_⟩⟩
        have e3 := same_new (o := .tup [.int n, vf]) np
        refine ⟨_, .node (.leaf n) b, _, ⟨rfl, rfl⟩, .tup upd_same (.cons (.int n) (.cons (hb.same e3) .nil)), ?_, e2.trans e3⟩
        show [n] ++ b.lets = _
        rw [hbl, List.take_add_one, hn, List.reverse_append]
        rfl
      · obtain ⟨vf, b, y3, rfl, hb, hbl, e2⟩ := h
        subst hk
        walk_at "rd"
        refine q _ _ b ?_ (e1.trans e2) hb
        rw [hbl, List.length_map, List.take_length, List.reverse_reverse]
end
end Fp

namespace Fp
open PySem PySem.Spec PyProof.Rows L2
local macro_rules | `(tactic| walk_at "rd") => `(tactic| simp only [cxK, cxKn, tRet, tRetN, rIntI, rIntB, rLenL, rListL, rListT, rAbs, tDisp, tPairs, tC, tCB, tCons, tNil, tSl, tVar, tNoPart, tPart, rSlL, tOp, tAsg, gName, tIfS, tDrop, tTest, tAnd, tOr, Evl.tCut, tNot, tB, rI0, rI, rIxL, rIxT, rIxD, tDGet, sDPut, tLst, tTup, tBM, tBM0, tPar, rAppend, rPopAt, rPop, rExtend, rTupL, tCall, tNext, rAll, rOwnIn, rOwn2, rCat, lc_iL, lc_iT, lc_iK, lc_iR, fr_iL, fr_iT, fr_iR, tYes, rIn, rEq, rNe, gTup, gCons, gNil, wipe, tMeth, tFld, sFld, tMake, tProp, tIf, tAndV, tOrV, tNotV, tTru, rIsi, rSum, tRevL, rU, tUn, if_true, if_false, Bool.false_eq_true, List.map_cons, List.map_nil, List.nil_append, List.append_nil, List.cons_append, List.getElem?_cons_zero, List.getElem?_cons_succ, Option.some.injEq, exists_and_left, exists_eq_left', exists_eq_left, List.cons.injEq, and_true, true_and, V.ref.injEq, V.int.injEq, V.str.injEq, V.bl.injEq, List.set_cons_zero, List.set_cons_succ])
section
variable {K : PySem.W.Frag} {P : Program} {w : World} {base : Heap} {mg : Str → Option Value} {aR aD C : Addr}
abbrev s__law_join : Stmt := topS 11
theorem sc__law_join : FnScope ["left", "right"] ["left", "right"] (defScope s__law_join) := ⟨rfl, rfl, rfl, by decide +kernel, rfl, by decide +kernel, by decide +kernel⟩
theorem ok_join {f : Addr} {fd : FuncData} (F : Fun K "_law_join" "_law_join" s__law_join f fd) : FnOk P w K mg base CX0 1 f fd ["left", "right"] (spOpn 1000 rStr gJoin) := by
  refine F.ok sc__law_join (fun vs H Q E h => ?_) (fun cdv A outer s H vs Q E hr h => ?_)
  · obtain ⟨x, y, n, m, rfl, _⟩ := h
    rfl
  · obtain ⟨x, y, n, m, rfl, ⟨a, rfl, ha⟩, ⟨b, rfl, hb⟩, hnm, q⟩ := h
    refine ⟨_, (pss_one (ps_ret (pe_op op_add_str (pe_op op_add_str (pe_op op_add_str pe_str (pv 0)) (pv 1)) pe_str))), ?_⟩
    show tRet _ _ [some (.str a), some (.str b)] H
    walk_at "rd"
    have e1 : ("(" : Str).length = 1 := rfl
    have e2 : (")" : Str).length = 1 := rfl
    have big : 10000 ≤ sizeLine := by decide
    have l1 : (("(" : Str) ++ a).length = 1 + a.length := by rw [Str.length_append, e1]
    have l2 : (("(" : Str) ++ a ++ b).length = 1 + a.length + b.length := by rw [Str.length_append, l1]
    exact ⟨by omega, by omega, by omega, q H (Same.refl _)⟩
abbrev s__law_text_of : Stmt := topS 12
theorem sc__law_text_of : FnScope ["tree", "todo", "found", "one"] ["tree"] (defScope s__law_text_of) := ⟨rfl, rfl, rfl, by decide +kernel, rfl, by decide +kernel, by decide +kernel⟩
theorem ok_text {f : Addr} {fd : FuncData} (F : Fun K "_law_text_of" "_law_text_of" s__law_text_of f fd) (m_isinstance : mg "isinstance" = none) (m_tuple : mg "tuple" = none) (m_str : mg "str" = none) : FnOk P w K mg base CX0 1 f fd ["tree"] spText := by
  refine F.ok sc__law_text_of (fun vs H Q E h => ?_) (fun cdv A outer s H vs Q E hr h => ?_)
  · obtain ⟨v, t, rfl, _⟩ := h
    rfl
  · obtain ⟨v, t, rfl, hv, hsz, hlt, q⟩ := h
    have hu64 := hr.units
    refine ⟨_, (pss_cons (ps_par (i := 1) (j := 2) rfl sc__law_text_of.nd rfl rfl (by decide) rfl rfl (pa_cons (pe_lst (pa_cons (pv 0) pa_nil)) (pa_cons pe_str pa_nil)) rfl)
    (pss_cons (ps_while PassesOwn.never (pt_cmpR (op_neC (K := K) hu64) (pv 1) (pe_lst pa_nil) (nomark _))
      (pss_cons (ps_set (i := 3) sc__law_text_of.nd rfl (.inl rfl) (pe_bm0K K (by rfl) (pe_bm0 PySem.F.plainAttrs_list PySem.F.slot_list_pop PySem.F.type_list_pop mt_pop (pv 1))))
        (pss_one (ps_if (pt_val (pe_callB (call_isi1 (K := K)) (by rfl) m_isinstance (by decide +kernel) (pa_cons (pv 3) (pa_cons (pe_bltn (v := .ty "tuple") rfl m_tuple (by decide +kernel) rfl) pa_nil))))
      (pss_cons (ps_set (i := 2) sc__law_text_of.nd rfl (.inl rfl) (pe_op op_add_str (pv 2) pe_str))
        (pss_one (ps_expr (pe_bmK K (by rfl) (pe_bm PySem.F.plainAttrs_list PySem.F.slot_list_extend PySem.F.type_list_extend mt_extend (pv 1) (pa_cons (pe_lst (pa_cons pe_str (pa_cons (pe_ix (ix_tupK K) (pv 3) pe_int (fun _ _ => rfl)) (pa_cons (pe_ix (ix_tupK K) (pv 3) pe_int (fun _ _ => rfl)) pa_nil)))) pa_nil))))))
      (pss_one (ps_set (i := 2) sc__law_text_of.nd rfl (.inl rfl) (pe_op op_add_str (pv 2) (pe_ifExp (pt_val (pe_callB (call_isi1 (K := K)) (by rfl) m_isinstance (by decide +kernel) (pa_cons (pv 3) (pa_cons (pe_bltn (v := .ty "str") rfl m_str (by decide +kernel) rfl) pa_nil)))) (pv 3) (pe_op op_add_str (pe_callTy call_str_int (by rfl) m_str (by decide +kernel) (pa_cons (pv 3) pa_nil)) pe_str)))))))))
    (pss_one (ps_ret (pv 2))))), ?_⟩
    show tSeq _ _ _ [some v, none, none, none] H
    refine seqi fun k hk => ?_
    walk_at "rd"
    refine ⟨(by show 1 ≤ sizeLine; decide), fun w1 hw1 => ⟨_, _, ⟨rfl, rfl⟩, ?_⟩⟩
    subst hk
    refine seqi fun k hk => ?_
    have tl := t.txt_len hlt
    have tz := t.sz_lets
    have big : 40000 ≤ sizeLine := by decide
    refine ⟨fun m σ' H' => ∃ (z : Str) (ws : List (Option Tr)) (W : List V) (y3 : Option V), σ' = [some v, some (.ref w1), some (.str z), y3] ∧ m = wSum ws ∧ H' w1 = some (.lst W) ∧ Dts H W (ws.map wDs) ∧ z ++ wTs ws.reverse = t.txt ∧ Same H H' ∧ wSum ws ≤ 10000 ∧ (∀ u, some u ∈ ws → ∀ n ∈ u.lets, 0 ≤ n ∧ n < 100),
      ⟨_, "", [some t], [v], none, rfl, rfl, upd_same, .cons hv .nil, ?_, same_new hw1, ?_, ?_⟩, ?_⟩
    · show ("" : Str) ++ (t.txt ++ "") = t.txt
      rw [es_app, app_es]
    · show t.sz + 0 ≤ 10000
      exact hsz
    · intro u hu
      rcases List.mem_singleton.mp hu with e
      cases e
      exact hlt
    · rintro m σ' H1 ⟨z, ws, W, y3, rfl, rfl, h2, hW, hp, e1, hb, hlw⟩
      have zl : z.length ≤ t.txt.length := by
        rw [← hp, Str.length_append]
        exact Nat.le_add_right _ _
      walk_at "rd"
      refine ⟨Nat.zero_le _, fun q1 hq1 => ?_⟩
      have e2 := Same.new (o := .lst []) e1 hq1
      have h2 := same_new (o := .lst []) hq1 _ _ h2
      refine ne_nilC (ds := ws.map wDs) (.lst h2 (hW.same e2)) (lay_ws _) upd_same ⟨_, rfl, ?_⟩
      generalize upd H1 q1 (.lst []) = H1 at e2 h2
      rcases snoc_cases ws with rfl | ⟨ws, x, rfl⟩
      · cases hW
        refine iteF ?_
        subst hk
        walk_at "rd"
        have hp : z = t.txt := by rw [← hp]; exact (app_es _).symm
        rw [hp]
        exact q _ e2
      · rw [List.map_append] at hW
        obtain ⟨W, b, rfl, hWs, hx⟩ := dts_split hW
        obtain ⟨y, rfl, hy⟩ := hx.one
        rw [wSum_app] at hb
        rw [List.reverse_append] at hp
        have hp : z ++ (wT x ++ wTs ws.reverse) = t.txt := hp
        have hlw' : ∀ u, some u ∈ ws → ∀ n ∈ u.lets, 0 ≤ n ∧ n < 100 := fun u hu => hlw u (List.mem_append_left _ hu)
        have ne : (!((ws ++ [x]).map wDs).isEmpty) = true := by cases ws <;> rfl
        rw [ne]
        refine iteT ⟨fun σ2 H2 => ∃ (z : Str) (ws' : List (Option Tr)) (W' : List V) (y3 : Option V), σ2 = [some v, some (.ref w1), some (.str z), y3] ∧ wSum ws' < wSum (ws ++ [x]) ∧ H2 w1 = some (.lst W') ∧ Dts H W' (ws'.map wDs) ∧ z ++ wTs ws'.reverse = t.txt ∧ Same H H2 ∧ wSum ws' ≤ 10000 ∧ (∀ u, some u ∈ ws' → ∀ n ∈ u.lets, 0 ≤ n ∧ n < 100),
          fun σ2 H2 ⟨z, ws', W', y3, a1, a2, a3, a4, a5, a6, a7, a8⟩ => ⟨_, a2, z, ws', W', y3, a1, rfl, a3, a4, a5, a6, a7, a8⟩, ?_⟩
        refine seqi fun k1 hk1 => ?_
        walk_at "rd"
        refine ⟨.inl ⟨rfl, _, .inl (.inl h2)⟩, _, h2, y, by rw [List.length_append, List.length_singleton, Nat.add_sub_cancel, List.getElem?_append_right (Nat.le_refl _), Nat.sub_self]; rfl, ?_⟩
        rw [List.dropLast_concat]
        have m1 : ∀ o, Same H (upd H1 w1 o) := fun o => Same.mut e2 hw1
        have g2 : (upd H1 w1 (.lst W)) w1 = some (.lst W) := upd_same
        subst hk1
        walk_at "rd"
        match x, hy, hp, hb, hlw with
        | none, hy, hp, hb, hlw =>
          obtain rfl : y = .str ")" := hy.txt
          refine ⟨_, _, ⟨rfl, rfl⟩, .type "str", .type "tuple", .ty _, .base (.str _), false, kit_ty (by decide +kernel), iteF ?_⟩
          refine ⟨_, _, ⟨rfl, rfl⟩, .type "str", .type "str", .ty _, .base (.str _), true, kit_ty (by decide +kernel), iteT ?_⟩
          have e1 : (")" : Str).length = 1 := rfl
          refine ⟨")", rfl, by omega, _, ws, W, _, ⟨rfl, rfl⟩, ?_, g2, hWs, ?_, m1 _, by omega, hlw'⟩
          · rw [wSum_app]
            exact Nat.lt_succ_self _
          · rw [Str.append_assoc]
            exact hp
        | some (.leaf n), hy, hp, hb, hlw =>
          obtain rfl : y = .int n := Dt.num hy
          obtain ⟨n0, n1⟩ := hlw _ (List.mem_append_right _ (List.mem_singleton.mpr rfl)) n (List.mem_singleton.mpr rfl)
          refine ⟨_, _, ⟨rfl, rfl⟩, .type "int", .type "tuple", .ty _, .base (.int _), false, kit_ty (by decide +kernel), iteF ?_⟩
          have nl := num_len n0 n1
          have e1 : ("." : Str).length = 1 := rfl
          refine ⟨_, _, ⟨rfl, rfl⟩, .type "int", .type "str", .ty _, .base (.int _), false, kit_ty (by decide +kernel), iteF ?_⟩
          refine ⟨n, rfl, num_log n0 n1, by omega, by rw [Str.length_append]; omega, _, ws, W, _, ⟨rfl, rfl⟩, ?_, g2, hWs, ?_, m1 _, by omega, hlw'⟩
          · rw [wSum_app]
            exact Nat.lt_succ_self _
          · rw [Str.append_assoc]
            exact hp
        | some (.node l r), hy, hp, hb, hlw =>
          obtain ⟨ay, x1, x2, rfl, hay, d1, d2⟩ := Dt.pair hy
          have hay' := m1 (.lst W) _ _ hay
          refine ⟨_, _, ⟨rfl, rfl⟩, .type "tuple", .type "tuple", .ty _, .base (.tup hay'), true, kit_ty (by decide +kernel), iteT ?_⟩
          refine seqi fun k1 hk1 => ?_
          walk_at "rd"
          have e1 : ("(" : Str).length = 1 := rfl
          refine ⟨by omega, ?_⟩
          subst hk1
          walk_at "rd"
          refine ⟨.inl ⟨rfl, _, .inl (.inl g2)⟩, _, .inl (.inl hay'), x2, rfl, _, .inl (.inl hay'), x1, rfl, (by show 3 ≤ sizeLine; decide), fun q1 hq1 => ?_⟩
          have nwq : w1 ≠ q1 := ne_of_none g2 hq1
          have lW : W.length ≤ 10000 := by
            have e1 := hWs.len
            rw [List.length_map] at e1
            have e2 : ∀ l : List (Option Tr), l.length ≤ wSum l := fun l => by
              induction l with
              | nil => exact Nat.le_refl _
              | cons a l ih =>
                have : 1 ≤ wSz a := by
                  cases a with
                  | none => exact Nat.le_refl _
                  | some t => cases t <;> exact Nat.succ_le_succ (Nat.zero_le _)
                show l.length + 1 ≤ wSz a + wSum l
                omega
            have := e2 ws
            omega
          have e3 : wSum [none, some r, some l] = 1 + (r.sz + (l.sz + 0)) := rfl
          have e4 : wSum [some (Tr.node l r)] = l.sz + r.sz + 2 + 0 := rfl
          refine ⟨_, (upd_ne nwq).trans g2, _, upd_same, Nat.le_trans (Nat.add_le_add_right lW 3) (by show 10003 ≤ sizeLine; decide), _, ws ++ [none, some r, some l], W ++ [.str ")", x2, x1], _, ⟨rfl, rfl⟩, ?_, upd_same, ?_, ?_, Same.mut (Same.new (m1 _) hq1) hw1, ?_, fun u hu n hn => ?_⟩
          · rw [wSum_app, wSum_app]
            omega
          · rw [List.map_append]
            exact hWs.app (.cons (.str _) (.cons d2 (.cons d1 .nil)))
          · rw [List.reverse_append]
            show z ++ "(" ++ (l.txt ++ (r.txt ++ (")" ++ wTs ws.reverse))) = _
            rw [← hp]
            show _ = z ++ (("(" ++ l.txt ++ r.txt ++ ")") ++ wTs ws.reverse)
            rw [Str.append_assoc, Str.append_assoc, Str.append_assoc, Str.append_assoc]
          · rw [wSum_app]
            omega
          · have hlr := hlw (.node l r) (List.mem_append_right _ (List.mem_singleton.mpr rfl))
            rcases List.mem_append.mp hu with hu | hu
            · exact hlw' u hu n hn
            · simp only [List.mem_cons, List.not_mem_nil, or_false, Option.some.injEq, reduceCtorEq, false_or] at hu
              rcases hu with rfl | rfl
              · exact hlr n (List.mem_append_right _ hn)
              · exact hlr n (List.mem_append_left _ hn)
end
end Fp

namespace Fp
open PySem PySem.Spec PyProof.Rows L2
local macro_rules | `(tactic| walk_at "rd") => `(tactic| simp only [cxK, cxKn, tRet, tRetN, rIntI, rIntB, rLenL, rListL, rListT, rAbs, tDisp, tPairs, tC, tCB, tCons, tNil, tSl, tVar, tNoPart, tPart, rSlL, tOp, tAsg, gName, tIfS, tDrop, tTest, tAnd, tOr, Evl.tCut, tNot, tB, rI0, rI, rIxL, rIxT, rIxD, tDGet, sDPut, tLst, tTup, tBM, tBM0, tPar, rAppend, rPopAt, rPop, rExtend, rTupL, tCall, tNext, rAll, rOwnIn, rOwn2, rCat, lc_iL, lc_iT, lc_iK, lc_iR, fr_iL, fr_iT, fr_iR, tYes, rIn, rEq, rNe, gTup, gCons, gNil, wipe, tMeth, tFld, sFld, tMake, tProp, tIf, tAndV, tOrV, tNotV, tTru, rIsi, rSum, tRevL, rU, tUn, if_true, if_false, Bool.false_eq_true, List.map_cons, List.map_nil, List.nil_append, List.append_nil, List.cons_append, List.getElem?_cons_zero, List.getElem?_cons_succ, Option.some.injEq, exists_and_left, exists_eq_left', exists_eq_left, List.cons.injEq, and_true, true_and, V.ref.injEq, V.int.injEq, V.str.injEq, V.bl.injEq, List.set_cons_zero, List.set_cons_succ])
section
variable {K : PySem.W.Frag} {P : Program} {w : World} {base : Heap} {mg : Str → Option Value} {aR aD C : Addr}
def spLawT (K : PySem.W.Frag) (TT : List (Addr × Str)) : Sp := fun vs H Q _ => ∃ (a : Addr) (ns : List Int), vs = [.ref a] ∧ SqL K H a (ns.map V.int) ∧ ns.length ≤ 63 ∧ LamX.Tabs TT H ∧ ∀ H', Q (.bl true) H'
abbrev s_law : Stmt := topS 13
theorem sc_law : FnScope ["script", "pen", "turn", "many", "row", "tree", "told", "numbers", "due", "k", "letter"] ["script"] (defScope s_law) := ⟨rfl, rfl, rfl, by decide +kernel, rfl, by decide +kernel, by decide +kernel⟩
theorem ok_law {f cL fj : Addr} {TT : List (Addr × Str)} {oc kV doc pm ct : Value} {od an : Option Addr} {osl : Array (Option Value)}
    (lk : K.lookup f = some ⟨oc, od, .func (PySem.W.fnOf "law" "law" (defArgs s_law) (defBody s_law) (defScope s_law) .none kV doc pm an (.ref cL) ct), osl⟩) (hcd : PySem.W.codeIn K (.ref cL) "law" = true)
    (MK : Mak base mg TT (.ref cL) ("law" ++ ".<locals>." ++ "<lambda>")) (m_range : mg "range" = none) (m_len : mg "len" = none) (m_min : mg "min" = none) (m_isinstance : mg "isinstance" = none) (m_list : mg "list" = none) (m_str : mg "str" = none) (m_sum : mg "sum" = none)
    (m__law_join : mg "_law_join" = some (.ref fj)) (HJ : Held P w K mg base 2 fj (spOpn 1000 rStr gJoin))
    (D_law_pen : Dn P w K mg base 1 "_law_pen" ["script"] (spPen K)) (D_law_draw : Dn P w K mg base 1 "_law_draw" ["pen", "span"] spDraw) (D_law_pick : Dn P w K mg base 2 "_law_pick" ["pen", "options"] spPick)
    (D_law_bracketed : Dn P w K mg base 2 "_law_bracketed" ["pen", "words"] spBrk) (D_law_comb : Dn P w K mg base 1 "_law_comb" ["row", "way"] spComb) (D_law_leaves : Dn P w K mg base 1 "_law_leaves" ["part"] spLets) (D_law_text_of : Dn P w K mg base 1 "_law_text_of" ["tree"] spText)
    (Dletters : Dn P w K mg base 2 "letters" ["tree"] spLets) (Dvalue_of : Dn P w K mg base 3 "value_of" ["tree", "values", "operation"] (spVal P w K mg base 2)) : FnOk P w K mg base CX0 4 f (PySem.W.fnOf "law" "law" (defArgs s_law) (defBody s_law) (defScope s_law) .none kV doc pm an (.ref cL) ct) ["script"] (spLawT K TT) := by
  refine fn_cd lk hcd sc_law (fun vs H Q E h => ?_) (fun A outer s H vs Q E hr h => ?_)
  · obtain ⟨a, ns, rfl, _⟩ := h
    rfl
  · obtain ⟨a, ns, rfl, hS, hlen, hT, q⟩ := h
    have hu64 := hr.units
    refine ⟨_, (pss_cons (ps_set (i := 1) sc_law.nd rfl (.inr rfl) (pd D_law_pen (hr.mono (by decide)) (by rfl) (pa_cons (pv 0) pa_nil)))
    (pss_cons (ps_for PassesOwn.never rfl (pi_range1 rfl m_range (pa_cons (pe_op op_add pe_int (pe_callB (call_min2 rfl) (by rfl) m_min (by decide +kernel) (pa_cons pe_int (pa_cons (pe_callB (call_lenK K) (by rfl) m_len PySem.boot_len (pa_cons (pv 0) pa_nil)) pa_nil)))) pa_nil)) (pg_name (i := 2) sc_law.nd rfl (.inl rfl))
      (pss_cons (ps_set (i := 3) sc_law.nd rfl (.inl rfl) (pd D_law_pick (hr.mono (by decide)) (by rfl) (pa_cons (pv 1) (pa_cons (pe_lst (pa_cons pe_int (pa_cons pe_int (pa_cons pe_int (pa_cons pe_int (pa_cons pe_int (pa_cons pe_int pa_nil))))))) pa_nil))))
        (pss_cons (ps_setLc (i := 4) (own := [("k", 9)]) rfl sc_law.nd rfl rfl (sw_true rfl rfl rfl (by decide +kernel)) (pi_range1 rfl m_range (pa_cons (pv 3) pa_nil)) (blkOk_by (by kernel_rfl)) (fun _ _ _ _ _ => (pg_name (i := 9) sc_law.nd rfl (.inl rfl))) (fun _ _ _ _ _ => pts_nil) (fun _ _ _ _ _ => (pd D_law_draw (hr.mono (by decide)) (by rfl) (pa_cons (pv 1) (pa_cons (pd D_law_pick (hr.mono (by decide)) (by rfl) (pa_cons (pv 1) (pa_cons (pe_lst (pa_cons pe_int (pa_cons pe_int (pa_cons pe_int pa_nil)))) pa_nil))) pa_nil)))))
        (pss_cons (ps_set (i := 5) sc_law.nd rfl (.inl rfl) (pd D_law_bracketed (hr.mono (by decide)) (by rfl) (pa_cons (pv 1) (pa_cons (pv 4) pa_nil))))
        (pss_cons (ps_if (pt_cmpR op_eq (pd D_law_draw (hr.mono (by decide)) (by rfl) (pa_cons (pv 1) (pa_cons pe_int pa_nil))) pe_int (nomark _))
      (pss_cons (ps_setLc (i := 4) (own := [("k", 9)]) rfl sc_law.nd rfl rfl (sw_true rfl rfl rfl (by decide +kernel)) (pi_range1 rfl m_range (pa_cons (pe_op op_add pe_int (pd D_law_draw (hr.mono (by decide)) (by rfl) (pa_cons (pv 1) (pa_cons pe_int pa_nil)))) pa_nil)) (blkOk_by (by kernel_rfl)) (fun _ _ _ _ _ => (pg_name (i := 9) sc_law.nd rfl (.inl rfl))) (fun _ _ _ _ _ => pts_nil) (fun _ _ _ _ _ => (pd D_law_draw (hr.mono (by decide)) (by rfl) (pa_cons (pv 1) (pa_cons pe_int pa_nil)))))
        (pss_one (ps_set (i := 5) sc_law.nd rfl (.inl rfl) (pd D_law_comb (hr.mono (by decide)) (by rfl) (pa_cons (pv 4) (pa_cons (pd D_law_draw (hr.mono (by decide)) (by rfl) (pa_cons (pv 1) (pa_cons pe_int pa_nil))) pa_nil))))))
      pss_nil)
        (pss_cons (ps_set (i := 6) sc_law.nd rfl (.inl rfl) (pd Dletters (hr.mono (by decide)) (by rfl) (pa_cons (pv 5) pa_nil)))
        (pss_cons (ps_if (PW.pt (pw_or (pt_not (pt_val (pe_callB (call_isi1 (K := K)) (by rfl) m_isinstance (by decide +kernel) (pa_cons (pv 6) (pa_cons (pe_bltn (v := .ty "list") rfl m_list (by decide +kernel) rfl) pa_nil))))) (pw_or1 (pt_cmpR (op_neDK K hu64) (pv 6) (pv 4) (nomark _)))))
      (pss_one (ps_ret pe_bl))
      pss_nil)
        (pss_cons (ps_expr (pe_bmK K (by rfl) (pe_bm PySem.F.plainAttrs_list PySem.F.slot_list_append PySem.F.type_list_append mt_append (pv 6) (pa_cons pe_int pa_nil))))
        (pss_cons (ps_if (PW.pt (pw_or (pt_cmpR (op_neDK K hu64) (pd Dletters (hr.mono (by decide)) (by rfl) (pa_cons (pv 5) pa_nil)) (pv 4) (nomark _)) (pw_or1 (pt_cmpR (op_neDK K hu64) (pd D_law_leaves (hr.mono (by decide)) (by rfl) (pa_cons (pv 5) pa_nil)) (pv 4) (nomark _)))))
      (pss_one (ps_ret pe_bl))
      pss_nil)
        (pss_cons (ps_if (pt_cmpR op_ne (pd Dvalue_of (hr.mono (by decide)) (by rfl) (pa_cons (pv 5) (pa_cons (pe_lc (own := [("k", 9)]) rfl sc_law.nd (pi_range1 rfl m_range (pa_cons pe_int pa_nil)) (blkOk_by (by kernel_rfl)) (fun _ _ _ _ _ => (pg_name (i := 9) sc_law.nd rfl (.inl rfl))) (fun _ _ _ _ _ => pts_nil) (fun _ _ _ _ _ => (pe_op op_add_str (pe_callTy call_str_int (by rfl) m_str (by decide +kernel) (pa_cons (pv 9) pa_nil)) pe_str))) (pa_cons (pe_glob rfl m__law_join (v := .ref fj) rfl) pa_nil)))) (pd D_law_text_of (hr.mono (by decide)) (by rfl) (pa_cons (pv 5) pa_nil)) (nomark _))
      (pss_one (ps_ret pe_bl))
      pss_nil)
        (pss_cons (ps_set (i := 7) sc_law.nd rfl (.inr rfl) (pe_lc (own := [("k", 9)]) rfl sc_law.nd (pi_range1 rfl m_range (pa_cons pe_int pa_nil)) (blkOk_by (by kernel_rfl)) (fun _ _ _ _ _ => (pg_name (i := 9) sc_law.nd rfl (.inl rfl))) (fun _ _ _ _ _ => pts_nil) (fun _ _ _ _ _ => (pe_op op_sub (pd D_law_draw (hr.mono (by decide)) (by rfl) (pa_cons (pv 1) (pa_cons (pe_op op_pow pe_int pe_int) pa_nil))) (pe_op op_pow pe_int pe_int)))))
        (pss_cons (ps_set (i := 8) sc_law.nd rfl (.inl rfl) (pe_callB (cr_sumK (K := K) rfl) (by rfl) m_sum (by decide +kernel) (pa_cons (pe_lc (own := [("letter", 10)]) rfl sc_law.nd (pi_listK K (pv 4)) (blkOk_by (by kernel_rfl)) (fun _ _ _ _ _ => (pg_name (i := 10) sc_law.nd rfl (.inl rfl))) (fun _ _ _ _ _ => pts_nil) (fun _ _ _ _ _ => (pe_ix (ix_listK K) (pv 7) (pv 10) (fun _ _ => rfl)))) pa_nil)))
        (pss_cons (ps_if (pt_cmpR op_ne (pd Dvalue_of (hr.mono (by decide)) (by rfl) (pa_cons (pv 5) (pa_cons (pv 7) (pa_cons (pe_lamV (T := TT) MK rfl rfl (by decide +kernel) rfl) pa_nil)))) (pv 8) (nomark _))
      (pss_one (ps_ret pe_bl))
      pss_nil)
        (pss_one (ps_if (pt_cmpR op_ne (pd Dvalue_of (hr.mono (by decide)) (by rfl) (pa_cons (pv 5) (pa_cons (pv 7) (pa_cons (pe_lamV (T := TT) MK rfl rfl (by decide +kernel) rfl) pa_nil)))) (pe_ix (ix_listK K) (pv 7) (pe_ix (ix_listK K) (pv 4) pe_int (fun _ _ => rfl)) (fun _ _ => rfl)) (nomark _))
      (pss_one (ps_ret pe_bl))
      pss_nil)))))))))))))))
    (pss_one (ps_ret pe_bl)))), ?_⟩
    show tSeq _ _ _ [some (.ref a), none, none, none, none, none, none, none, none, none, none] H
    refine seqi fun k0 hk0 => ?_
    walk_at "rd"
    refine ⟨a, ns, rfl, hS, hlen, fun H1 p c np e1 P1 => ?_⟩
    have hT1 := hT.ext e1
    have hS1 : SqL K H1 a (ns.map V.int) := Same.seq e1 hS
    subst hk0
    refine seqi fun k0 hk0 => ?_
    walk_at "rd"
    refine ⟨_, hS1, 5, _, ⟨rfl, rfl⟩, ?_⟩
    obtain ⟨cnt, hcnt, hc8⟩ : ∃ cnt : Nat, (3 + if (((ns.map V.int).length : Nat) : Int) < 5 then (((ns.map V.int).length : Nat) : Int) else 5) = (cnt : Int) ∧ cnt ≤ 8 := by
      by_cases h5 : (((ns.map V.int).length : Nat) : Int) < 5
      · rw [if_pos h5]
        exact ⟨3 + (ns.map V.int).length, by omega, by omega⟩
      · rw [if_neg h5]
        exact ⟨8, rfl, Nat.le_refl _⟩
    rw [hcnt]
    refine ⟨by omega, by omega, ?_⟩
    rw [Int.toNat_natCast]
    clear hcnt
    refine forg_by (jseq_rng 0 cnt) (fun i σ' H' => ∃ y2 y3 y4 y5 y6 y7 y8 y9 y10, σ' = [some (.ref a), some (.ref p), y2, y3, y4, y5, y6, y7, y8, y9, y10] ∧ PenOk H' p c (1000 * i) ∧ LamX.Tabs TT H')
      ⟨none, none, none, none, none, none, none, none, none, rfl, P1, hT1⟩ (fun i σ' H' _ h => trivial) (fun i x σ' H4 hx h => ?_) (fun σ' H' h => ?_)
    · obtain ⟨y2, y3, y4, y5, y6, y7, y8, y9, y10, rfl, P4, hT4⟩ := h
      have hi : i < cnt := by
        have := (List.getElem?_eq_some_iff.mp hx).1
        rw [rngV_len] at this
        exact this
      clear hx
      obtain ⟨kvs4, hp4⟩ := P4.dict
      walk_at "rd"
      refine seqi fun k1 hk1 => ?_
      walk_at "rd"
      refine ⟨(by show 6 ≤ sizeLine; decide), fun o1 no1 => ?_⟩
      have e5 : Same H4 (upd H4 o1 (.lst [.int 1, .int 2, .int 3, .int 5, .int 9, .int 40])) := same_new no1
      have d5 : Dt (upd H4 o1 (.lst [.int 1, .int 2, .int 3, .int 5, .int 9, .int 40])) (.ref o1) (.list (([1, 2, 3, 5, 9, 40] : List Int).map PyData.int)) := .lst upd_same (dts_ints ([1, 2, 3, 5, 9, 40] : List Int))
      refine ⟨p, c, _, _, _, rfl, P4.same e5, by omega, d5, by decide, by decide, fun v6 H6 d hd hv6 P6 b6 => ?_⟩
      have hp5 := e5 _ _ hp4
      have b46 := (But.of e5).trans b6
      have hT6 := tabs_but hp4 b46 hT4
      obtain ⟨many, hm, rfl⟩ := List.mem_map.mp hd
      obtain rfl : v6 = .int many := hv6.num
      obtain ⟨mn, rfl, hm1, hm40⟩ : ∃ mn : Nat, many = (mn : Int) ∧ 0 < mn ∧ mn ≤ 40 := by
        simp only [List.mem_cons, List.not_mem_nil, or_false] at hm
        rcases hm with rfl | rfl | rfl | rfl | rfl | rfl
        · exact ⟨1, rfl, by decide, by decide⟩
        · exact ⟨2, rfl, by decide, by decide⟩
        · exact ⟨3, rfl, by decide, by decide⟩
        · exact ⟨5, rfl, by decide, by decide⟩
        · exact ⟨9, rfl, by decide, by decide⟩
        · exact ⟨40, rfl, by decide, by decide⟩
      clear hm hd hv6 d5 e5 hp4 hp5 b6 b46 hT4 P4 no1
      obtain ⟨kvs6, hp6⟩ := P6.dict
      obtain ⟨cxs6, hcx6⟩ := P6.cells
      subst hk1
      refine seqi fun k1 hk1 => ?_
      walk_at "rd"
      refine ⟨by omega, by omega, ?_⟩
      rw [Int.toNat_natCast]
      refine lcg_by (jseq_rng 0 mn) (fun D j acc H' => ∃ ls : List Int, ls.length = j ∧ j ≤ 40 ∧ acc = ls.map V.int ∧ H' D = some (.lst acc) ∧ But p H6 H' ∧ PenOk H' p c (1000 * i + 1 + 2 * j) ∧ ∀ n ∈ ls, 0 ≤ n ∧ n < 51)
        (fun D hD => ⟨[], rfl, by omega, rfl, upd_same, But.of (same_new hD), P6.same (same_new hD), fun n hn => absurd hn List.not_mem_nil⟩) (fun D j acc H' hD hj h => trivial) (fun D j x acc H' hD hx h => ?_) (fun D acc H' hD h => ?_)
      · obtain ⟨ls, hll, hj9, rfl, hacc, b7, P7, hls⟩ := h
        have hjl : j < mn := by
          have := (List.getElem?_eq_some_iff.mp hx).1
          rw [rngV_len] at this
          exact this
        have npD : D ≠ p := (ne_of_none hp6 hD).symm
        have ncD : D ≠ c := (ne_of_none hcx6 hD).symm
        obtain ⟨kvs7, hp7⟩ := P7.dict
        walk_at "rd"
        refine ⟨(by show 3 ≤ sizeLine; decide), fun o2 no2 => ?_⟩
        have e8 : Same H' (upd H' o2 (.lst [.int 2, .int 9, .int 50])) := same_new no2
        have d8 : Dt (upd H' o2 (.lst [.int 2, .int 9, .int 50])) (.ref o2) (.list (([2, 9, 50] : List Int).map PyData.int)) := .lst upd_same (dts_ints ([2, 9, 50] : List Int))
        refine ⟨p, c, _, _, _, rfl, P7.same e8, by omega, d8, by decide, by decide, fun v9 H9 d hd hv9 P9 b9 => ?_⟩
        obtain ⟨sp, hm, rfl⟩ := List.mem_map.mp hd
        obtain rfl : v9 = .int sp := hv9.num
        have hsp : sp = 2 ∨ sp = 9 ∨ sp = 50 := by
          simp only [List.mem_cons, List.not_mem_nil, or_false] at hm
          exact hm
        refine ⟨p, c, sp, _, rfl, P9, by omega, by omega, ?_, fun r H10 r0 r1 P10 b10 => ?_⟩
        · obtain ⟨z, rfl⟩ : ∃ z : Nat, sp = z := ⟨sp.toNat, by omega⟩
          exact lg_small (by omega)
        have b710 := ((But.of e8).trans b9).trans b10
        have hacc10 := b710.1 _ _ hacc npD
        refine ⟨_, hacc10, ?_, _, ls ++ [r], by rw [List.length_append, hll]; rfl, by omega, rfl, ?_, ((b7.trans b710).mut hD), (P10.mut npD ncD).mono (by omega), fun n hn => ?_⟩
        · rw [List.length_map, hll]
          exact small1000 (by omega)
        · rw [upd_same, List.map_append]
          rfl
        · rcases List.mem_append.mp hn with hn | hn
          · exact hls n hn
          · rw [List.mem_singleton.mp hn]
            omega
      · obtain ⟨ls, hll, _, rfl, hacc, b7, P7, hls⟩ := h
        rw [rngV_len] at hll P7
        have hT7 := tabs_but hp6 b7 hT6
        have dL : Dt H' (.ref D) (.list (ls.map PyData.int)) := .lst hacc (dts_ints ls)
        obtain ⟨kvs7, hp7⟩ := P7.dict
        clear hacc b7 hD hT6 hp6 hcx6 P6
        subst hk1
        refine seqi fun k1 hk1 => ?_
        walk_at "rd"
        refine ⟨p, c, _, _, ls, rfl, P7, by omega, dL, by omega, by omega, fun v8 H8 b hb hv8 P8 b8 => ?_⟩
        have dL8 := dL.but hp7 b8
        have hT8 := tabs_but hp7 b8 hT7
        have P8 : PenOk H8 p c (1000 * i + 200) := P8.mono (by omega)
        obtain ⟨kvs8, hp8⟩ := P8.dict
        clear dL hT7 hp7 b8 P7
        subst hk1
        refine seqi fun k1 hk1 => ?_
        walk_at "rd"
        have rest : ∀ (D : Addr) (v : V) (t : Tr) (y9 y10 : Option V) (H : Hp), Dt H (.ref D) (.list (t.lets.map PyData.int)) → Dt H v t.dat → t.lets.length ≤ 301 → (∀ n ∈ t.lets, 0 ≤ n ∧ n < 51) → PenOk H p c (1000 * i + 700) → LamX.Tabs TT H →
            k1 [some (.ref a), some (.ref p), some x, some (.int mn), some (.ref D), some v, y6, y7, y8, y9, y10] H := by
          clear hls hv8 hT8 hp8 dL8
          intro D v t y9 y10 H dR hv hlt hls P hT
          obtain ⟨aR, xsR, eR, haR, hxR⟩ := dR.list
          cases eR
          obtain rfl := hxR.ints
          have hsz := t.sz_lets
          have hpos := t.lets_pos
          have shR : Shp 1 (.list (t.lets.map PyData.int)) := shp_lst fun d hd => by
            obtain ⟨n, _, rfl⟩ := List.mem_map.mp hd
            exact shp_int n
          have evR : PyData.eqv (.list (t.lets.map PyData.int)) (.list (t.lets.map PyData.int)) = true := by
            show PyData.eqvAll _ _ = true
            generalize t.lets = l
            induction l with
            | nil => rfl
            | cons n l ih =>
              show (PyData.eqv (.int n) (.int n) && PyData.eqvAll (l.map PyData.int) (l.map PyData.int)) = true
              rw [ih, Bool.and_true]
              show ((n == n) = true)
              exact beq_self_eq_true n
          subst hk1
          refine seqi fun k1 hk1 => ?_
          walk_at "rd"
          refine ⟨v, t, rfl, hv, by omega, fun a1 H1 na1 e1 h1 => ?_⟩
          subst hk1
          refine seqi fun k1 hk1 => ?_
          walk_at "rd"
          obtain ⟨_, xs1, eR1, ha1, hx1⟩ := h1.list
          cases eR1
          obtain rfl := hx1.ints
          refine ⟨_, _, ⟨rfl, rfl⟩, .type "list", .type "list", .ty _, .base (.lst ha1), true, kit_ty (by decide +kernel), iteF ?_⟩
          refine ⟨_, _, h1.dp, (dR.same e1).dp, shR.ok (by decide), shR.ok (by decide), ?_⟩
          rw [evR]
          refine ⟨_, rfl, iteF ?_⟩
          subst hk1
          refine seqi fun k1 hk1 => ?_
          walk_at "rd"
          refine ⟨.inl ⟨rfl, _, .inl (.inl ha1)⟩, _, ha1, by rw [List.length_map]; exact small1000 (by omega), ?_⟩
          have e2 : Same H (upd H1 a1 (.lst (t.lets.map V.int ++ [.int 0]))) := Same.mut e1 na1
          generalize upd H1 a1 (.lst (t.lets.map V.int ++ [.int 0])) = H2 at e2
          clear ha1 h1 e1 hx1
          subst hk1
          refine seqi fun k1 hk1 => ?_
          walk_at "rd"
          refine ⟨v, t, rfl, hv.same e2, by omega, fun a3 H3 na3 e3 h3 => ?_⟩
          have e3 := e2.trans e3
          refine ⟨_, _, h3.dp, (dR.same e3).dp, shR.ok (by decide), shR.ok (by decide), ?_⟩
          rw [evR]
          refine ⟨_, rfl, iteF ?_⟩
          refine ⟨v, t, rfl, hv.same e3, by omega, fun a4 H4 na4 e4 h4 => ?_⟩
          have e4 := e3.trans e4
          refine ⟨_, _, h4.dp, (dR.same e4).dp, shR.ok (by decide), shR.ok (by decide), ?_⟩
          rw [evR]
          refine ⟨_, rfl, iteF ?_⟩
          clear h3 h4 e3 e2
          subst hk1
          refine seqi fun k1 hk1 => ?_
          walk_at "rd"
          refine ⟨by decide, by decide, ?_⟩
          rw [show Int.toNat 51 = 51 from rfl]
          refine lcg_pure (jseq_rng 0 51) trivial (by decide) (fun _ => true) (fun x => match x with | .int k => .str (Str.ofString (toString k) ++ ".") | _ => .non) (fun x hx H5 e5 R1 R0 r1 r0 => ?_) (fun D5 H5 hD5 e5 h5 => ?_)
          · obtain ⟨j, hj, rfl⟩ := rng_mem hx
            walk_at "rd"
            have nl := num_len (n := (j : Int)) (by omega) (by omega)
            have e1 : ("." : Str).length = 1 := rfl
            exact ⟨num_log (by omega) (by omega), Nat.le_trans (show (Str.ofString (toString (j : Int))).length + ("." : Str).length ≤ 1000 by omega) (by decide), r1 rfl _ (Same.refl _)⟩
          have e5 := e4.trans e5
          refine ⟨v, D5, fj, t, _, gJoin, rStr, 1000, rfl, hv.same e5, by omega, h5, .inl HJ, gJoin_ok, fun n hn => ⟨(hls n hn).1, _, rng_at (hls n hn).1 (hls n hn).2, _, rfl, ?_⟩, by omega, fun H6 e6 => ?_⟩
          · have nl := num_len (n := n) (hls n hn).1 (by have := (hls n hn).2; omega)
            rw [Str.length_append]
            have e1 : ("." : Str).length = 1 := rfl
            omega
          rw [ev_txt t fun n hn => rng_at (hls n hn).1 (hls n hn).2]
          have e6 := e5.trans e6
          refine ⟨v, t, rfl, hv.same e6, by omega, fun n hn => ⟨(hls n hn).1, by have := (hls n hn).2; omega⟩, fun H7 e7 => ⟨rfl, ?_⟩⟩
          rw [decide_eq_true (rfl : V.str t.txt = _)]
          refine iteF ?_
          have e7 := e6.trans e7
          have dR := dR.same e7
          have hv := hv.same e7
          have P := P.same e7
          have hT := hT.ext e7
          clear haR hxR e7 e6 e5 h5 hD5 e4
          subst hk1
          refine seqi fun k1 hk1 => ?_
          walk_at "rd"
          obtain ⟨kvs7, hp7⟩ := P.dict
          obtain ⟨cxs7, hcx7⟩ := P.cells
          refine ⟨by decide, by decide, ?_⟩
          rw [show Int.toNat 51 = 51 from rfl]
          refine lcg_by (jseq_rng 0 51) (fun D j acc H' => ∃ ls : List Int, ls.length = j ∧ j ≤ 51 ∧ acc = ls.map V.int ∧ H' D = some (.lst acc) ∧ But p H7 H' ∧ PenOk H' p c (1000 * i + 700 + j))
            (fun D hD => ⟨[], rfl, by omega, rfl, upd_same, But.of (same_new hD), P.same (same_new hD)⟩) (fun D j acc H' hD hj h => trivial) (fun D j x acc H' hD hx h => ?_) (fun D8 acc H8 hD h => ?_)
          · obtain ⟨ls, hll, hj9, rfl, hacc, b11, P11⟩ := h
            have hjl : j < 51 := by
              have := (List.getElem?_eq_some_iff.mp hx).1
              rw [rngV_len] at this
              exact this
            have npD : D ≠ p := (ne_of_none hp7 hD).symm
            have ncD : D ≠ c := (ne_of_none hcx7 hD).symm
            walk_at "rd"
            refine ⟨⟨by decide, by decide, by decide⟩, p, c, _, _, rfl, P11, by omega, by decide, by decide, fun r H12 r0 r1 P12 b12 => ⟨⟨by decide, by decide, by decide⟩, r, rfl, ?_⟩⟩
            have hacc12 := b12.1 _ _ hacc npD
            refine ⟨_, hacc12, ?_, _, ls ++ [r - 10 ^ Int.toNat 5], by rw [List.length_append, hll]; rfl, by omega, rfl, ?_, ((b11.trans b12).mut hD), (P12.mut npD ncD).mono (by omega)⟩
            · rw [List.length_map, hll]
              exact small1000 (by omega)
            · rw [upd_same, List.map_append]
              rfl
          · obtain ⟨ns8, hll, _, rfl, hacc, b8, P8⟩ := h
            have hll : ns8.length = 51 := hll
            have dR := dR.but hp7 b8
            have hv := hv.but hp7 b8
            have hT := tabs_but hp7 b8 hT
            have P8 : PenOk H8 p c (1000 * i + 751) := P8
            clear b8 P hD hp7 hcx7
            subst hk1
            refine seqi fun k1 hk1 => ?_
            walk_at "rd"
            obtain ⟨_, xsR, eR, haR, hxR⟩ := dR.list
            cases eR
            obtain rfl := hxR.ints
            obtain ⟨nm, hnm⟩ : ∃ nm : Int → Int, ∀ n ∈ t.lets, (ns8.map V.int)[n.toNat]? = some (.int (nm n)) := ⟨fun n => ns8.getD n.toNat 0, fun n hn => by
              have h1 := hls n hn
              have h2 : n.toNat < ns8.length := by omega
              show _ = some (V.int (ns8.getD n.toNat 0))
              rw [List.getElem?_map, List.getD_eq_getElem?_getD, List.getElem?_eq_getElem h2]
              rfl⟩
            refine ⟨⟨_, .inl (.inl haR)⟩, ?_⟩
            refine lcg_pure (jseq_list K D (t.lets.map V.int)) (.inl (.inl haR)) (by rw [List.length_map]; omega) (fun _ => true) (fun x => match x with | .int k => .int (nm k) | _ => .non) (fun x hx H5 e5 R1 R0 r1 r0 => ?_) (fun D9 H9 hD9 e9 h9 => ?_)
            · obtain ⟨n, hn, rfl⟩ := List.mem_map.mp hx
              obtain ⟨n0, n1⟩ := hls n hn
              walk_at "rd"
              obtain ⟨z, rfl⟩ : ∃ z : Nat, n = (z : Int) := ⟨n.toNat, by omega⟩
              exact ⟨_, .inl (.inl (e5 _ _ hacc)), _, atI_nat (j := z) (hnm _ hn), r1 rfl _ (Same.refl _)⟩
            have h9 : H9 D9 = some (.lst ((t.lets.map nm).map V.int)) := by
              rw [h9, List.filter_eq_self.mpr (fun _ _ => rfl), List.map_map, List.map_map]
              rfl
            refine ⟨D9, rfl, _, .inl (.inl h9), ?_⟩
            have hacc := e9 _ _ hacc
            have dR := dR.same e9
            have hv := hv.same e9
            have hT := hT.ext e9
            have P9 := P8.same e9
            clear haR hxR h9 hD9 e9 P8
            subst hk1
            refine seqi fun k1 hk1 => ?_
            walk_at "rd"
            refine ⟨hT, fun fl H10 eN T10 hl => ?_⟩
            have hacc := eN _ _ hacc (by intro ps z; cases z)
            have dR := dR.ext eN
            have hv := hv.ext eN
            have P10 := P9.ext eN
            clear eN hT P9
            refine ⟨v, D8, fl, t, _, gAdd, rInt, 1000, rfl, hv, by omega, hacc, .inr ⟨_, ["a", "b"], hl, ⟨⟨rfl, rfl, rfl, by decide +kernel, rfl, by decide +kernel, by decide +kernel⟩, fun c pm ctv us hu => ?_, fun vs H Q h => ?_, fun f c A outer s H vs Q hr h => ?_⟩, by decide⟩, fun n m x y h1 h2 => ?_, fun n hn => ⟨(hls n hn).1, _, hnm n hn, _, rfl⟩, by omega, fun H11 e11 => ?_⟩
            · match us, hu with
              | [_, _], _ => rfl
            · obtain ⟨x, y, n, m, rfl, _⟩ := h
              rfl
            · obtain ⟨x, y, n, m, rfl, ⟨i, rfl⟩, ⟨j, rfl⟩, _, q⟩ := h
              refine ⟨_, pe_op op_add (pv 0) (pv 1), ?_⟩
              show tOp _ _ _ [some (.int i), some (.int j)] H Q
              walk_at "rd"
              exact q H (Same.refl _)
            · obtain ⟨a, rfl⟩ := h1
              obtain ⟨b, rfl⟩ := h2
              exact ⟨_, rfl⟩
            rw [ev_sum nm t hnm]
            refine ⟨rfl, ?_⟩
            rw [decide_eq_true (rfl : V.int (t.lets.map nm).sum = _)]
            refine iteF ?_
            have hacc := e11 _ _ hacc
            have dR := dR.same e11
            have hv := hv.same e11
            have P11 := P10.same e11
            have hT := T10.ext e11
            clear e11 P10 hl T10
            subst hk1
            walk_at "rd"
            refine ⟨hT, fun fl H12 eN T12 hl => ?_⟩
            have hacc := eN _ _ hacc (by intro ps z; cases z)
            have dR := dR.ext eN
            have hv := hv.ext eN
            have P12 := P11.ext eN
            clear eN hT P11
            refine ⟨v, D8, fl, t, _, gFst, rInt, 1000, rfl, hv, by omega, hacc, .inr ⟨_, ["a", "b"], hl, ⟨⟨rfl, rfl, rfl, by decide +kernel, rfl, by decide +kernel, by decide +kernel⟩, fun c pm ctv us hu => ?_, fun vs H Q h => ?_, fun f c A outer s H vs Q hr h => ?_⟩, by decide⟩, fun n m x y h1 h2 => ?_, fun n hn => ⟨(hls n hn).1, _, hnm n hn, _, rfl⟩, by omega, fun H13 e13 => ?_⟩
            · match us, hu with
              | [_, _], _ => rfl
            · obtain ⟨x, y, n, m, rfl, _⟩ := h
              rfl
            · obtain ⟨x, y, n, m, rfl, ⟨i, rfl⟩, ⟨j, rfl⟩, _, q⟩ := h
              refine ⟨_, (pv 0), ?_⟩
              exact ⟨_, rfl, q H (Same.refl _)⟩
            · exact h1
            obtain ⟨n, hn0, hev⟩ := ev_fst (vals := ns8.map V.int) t
            have hn : n ∈ t.lets := List.mem_of_getElem? hn0
            rw [hev, List.getD_eq_getElem?_getD, hnm n hn]
            obtain ⟨_, xsR, eR, haR, hxR⟩ := dR.list
            cases eR
            obtain rfl := hxR.ints
            obtain ⟨z, hz⟩ : ∃ z : Nat, n = (z : Int) := ⟨n.toNat, by have := (hls n hn).1; omega⟩
            refine ⟨_, .inl (.inl (e13 _ _ haR)), .int n, atI_nat (j := 0) (by rw [List.getElem?_map, hn0]; rfl), _, n, rfl, .inl (.inl (e13 _ _ hacc)), .int (nm n), ?_, rfl, ?_⟩
            · have h := hnm n hn
              rw [hz] at h ⊢
              exact atI_nat (j := z) h
            show (if (!decide (V.int (nm n) = V.int (nm n))) = true then _ else _)
            rw [decide_eq_true (rfl : V.int (nm n) = _)]
            refine iteF ?_
            exact ⟨_, _, _, _, _, _, _, _, _, ⟨rfl, rfl, rfl, rfl, rfl, rfl, rfl, rfl, rfl⟩, (P12.same e13).mono (by omega), T12.ext e13⟩
        refine ⟨p, c, 4, _, rfl, P8, by omega, by decide, by decide, fun r9 H9 r90 r91 P9 b9 => ?_⟩
        have dL9 := dL8.but hp8 b9
        have hv9 := hv8.but hp8 b9
        have hT9 := tabs_but hp8 b9 hT8
        obtain ⟨kvs9, hp9⟩ := P9.dict
        obtain ⟨cxs9, hcx9⟩ := P9.cells
        refine ⟨rfl, ite2 (fun _ => ?_) (fun _ => ?_)⟩
        · refine seqi fun k2 hk2 => ?_
          walk_at "rd"
          refine ⟨p, c, 51, _, rfl, P9, by omega, by decide, by decide, fun r10 H10 r100 r101 P10 b10 => ?_⟩
          have hT10 := tabs_but hp9 b10 hT9
          obtain ⟨kvs10, hp10⟩ := P10.dict
          obtain ⟨cxs10, hcx10⟩ := P10.cells
          obtain ⟨m, rfl⟩ : ∃ m : Nat, r10 = (m : Int) := ⟨r10.toNat, by omega⟩
          refine ⟨m, rfl, by omega, by omega, ?_⟩
          rw [show ((250 : Int) + (m : Int)).toNat = 250 + m by omega]
          refine lcg_by (jseq_rng 0 (250 + m)) (fun D j acc H' => ∃ ls : List Int, ls.length = j ∧ j ≤ 300 ∧ acc = ls.map V.int ∧ H' D = some (.lst acc) ∧ But p H10 H' ∧ PenOk H' p c (1000 * i + 300 + j) ∧ ∀ n ∈ ls, 0 ≤ n ∧ n < 51)
            (fun D hD => ⟨[], rfl, by omega, rfl, upd_same, But.of (same_new hD), (P10.same (same_new hD)).mono (by omega), fun n hn => absurd hn List.not_mem_nil⟩) (fun D j acc H' hD hj h => trivial) (fun D j x acc H' hD hx h => ?_) (fun D acc H' hD h => ?_)
          · obtain ⟨ls, hll, hj9, rfl, hacc, b11, P11, hls⟩ := h
            have hjl : j < 250 + m := by
              have := (List.getElem?_eq_some_iff.mp hx).1
              rw [rngV_len] at this
              exact this
            have npD : D ≠ p := (ne_of_none hp10 hD).symm
            have ncD : D ≠ c := (ne_of_none hcx10 hD).symm
            walk_at "rd"
            refine ⟨p, c, 7, _, rfl, P11, by omega, by decide, by decide, fun r H12 r0 r1 P12 b12 => ?_⟩
            have hacc12 := b12.1 _ _ hacc npD
            refine ⟨_, hacc12, ?_, _, ls ++ [r], by rw [List.length_append, hll]; rfl, by omega, rfl, ?_, ((b11.trans b12).mut hD), (P12.mut npD ncD).mono (by omega), fun n hn => ?_⟩
            · rw [List.length_map, hll]
              exact small1000 (by omega)
            · rw [upd_same, List.map_append]
              rfl
            · rcases List.mem_append.mp hn with hn | hn
              · exact hls n hn
              · rw [List.mem_singleton.mp hn]
                omega
          · obtain ⟨ls, hll, _, rfl, hacc, b11, P11, hls⟩ := h
            rw [rngV_len] at hll P11
            have hT11 := tabs_but hp10 b11 hT10
            have dL11 : Dt H' (.ref D) (.list (ls.map PyData.int)) := .lst hacc (dts_ints ls)
            obtain ⟨kvs11, hp11⟩ := P11.dict
            subst hk2
            walk_at "rd"
            refine ⟨p, c, 2, _, rfl, P11, by omega, by decide, by decide, fun r12 H12 r120 r121 P12 b12 => ?_⟩
            have hT12 := tabs_but hp11 b12 hT11
            have dL12 := dL11.but hp11 b12
            refine ⟨.ref D, r12, ls, rfl, dL12, by omega, by omega, fun v13 H13 b2 hb2 e13 hv13 => ?_⟩
            exact rest D v13 b2 y9 y10 H13 (by rw [hb2]; exact dL12.same e13) hv13 (by rw [hb2]; omega) (fun n hn => hls n (hb2 ▸ hn)) ((P12.same e13).mono (by omega)) (hT12.ext e13)
        · exact rest D v8 b y9 y10 H9 (by rw [hb]; exact dL9) hv9 (by rw [hb]; omega) (fun n hn => hls n (hb ▸ hn)) (P9.mono (by omega)) hT9
    · obtain ⟨y2, y3, y4, y5, y6, y7, y8, y9, y10, rfl, P4, hT4⟩ := h
      subst hk0
      walk_at "rd"
      exact q _
end
end Fp

namespace Fp
open PySem PySem.Spec PyProof.Rows L2
local macro_rules | `(tactic| walk_at "rd") => `(tactic| simp only [cxK, cxKn, tRet, tRetN, rIntI, rIntB, rLenL, rListL, rListT, rAbs, tDisp, tPairs, tC, tCB, tCons, tNil, tSl, tVar, tNoPart, tPart, rSlL, tOp, tAsg, gName, tIfS, tDrop, tTest, tAnd, tOr, Evl.tCut, tNot, tB, rI0, rI, rIxL, rIxT, rIxD, tDGet, sDPut, tLst, tTup, tBM, tBM0, tPar, rAppend, rPopAt, rPop, rExtend, rTupL, tCall, tNext, rAll, rOwnIn, rOwn2, rCat, lc_iL, lc_iT, lc_iK, lc_iR, fr_iL, fr_iT, fr_iR, tYes, rIn, rEq, rNe, gTup, gCons, gNil, wipe, tMeth, tFld, sFld, tMake, tProp, tIf, tAndV, tOrV, tNotV, tTru, rIsi, rSum, tRevL, rU, tUn, if_true, if_false, Bool.false_eq_true, List.map_cons, List.map_nil, List.nil_append, List.append_nil, List.cons_append, List.getElem?_cons_zero, List.getElem?_cons_succ, Option.some.injEq, exists_and_left, exists_eq_left', exists_eq_left, List.cons.injEq, and_true, true_and, V.ref.injEq, V.int.injEq, V.str.injEq, V.bl.injEq, List.set_cons_zero, List.set_cons_succ])
theorem all_mk {l : PySem.W.OpenLaw} {w : World} {K : PySem.W.Frag} {h : Heap} {mg : Str → Option Value} {fa cL P : Addr} (X : K.In h) (G : h.Ns mainGlobals mg) (hfa : mg "law" = some (.ref fa))
    {f_it f_lt f_vo f_pe f_dr f_pi f_lv f_br f_co f_jo f_tx f_la : Addr} {od_it an_it od_lt an_lt od_vo an_vo od_pe an_pe od_dr an_dr od_pi an_pi od_lv an_lv od_br an_br od_co an_co od_jo an_jo od_tx an_tx od_la an_la : Option Addr} {sl_it sl_lt sl_vo sl_pe sl_dr sl_pi sl_lv sl_br sl_co sl_jo sl_tx sl_la : Array (Option Value)}
    {oc_it kV_it dc_it pm_it cd_it ct_it oc_lt kV_lt dc_lt pm_lt cd_lt ct_lt oc_vo kV_vo dc_vo pm_vo cd_vo ct_vo oc_pe kV_pe dc_pe pm_pe cd_pe ct_pe oc_dr kV_dr dc_dr pm_dr cd_dr ct_dr oc_pi kV_pi dc_pi pm_pi cd_pi ct_pi oc_lv kV_lv dc_lv pm_lv cd_lv ct_lv oc_br kV_br dc_br pm_br cd_br ct_br oc_co kV_co dc_co pm_co cd_co ct_co oc_jo kV_jo dc_jo pm_jo cd_jo ct_jo oc_tx kV_tx dc_tx pm_tx cd_tx ct_tx oc_la kV_la dc_la pm_la ct_la : Value}
    (a_it : PySem.W.nsIn K mainGlobals "_in_turn" = some (some (.ref f_it)))
    (l_it : K.lookup f_it = some ⟨oc_it, od_it, .func (PySem.W.fnOf "_in_turn" "_in_turn" (defArgs s__in_turn) (defBody s__in_turn) (defScope s__in_turn) .none kV_it dc_it pm_it an_it cd_it ct_it), sl_it⟩)
    (c_it : PySem.W.codeIn K cd_it "_in_turn" = true)
    (k_it : PySem.W.keepIn K (.ref f_it) = true)
    (a_lt : PySem.W.nsIn K mainGlobals "letters" = some (some (.ref f_lt)))
    (l_lt : K.lookup f_lt = some ⟨oc_lt, od_lt, .func (PySem.W.fnOf "letters" "letters" (defArgs s_letters) (defBody s_letters) (defScope s_letters) .none kV_lt dc_lt pm_lt an_lt cd_lt ct_lt), sl_lt⟩)
    (c_lt : PySem.W.codeIn K cd_lt "letters" = true)
    (k_lt : PySem.W.keepIn K (.ref f_lt) = true)
    (a_vo : PySem.W.nsIn K mainGlobals "value_of" = some (some (.ref f_vo)))
    (l_vo : K.lookup f_vo = some ⟨oc_vo, od_vo, .func (PySem.W.fnOf "value_of" "value_of" (defArgs s_value_of) (defBody s_value_of) (defScope s_value_of) .none kV_vo dc_vo pm_vo an_vo cd_vo ct_vo), sl_vo⟩)
    (c_vo : PySem.W.codeIn K cd_vo "value_of" = true)
    (k_vo : PySem.W.keepIn K (.ref f_vo) = true)
    (a_pe : PySem.W.nsIn K mainGlobals "_law_pen" = some (some (.ref f_pe)))
    (l_pe : K.lookup f_pe = some ⟨oc_pe, od_pe, .func (PySem.W.fnOf "_law_pen" "_law_pen" (defArgs s__law_pen) (defBody s__law_pen) (defScope s__law_pen) .none kV_pe dc_pe pm_pe an_pe cd_pe ct_pe), sl_pe⟩)
    (c_pe : PySem.W.codeIn K cd_pe "_law_pen" = true)
    (k_pe : PySem.W.keepIn K (.ref f_pe) = true)
    (a_dr : PySem.W.nsIn K mainGlobals "_law_draw" = some (some (.ref f_dr)))
    (l_dr : K.lookup f_dr = some ⟨oc_dr, od_dr, .func (PySem.W.fnOf "_law_draw" "_law_draw" (defArgs s__law_draw) (defBody s__law_draw) (defScope s__law_draw) .none kV_dr dc_dr pm_dr an_dr cd_dr ct_dr), sl_dr⟩)
    (c_dr : PySem.W.codeIn K cd_dr "_law_draw" = true)
    (k_dr : PySem.W.keepIn K (.ref f_dr) = true)
    (a_pi : PySem.W.nsIn K mainGlobals "_law_pick" = some (some (.ref f_pi)))
    (l_pi : K.lookup f_pi = some ⟨oc_pi, od_pi, .func (PySem.W.fnOf "_law_pick" "_law_pick" (defArgs s__law_pick) (defBody s__law_pick) (defScope s__law_pick) .none kV_pi dc_pi pm_pi an_pi cd_pi ct_pi), sl_pi⟩)
    (c_pi : PySem.W.codeIn K cd_pi "_law_pick" = true)
    (k_pi : PySem.W.keepIn K (.ref f_pi) = true)
    (a_lv : PySem.W.nsIn K mainGlobals "_law_leaves" = some (some (.ref f_lv)))
    (l_lv : K.lookup f_lv = some ⟨oc_lv, od_lv, .func (PySem.W.fnOf "_law_leaves" "_law_leaves" (defArgs s__law_leaves) (defBody s__law_leaves) (defScope s__law_leaves) .none kV_lv dc_lv pm_lv an_lv cd_lv ct_lv), sl_lv⟩)
    (c_lv : PySem.W.codeIn K cd_lv "_law_leaves" = true)
    (k_lv : PySem.W.keepIn K (.ref f_lv) = true)
    (a_br : PySem.W.nsIn K mainGlobals "_law_bracketed" = some (some (.ref f_br)))
    (l_br : K.lookup f_br = some ⟨oc_br, od_br, .func (PySem.W.fnOf "_law_bracketed" "_law_bracketed" (defArgs s__law_bracketed) (defBody s__law_bracketed) (defScope s__law_bracketed) .none kV_br dc_br pm_br an_br cd_br ct_br), sl_br⟩)
    (c_br : PySem.W.codeIn K cd_br "_law_bracketed" = true)
    (k_br : PySem.W.keepIn K (.ref f_br) = true)
    (a_co : PySem.W.nsIn K mainGlobals "_law_comb" = some (some (.ref f_co)))
    (l_co : K.lookup f_co = some ⟨oc_co, od_co, .func (PySem.W.fnOf "_law_comb" "_law_comb" (defArgs s__law_comb) (defBody s__law_comb) (defScope s__law_comb) .none kV_co dc_co pm_co an_co cd_co ct_co), sl_co⟩)
    (c_co : PySem.W.codeIn K cd_co "_law_comb" = true)
    (k_co : PySem.W.keepIn K (.ref f_co) = true)
    (a_jo : PySem.W.nsIn K mainGlobals "_law_join" = some (some (.ref f_jo)))
    (l_jo : K.lookup f_jo = some ⟨oc_jo, od_jo, .func (PySem.W.fnOf "_law_join" "_law_join" (defArgs s__law_join) (defBody s__law_join) (defScope s__law_join) .none kV_jo dc_jo pm_jo an_jo cd_jo ct_jo), sl_jo⟩)
    (c_jo : PySem.W.codeIn K cd_jo "_law_join" = true)
    (k_jo : PySem.W.keepIn K (.ref f_jo) = true)
    (a_tx : PySem.W.nsIn K mainGlobals "_law_text_of" = some (some (.ref f_tx)))
    (l_tx : K.lookup f_tx = some ⟨oc_tx, od_tx, .func (PySem.W.fnOf "_law_text_of" "_law_text_of" (defArgs s__law_text_of) (defBody s__law_text_of) (defScope s__law_text_of) .none kV_tx dc_tx pm_tx an_tx cd_tx ct_tx), sl_tx⟩)
    (c_tx : PySem.W.codeIn K cd_tx "_law_text_of" = true)
    (k_tx : PySem.W.keepIn K (.ref f_tx) = true)
    (a_la : PySem.W.nsIn K mainGlobals "law" = some (some (.ref f_la)))
    (l_la : K.lookup f_la = some ⟨oc_la, od_la, .func (PySem.W.fnOf "law" "law" (defArgs s_law) (defBody s_law) (defScope s_law) .none kV_la dc_la pm_la an_la (.ref cL) ct_la), sl_la⟩)
    (c_la : PySem.W.codeIn K (.ref cL) "law" = true)
    (k_la : PySem.W.keepIn K (.ref f_la) = true)
    (z_list : PySem.W.nsIn K mainGlobals "list" = some none)
    (z_tuple : PySem.W.nsIn K mainGlobals "tuple" = some none)
    (z_isinstance : PySem.W.nsIn K mainGlobals "isinstance" = some none)
    (z_range : PySem.W.nsIn K mainGlobals "range" = some none)
    (z_int : PySem.W.nsIn K mainGlobals "int" = some none)
    (z_len : PySem.W.nsIn K mainGlobals "len" = some none)
    (z_abs : PySem.W.nsIn K mainGlobals "abs" = some none)
    (z_min : PySem.W.nsIn K mainGlobals "min" = some none)
    (z_str : PySem.W.nsIn K mainGlobals "str" = some none)
    (z_sum : PySem.W.nsIn K mainGlobals "sum" = some none)
    (hTab : h.get? P = some { cls := .none, data := .fields #[] })
    (hNo : K.lookup P = none)
    (hHd : PySem.W.CodeHd h cL P)
    : LamX.LawAtS l w K CX0 4 63 "script" mg fa h := by
  have e := hfa.symm.trans (PySem.W.mg_of X G a_la)
  cases e
  have F_it := fun_mk (st := s__in_turn) l_it c_it k_it
  have b_it := F_it.binds (ps := ["tree"]) fun _ _ _ _ _ _ us hl => match us, hl with | [_], _ => rfl
  have F_lt := fun_mk (st := s_letters) l_lt c_lt k_lt
  have b_lt := F_lt.binds (ps := ["tree"]) fun _ _ _ _ _ _ us hl => match us, hl with | [_], _ => rfl
  have F_vo := fun_mk (st := s_value_of) l_vo c_vo k_vo
  have b_vo := F_vo.binds (ps := ["tree", "values", "operation"]) fun _ _ _ _ _ _ us hl => match us, hl with | [_, _, _], _ => rfl
  have F_pe := fun_mk (st := s__law_pen) l_pe c_pe k_pe
  have b_pe := F_pe.binds (ps := ["script"]) fun _ _ _ _ _ _ us hl => match us, hl with | [_], _ => rfl
  have F_dr := fun_mk (st := s__law_draw) l_dr c_dr k_dr
  have b_dr := F_dr.binds (ps := ["pen", "span"]) fun _ _ _ _ _ _ us hl => match us, hl with | [_, _], _ => rfl
  have F_pi := fun_mk (st := s__law_pick) l_pi c_pi k_pi
  have b_pi := F_pi.binds (ps := ["pen", "options"]) fun _ _ _ _ _ _ us hl => match us, hl with | [_, _], _ => rfl
  have F_lv := fun_mk (st := s__law_leaves) l_lv c_lv k_lv
  have b_lv := F_lv.binds (ps := ["part"]) fun _ _ _ _ _ _ us hl => match us, hl with | [_], _ => rfl
  have F_br := fun_mk (st := s__law_bracketed) l_br c_br k_br
  have b_br := F_br.binds (ps := ["pen", "words"]) fun _ _ _ _ _ _ us hl => match us, hl with | [_, _], _ => rfl
  have F_co := fun_mk (st := s__law_comb) l_co c_co k_co
  have b_co := F_co.binds (ps := ["row", "way"]) fun _ _ _ _ _ _ us hl => match us, hl with | [_, _], _ => rfl
  have F_jo := fun_mk (st := s__law_join) l_jo c_jo k_jo
  have b_jo := F_jo.binds (ps := ["left", "right"]) fun _ _ _ _ _ _ us hl => match us, hl with | [_, _], _ => rfl
  have F_tx := fun_mk (st := s__law_text_of) l_tx c_tx k_tx
  have b_tx := F_tx.binds (ps := ["tree"]) fun _ _ _ _ _ _ us hl => match us, hl with | [_], _ => rfl
  refine ⟨PySem.W.fnOf "law" "law" (defArgs s_law) (defBody s_law) (defScope s_law) .none kV_la dc_la pm_la an_la (.ref cL) ct_la, [(cL, P)], spLawT K [(P, "law" ++ ".<locals>." ++ "<lambda>")], fun p hp => ?_, fun p hp => ?_, fun p hp => ?_, fun s v => .of_eq rfl, fun H a ns hn _ hH hS => ?_, fun base _ _ hB => ?_⟩
  · rw [List.mem_singleton.mp hp]; exact hTab
  · rw [List.mem_singleton.mp hp]; exact hNo
  · rw [List.mem_singleton.mp hp]; exact hHd
  · exact ⟨a, ns, rfl, hS, hn, fun p hp => by rw [List.mem_singleton.mp hp]; exact LamX.TabS.nil (hH (cL, P) (List.mem_singleton.mpr rfl)), fun _ => rfl⟩
  have D_it : Dn l.prog w K mg base 1 "_in_turn" ["tree"] spTurn := ⟨f_it, _, PySem.W.mg_of X G a_it, k_it, b_it, ok_turn F_it (PySem.W.mg_none_of X G z_isinstance) (PySem.W.mg_none_of X G z_tuple)⟩
  have D_lt : Dn l.prog w K mg base 2 "letters" ["tree"] spLets := ⟨f_lt, _, PySem.W.mg_of X G a_lt, k_lt, b_lt, ok_letters F_lt D_it⟩
  have D_vo : Dn l.prog w K mg base 3 "value_of" ["tree", "values", "operation"] (spVal l.prog w K mg base 2) := ⟨f_vo, _, PySem.W.mg_of X G a_vo, k_vo, b_vo, ok_value F_vo D_it⟩
  have D_pe : Dn l.prog w K mg base 1 "_law_pen" ["script"] (spPen K) := ⟨f_pe, _, PySem.W.mg_of X G a_pe, k_pe, b_pe, ok_pen F_pe (PySem.W.mg_none_of X G z_list)⟩
  have D_dr : Dn l.prog w K mg base 1 "_law_draw" ["pen", "span"] spDraw := ⟨f_dr, _, PySem.W.mg_of X G a_dr, k_dr, b_dr, ok_draw F_dr (PySem.W.mg_none_of X G z_int) (PySem.W.mg_none_of X G z_len) (PySem.W.mg_none_of X G z_abs)⟩
  have D_pi : Dn l.prog w K mg base 2 "_law_pick" ["pen", "options"] spPick := ⟨f_pi, _, PySem.W.mg_of X G a_pi, k_pi, b_pi, ok_pick F_pi D_dr (PySem.W.mg_none_of X G z_len)⟩
  have D_lv : Dn l.prog w K mg base 1 "_law_leaves" ["part"] spLets := ⟨f_lv, _, PySem.W.mg_of X G a_lv, k_lv, b_lv, ok_leaves F_lv (PySem.W.mg_none_of X G z_isinstance) (PySem.W.mg_none_of X G z_tuple)⟩
  have D_br : Dn l.prog w K mg base 2 "_law_bracketed" ["pen", "words"] spBrk := ⟨f_br, _, PySem.W.mg_of X G a_br, k_br, b_br, ok_brk F_br D_dr (PySem.W.mg_none_of X G z_len) (PySem.W.mg_none_of X G z_list)⟩
  have D_co : Dn l.prog w K mg base 1 "_law_comb" ["row", "way"] spComb := ⟨f_co, _, PySem.W.mg_of X G a_co, k_co, b_co, ok_comb F_co⟩
  have D_tx : Dn l.prog w K mg base 1 "_law_text_of" ["tree"] spText := ⟨f_tx, _, PySem.W.mg_of X G a_tx, k_tx, b_tx, ok_text F_tx (PySem.W.mg_none_of X G z_isinstance) (PySem.W.mg_none_of X G z_tuple) (PySem.W.mg_none_of X G z_str)⟩
  have MK : Mak base mg [(P, "law" ++ ".<locals>." ++ "<lambda>")] (.ref cL) ("law" ++ ".<locals>." ++ "<lambda>") := ⟨cL, P, rfl, hB (cL, P) (List.mem_singleton.mpr rfl), List.mem_singleton.mpr rfl, fun p hp _ => by rw [List.mem_singleton.mp hp]⟩
  have HJ : Held l.prog w K mg base 2 f_jo (spOpn 1000 rStr gJoin) := ⟨_, ["left", "right"], (ok_join F_jo).mono (by decide), k_jo, b_jo⟩
  exact ok_law l_la c_la MK (PySem.W.mg_none_of X G z_range) (PySem.W.mg_none_of X G z_len) (PySem.W.mg_none_of X G z_min) (PySem.W.mg_none_of X G z_isinstance) (PySem.W.mg_none_of X G z_list) (PySem.W.mg_none_of X G z_str) (PySem.W.mg_none_of X G z_sum) (PySem.W.mg_of X G a_jo) HJ D_pe D_dr D_pi D_br D_co D_lv D_tx D_lt D_vo
end Fp
open PySem PySem.W PyProof.Rows
set_option maxHeartbeats 0 in
theorem PySem.Challenge.cw_foldplans_k30_letters_and_values_holds : PySem.Challenge.rw_foldplans_k30_letters_and_values.Holds := by
  w_on; o_law; k_head; (case hw => w_witness2)
  k_fill
  refine LamX.walk_ofTs (l := PySem.Challenge.rw_foldplans_k30_letters_and_values) (n := 63) (k := 4) (x := "script") (CX := fun _ => L2.CX0) rfl (by decide) rfl ⟨rfl, by decide, by decide⟩ (fun w h Y => PySem.W.km_in_of Y) ?F (fun _ _ _ _ _ h => h)
  case F =>
    intro w mg fa h Y KX G hmg
    have hT8 := PySem.W.km_tabs_of Y
    refine' Fp.all_mk KX G hmg ?a_it ?l_it ?c_it ?k_it ?a_lt ?l_lt ?c_lt ?k_lt ?a_vo ?l_vo ?c_vo ?k_vo ?a_pe ?l_pe ?c_pe ?k_pe ?a_dr ?l_dr ?c_dr ?k_dr ?a_pi ?l_pi ?c_pi ?k_pi ?a_lv ?l_lv ?c_lv ?k_lv ?a_br ?l_br ?c_br ?k_br ?a_co ?l_co ?c_co ?k_co ?a_jo ?l_jo ?c_jo ?k_jo ?a_tx ?l_tx ?c_tx ?k_tx ?a_la ?l_la ?c_la ?k_la ?z_list ?z_tuple ?z_isinstance ?z_range ?z_int ?z_len ?z_abs ?z_min ?z_str ?z_sum ?hTab ?hNo ?hHd
    (case a_it => k_is); (case l_it => k_is); (case c_it => k_is); (case k_it => k_is); (case a_lt => k_is); (case l_lt => k_is); (case c_lt => k_is); (case k_lt => k_is)
    (case a_vo => k_is); (case l_vo => k_is); (case c_vo => k_is); (case k_vo => k_is); (case a_pe => k_is); (case l_pe => k_is); (case c_pe => k_is); (case k_pe => k_is)
    (case a_dr => k_is); (case l_dr => k_is); (case c_dr => k_is); (case k_dr => k_is); (case a_pi => k_is); (case l_pi => k_is); (case c_pi => k_is); (case k_pi => k_is)
    (case a_lv => k_is); (case l_lv => k_is); (case c_lv => k_is); (case k_lv => k_is); (case a_br => k_is); (case l_br => k_is); (case c_br => k_is); (case k_br => k_is)
    (case a_co => k_is); (case l_co => k_is); (case c_co => k_is); (case k_co => k_is); (case a_jo => k_is); (case l_jo => k_is); (case c_jo => k_is); (case k_jo => k_is)
    (case a_tx => k_is); (case l_tx => k_is); (case c_tx => k_is); (case k_tx => k_is); (case a_la => k_is); (case l_la => k_is); (case c_la => k_is); (case k_la => k_is)
    (case z_list => k_is); (case z_tuple => k_is); (case z_isinstance => k_is); (case z_range => k_is); (case z_int => k_is); (case z_len => k_is); (case z_abs => k_is); (case z_min => k_is)
    (case z_str => k_is); (case z_sum => k_is)
    (case hTab => exact hT8 _ (List.mem_singleton.mpr rfl))
    (case hNo => kernel_rfl)
    (case hHd => exact PySem.W.codeHd_of_K KX (by kernel_rfl))
